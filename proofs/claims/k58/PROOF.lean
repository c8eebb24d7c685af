import PyProof.Rows.All
import Wide.All
import OpenK.AllK
import Wide.FinOn
import Lean
import PyProof.EqAt
import PyProof.EqKinds
import PyProof.TupleCall
import PyProof.ZipIter
import PyProof.EnumMake
import PyProof.ListRange
import KE.KDictList
import KE.LcSums
import KE.KTabLook
import PyProof.P3In
import KE.KDictLaws
import PyProof.DictCompW
import PyProof.DictWalks
import PyProof.DictItemsLoops
import PySem.Challenge.RW_lazyrails_k58_whole_fate_of_any_yard
set_option Elab.async false
set_option linter.all false
set_option maxRecDepth 100000
open List (pairwise_append mem_range)
open List renaming mem_append_right→wD,mem_cons_of_mem→wE,length_map→wF,append_assoc→wG,getElem?_eq_getElem→wH,mem_of_getElem?→wI,mem_cons_self→wJ,length_append→wK,map_append→wL,getElem?_map→wM,map_cons→wN,size_toArray→wO,mem_cons→wP,length_cons→wQ,getElem?_append_right→wR,length_replicate→wS,length_singleton→wT,append_nil→wU,length_take→wV,mem_map_of_mem→wW,mem_map→wX,mem_append_left→wY,not_mem_nil→wZ,getElem?_append_left→xa,mem_append→xb,lookup_cons→xc,find?_cons→xf,map_map→xg,mem_singleton→xh
noncomputable section
namespace L2
open PySem PySem.Spec PyProof.Rows
theorem U.{u} {α:Sort u}{a:α}:a=a:=rfl
theorem O.{u} {α:Sort u}{a:α}:a=a:=rfl
theorem J.{u} {α:Sort u}{a:α}:a=a:=rfl
theorem F.{u} {α:Sort u}{a:α}:a=a:=rfl
theorem Z.{u} {α:Sort u}{a:α}:a=a:=rfl
abbrev Key:=Sum Int Str
def iC:Key->Value->Bool
 | .inl k,v=>Value.isInt k v
 | .inr x,v=>Value.isStrOf x v
def wf (w:World):Key->Int
 | .inl k=>hashInt k
 | .inr x=>hashStr w x
theorem aX:∀ {k:Key}{v:Value},iC k v=true->(∃ i t,k=Sum.inl i/\v=Value.int i t)∨(∃ x t,k=Sum.inr x/\v=Value.str x t)
 | .inl i,v,h=>by
  obtain⟨t,e⟩:=Value.isInt_shape (k:=i) (v:=v) h
  exact .inl ⟨i,t,U,e⟩
 | .inr x,v,h=>by
  obtain⟨t,e⟩:=Value.isStrOf_shape (x:=x) (v:=v) h
  exact .inr ⟨x,t,U,e⟩
theorem jl (i:Int) (t:Tok):iC (.inl i) (.int i t)=true:=by simp[iC,Value.isInt]
theorem nD (x:Str) (t:Tok):iC (.inr x) (.str x t)=true:=by simp[iC,Value.isStrOf]
theorem uM (a b:Int):decide ((Sum.inl a:Key)=Sum.inl b)=(a == b):=by
 by_cases e:a=b
 ·subst e; simp
 ·have h:¬ (Sum.inl a:Key)=Sum.inl b:=fun q=>e (Sum.inl.inj q)
  rw[decide_eq_false h]
  exact(beq_eq_false_iff_ne.mpr e).symm
theorem uJ (a b:Str):decide ((Sum.inr a:Key)=Sum.inr b)=decide (a=b):=by
 by_cases e:a=b
 ·subst e; simp
 ·have h:¬ (Sum.inr a:Key)=Sum.inr b:=fun q=>e (Sum.inr.inj q)
  rw[decide_eq_false h,decide_eq_false e]
theorem uL (a:Int) (b:Str):decide ((Sum.inl a:Key)=Sum.inr b)=false:=decide_eq_false (fun q=>nomatch q)
theorem uK (a:Str) (b:Int):decide ((Sum.inr a:Key)=Sum.inl b)=false:=decide_eq_false (fun q=>nomatch q)
def aD (prog:Program) (w:World):PySem.KeyKind prog w Key where
 is:=iC
 hash:=wf w
 inj:=fun v a b ha hb=>by
  rcases aX ha with ⟨i,t,rfl,rfl⟩ | ⟨x,t,rfl,rfl⟩
  ·rcases aX hb with ⟨j,u,rfl,e⟩ | ⟨y,u,rfl,e⟩
   ·injection e with e1 _; rw[e1]
   ·exact nomatch e
  ·rcases aX hb with ⟨j,u,rfl,e⟩ | ⟨y,u,rfl,e⟩
   ·exact nomatch e
   ·injection e with e1 _; rw[e1]
 byValue:=fun k v h=>by
  rcases aX h with ⟨i,t,rfl,rfl⟩ | ⟨x,t,rfl,rfl⟩ <;> rfl
 pyHash:=fun hv h=>by
  rcases aX hv with ⟨i,t,rfl,rfl⟩ | ⟨x,t,rfl,rfl⟩
  ·exact wpAny_pyHash_int h
  ·exact wpAny_pyHash_str h
 eqBool:=fun hu hv h=>by
  rcases aX hu with ⟨i,t,rfl,rfl⟩ | ⟨x,t,rfl,rfl⟩
  ·rcases aX hv with ⟨j,u,rfl,rfl⟩ | ⟨y,u,rfl,rfl⟩
   ·rw[uM] at h; exact wpAny_eqBool_int h
   ·rw[uL] at h; exact SeqAt.EqAt.int_str i t y u _ _ _ _ h
  ·rcases aX hv with ⟨j,u,rfl,rfl⟩ | ⟨y,u,rfl,rfl⟩
   ·rw[uK] at h; exact SeqAt.EqAt.str_int x t j u _ _ _ _ h
   ·rw[uJ] at h; exact wpAny_eqBool_str h
 «strs»:=fun k x t v h=>by
  rcases aX h with ⟨i,u,rfl,e⟩ | ⟨y,u,rfl,e⟩
  ·exact nomatch e
  ·injection e with e1 _
   subst e1
   cases v <;> rfl
theorem kx (prog:Program) (w:World) (i:Int) (t:Tok):(aD prog w).is (.inl i) (.int i t)=true:=jl i t
theorem ku (prog:Program) (w:World) (x:Str) (t:Tok):(aD prog w).is (.inr x) (.str x t)=true:=nD x t
inductive V where
 | non | bl (b:Bool) | int (i:Int) | str (x:Str) | byt (b:Array UInt8) | flt (b:UInt64) | ref (a:Addr) | ty (n:String)
 deriving DecidableEq
def RelV:V->Value->Prop
 | .non,u=>u=Value.none
 | .bl b,u=>u=Value.bool b
 | .int i,u=>∃ t,u=Value.int i t
 | .str x,u=>∃ t,u=Value.str x t
 | .byt b,u=>∃ t,u=Value.bytes b t
 | .flt b,u=>∃ t,u=Value.float b t
 | .ref a,u=>u=Value.ref a
 | .ty n,u=>u=Value.type n
abbrev Vals:List V->List Value->Prop:=Paired RelV
variable{us:List Value}
theorem Vals.length {xs:List V} (r:Vals xs us):xs.length=us.length:=Paired.length r
theorem Vals.get:∀ {xs:List V}{us:List Value}{i:Nat}{x:V},Vals xs us->xs[i]?=some x->∃ u,us[i]?=some u/\RelV x u
 | _,_,_,_,.nil,e=>by simp at e
 | _,_,0,_,.cons r _,e=>by simp at e; subst e; exact⟨_,U,r⟩
 | _,_,i+1,x,.cons _ t,e=>by
  obtain⟨u,h1,h2⟩:=Vals.get (i:=i) (x:=x) t (by simpa using e)
  exact⟨u,by simpa using h1,h2⟩
variable{u:Value}
theorem Vals.set {x:V} (r:RelV x u):∀ {xs:List V}{us:List Value} (i:Nat),Vals xs us->Vals (xs.set i x) (us.set i u)
 | _,_,_,.nil=>.nil
 | _,_,0,.cons _ t=>.cons r t
 | _,_,i+1,.cons q t=>.cons q (Vals.set r i t)
theorem Vals.append {xs ys:List V}{us ws:List Value} (a:Vals xs us) (s:Vals ys ws):Vals (xs++ys) (us++ws):=by
 induction a with
 | nil=>exact s
 | cons r t ih=>exact .cons r ih
theorem Vals.take:∀ {xs:List V}{us:List Value} (n:Nat),Vals xs us->Vals (xs.take n) (us.take n)
 | _,_,0,_=>.nil
 | _,_,_+1,.nil=>.nil
 | _,_,n+1,.cons r t=>.cons r (Vals.take n t)
theorem Vals.drop:∀ {xs:List V}{us:List Value} (n:Nat),Vals xs us->Vals (xs.drop n) (us.drop n)
 | _,_,0,r=>r
 | _,_,_+1,.nil=>.nil
 | _,_,n+1,.cons _ t=>Vals.drop n t
def RelO:Option V->Option Value->Prop
 | some v,some u=>RelV v u
 | none,none=>True
 | _,_=>False
def KV {κ:Type}:List (κ×V)->List (κ×Value)->Prop:=Paired fun(p:κ×V) (q:κ×Value)=>p.1=q.1/\RelV p.2 q.2
def kV:Key->V
 | .inl i=>.int i
 | .inr x=>.str x
inductive HO where
  | lst (xs:List V)
  | tup (xs:List V)
  | dK (kvs:List (Key×V)) | dT (kvs:List (List Key×V))
  | set (S:Int->Bool) (n:Nat)
  | ins (C dx:Addr) (fs:List (Str×V))
  | own (x:Addr)
  | xd (fs:List (Str×V))
  | met (f x:Addr)
  | rng (lo hi:Int)
  | frz (o:Obj) (u:HO)
  | tbl (ps:Array Value)
  | ext (φ:Heap->Prop)
abbrev Hp:=Addr->Option HO
def upd (H:Hp) (a:Addr) (o:HO):Hp:=fun b=>if b=a then some o else H b
variable{H:Hp}
theorem bz {a:Addr}{o:HO}:upd H a o a=some o:=by unfold upd; rw[if_pos rfl]
theorem aA {a b:Addr}{o:HO} (h:b≠a):upd H a o b=H b:=by unfold upd; rw[if_neg h]
theorem pJ {a b:Addr}{o u:HO} (h:H a=some o) (h':H b=some u) (d:o≠u):a≠b:=by
 intro e; subst e; rw[h] at h'; exact d (Option.some.inj h')
theorem bI {a b:Addr}{o:HO} (h:H a=some o) (h':H b=none):a≠b:=by
 intro e; subst e; rw[h] at h'; cases h'
section
variable (P:Program) (w:World)
def ObjOk (H:Hp) (h:Heap) (a:Addr):HO->Prop
 | .lst xs=>xs.length<=sizeLine/\∃ (its:List Value) (n:Nat),Vals xs its/\h.get? a=some { cls:=.type "list",data:=.seq its.toArray n }
 | .tup xs=>xs.length<=sizeLine/\∃ its:List Value,Vals xs its/\IsTup h a its.toArray
 | .dK kvs=>kvs.length<=sizeLine/\(a == sysModules)=false/\∃ vs,KV kvs vs/\h.DictOf (aD P w) a vs
 | .dT kvs=>kvs.length<=sizeLine/\(a == sysModules)=false/\∃ xs:List (List Key×Addr×Value),
   Paired (fun(p:List Key×V) (q:List Key×Addr×Value)=>p.1=q.1/\H q.2.1=some (.tup (p.1.map kV))/\RelV p.2 q.2.2) kvs xs /\
   ∃ o es ep,h.get? a=some o/\o.ExactDict/\o.data=.dict es ep/\es.toList=xs.map (entryOfKey (tupleKind (aD P w)))/\(xs.map (·.1)).Nodup
 | .set S n=>h.SetOf (intKind P w) a S n
 | .ins C dx fs=>H dx=some (.own a)/\fs.length<=1000/\dx≠a/\h.get? a=some (PySem.W.instObj C dx) /\
   ∃ mA,h.Ns1 dx mA/\(∀ f,RelO (fs.lookup f) (mA f))/\PySem.Within mA (fs.map (·.1))
 | .own _=>∃ o,h.get? a=some o
 | .xd fs=>∃ mA,h.Ns1 a mA/\∀ f,RelO (fs.lookup f) (mA f)
 | .rng lo hi=>∃ t u v,h.get? a=some { cls:=.type "range",data:=.fields #[.int lo t,.int hi u,.int 1 v] }
 | .frz o u=>h.get? a=some o/\ObjOk H h a u
 | .tbl ps=>h.get? a=some { cls:=.none,data:=.fields ps }
 | .met f x=>h.get? a=some (PySem.W.methodObj (.ref f) (.ref x))
 | .ext φ=>φ h/\(∃ o,h.get? a=some o)/\∀ h1 h2:Heap,φ h1->(∀ o,h1.get? a=some o->h2.get? a=some o)->φ h2
def HOk (H:Hp) (h:Heap):Prop:=∀ a o,H a=some o->ObjOk P w H h a o
end
section
variable {P:Program}{w:World}{H H':Hp}{h h':Heap}{a:Addr}{o:HO}
theorem ObjOk.lt (x:ObjOk P w H h a o):a<h.objs.size:=by
 cases o with
 | lst xs=>obtain⟨_,_,_,_,e⟩:=x; exact Heap.lt_size e
 | tup xs=>obtain⟨_,_,_,p⟩:=x; exact p.lt
 | dK kvs=>obtain⟨_,_,_,_,o,_,_,e,_⟩:=x; exact Heap.lt_size e
 | dT kvs=>obtain⟨_,_,_,_,o,_,_,e,_⟩:=x; exact Heap.lt_size e
 | set S n=>obtain⟨o,_,_,_,e,_⟩:=x; exact Heap.lt_size e
 | ins C dx fs=>obtain⟨_,_,_,e,_⟩:=x; exact Heap.lt_size e
 | own y=>obtain⟨_,e⟩:=x; exact Heap.lt_size e
 | xd fs=>obtain⟨_,⟨_,_,_,e,_⟩,_⟩:=x; exact Heap.lt_size e
 | rng lo hi=>obtain⟨_,_,_,e⟩:=x; exact Heap.lt_size e
 | frz ob u=>obtain⟨e,_⟩:=x; exact Heap.lt_size e
 | tbl ps=>exact Heap.lt_size (show h.get? a=some _ from x)
 | met f y=>exact Heap.lt_size (show h.get? a=some _ from x)
 | ext φ=>obtain⟨_,⟨_,e⟩,_⟩:=x; exact Heap.lt_size e
theorem Paired.mapP {α β:Type}{F G:α->β->Prop} {l₁:List α}{l₂:List β} (a:Paired F l₁ l₂) (f:∀ a b,F a b->G a b):Paired G l₁ l₂:=by
 induction a with
 | nil=>exact .nil
 | cons r t ih=>exact .cons (f _ _ r) ih
theorem ObjOk.stay (x:ObjOk P w H h a o) (k:∀ b u,(b=a∨H b=some (.own a))->h.get? b=some u->h'.get? b=some u)
  (ho:∀ b,H b=some (.own a)->H' b=some (.own a)) (ht:∀ b xs,H b=some (.tup xs)->H' b=some (.tup xs)):ObjOk P w H' h' a o:=by
 induction o with
 | lst xs=>obtain⟨z,its,n,r,e⟩:=x; exact⟨z,its,n,r,k _ _ (.inl rfl) e⟩
 | tup xs=>obtain⟨z,its,r,ob,e,c⟩:=x; exact⟨z,its,r,ob,k _ _ (.inl rfl) e,c⟩
 | dK kvs=>obtain⟨z,y,vs,r,ob,es,ep,e,c⟩:=x; exact⟨z,y,vs,r,ob,es,ep,k _ _ (.inl rfl) e,c⟩
 | dT kvs=>
  obtain⟨z,y,xs,r,ob,es,ep,e,c⟩:=x
  exact⟨z,y,xs,Paired.mapP r fun p q z=>⟨z.1,ht _ _ z.2.1,z.2.2⟩,ob,es,ep,k _ _ (.inl rfl) e,c⟩
 | set S n=>obtain⟨ob,es,ep,t,e,c⟩:=x; exact⟨ob,es,ep,t,k _ _ (.inl rfl) e,c⟩
 | ins C dx fs=>
  obtain⟨d,z,ne,e,mA,⟨od,es,ep,e2,c⟩,r⟩:=x
  exact⟨ho _ d,z,ne,k _ _ (.inl rfl) e,mA,⟨od,es,ep,k _ _ (.inr d) e2,c⟩,r⟩
 | own y=>obtain⟨ob,e⟩:=x; exact⟨ob,k _ _ (.inl rfl) e⟩
 | xd fs=>obtain⟨mA,⟨od,es,ep,e,c⟩,r⟩:=x; exact⟨mA,⟨od,es,ep,k _ _ (.inl rfl) e,c⟩,r⟩
 | rng lo hi=>obtain⟨t,u,v,e⟩:=x; exact⟨t,u,v,k _ _ (.inl rfl) e⟩
 | frz ob u ih=>obtain⟨e,q⟩:=x; exact⟨k _ _ (.inl rfl) e,ih q⟩
 | tbl ps=>
  have e:h.get? a=some { cls:=.none,data:=.fields ps }:=x
  show h'.get? a=some { cls:=.none,data:=.fields ps }
  exact k a _ (.inl rfl) e
 | met f y=>
  have e:h.get? a=some (PySem.W.methodObj (.ref f) (.ref y)):=x
  show h'.get? a=some (PySem.W.methodObj (.ref f) (.ref y))
  exact k a _ (.inl rfl) e
 | ext φ=>obtain⟨p,⟨o,e⟩,st⟩:=x; exact⟨st _ _ p fun o q=>k _ _ (.inl rfl) q,⟨o,k _ _ (.inl rfl) e⟩,st⟩
theorem HOk.lt (x:HOk P w H h) (e:H a=some o):a<h.objs.size:=(x a o e).lt
theorem HOk.fresh (x:HOk P w H h) (e:h.objs.size<=a):H a=none:=by
 cases q:H a with
 | none=>rfl
 | some u=>exact absurd (Nat.lt_of_lt_of_le (x.lt q) e) (Nat.lt_irrefl _)
theorem HOk.kept (x:HOk P w H h) (k:∀ b u,h.get? b=some u->h'.get? b=some u):HOk P w H h':=fun a o e=>
 (x a o e).stay (fun b u _ q=>k b u q) (fun _ q=>q) fun _ _ q=>q
theorem HOk.laid (x:HOk P w H h) (k:∀ b u,h.get? b=some u->h'.get? b=some u) (hp:h.objs.size<=a) (new:ObjOk P w (upd H a o) h' a o):HOk P w (upd H a o) h':=fun b u e=>by
 have hn:=x.fresh hp
 by_cases hb:b=a
 ·subst hb; rw[bz] at e; cases e; exact new
 ·rw[aA hb] at e
  exact(x b u e).stay (fun c v _ q=>k c v q) (fun c q=>by rw[aA (bI q hn)]; exact q) fun c xs q=>by rw[aA (bI q hn)]; exact q
end
def Rd (H:Hp) (a:Addr) (u:HO):Prop:=H a=some u∨∃ o,H a=some (.frz o u)
variable{P:Program}{w:World}{h:Heap}
theorem Rd.ok {a:Addr}{u:HO} (r:Rd H a u) (x:HOk P w H h):ObjOk P w H h a u:=by
 rcases r with r | ⟨o,r⟩
 ·exact x a u r
 ·obtain⟨_,q⟩:=x a _ r
  exact q
def Mut:Option HO->Prop
 | some (.lst _)=>True
 | some (.dK _)=>True
 | some (.dT _)=>True
 | some (.set _ _)=>True
 | some (.ins _ _ _)=>True
 | some (.ext _)=>True
 | _=>False
section
variable {P:Program}{w:World}{H:Hp}{h h':Heap}{x e:Addr}{o':HO}
theorem HOk.write (ok:HOk P w H h) (mu:Mut (H x)) (he:e=x∨H e=some (.own x)) (k:∀ b u,b≠e->h.get? b=some u->h'.get? b=some u) (heo:∃ u,h'.get? e=some u)
  (new:ObjOk P w (upd H x o') h' x o'):HOk P w (upd H x o') h':=fun b u q=>by
 have nown:∀ c y,H c=some (.own y)->c≠x:=fun c y r z=>by subst z; rw[r] at mu; exact mu
 have ntup:∀ c xs,H c=some (.tup xs)->c≠x:=fun c xs r z=>by subst z; rw[r] at mu; exact mu
 by_cases hb:b=x
 ·subst hb; rw[bz] at q; cases q; exact new
 ·rw[aA hb] at q
  by_cases hbe:b=e
  ·have q':H b=some (.own x):=by
    rcases he with z | z
    ·exact absurd (hbe.trans z) hb
    ·rw[hbe]; exact z
   rw[q] at q'; cases q'
   obtain⟨v,hv⟩:=heo
   exact⟨v,by rw[hbe]; exact hv⟩
  ·refine(ok b u q).stay (fun c v hc r=>k c v ?_ r) (fun c r=>by rw[aA (nown c b r)]; exact r) fun c xs r=>by rw[aA (ntup c xs r)]; exact r
   rcases hc with rfl | hc
   ·exact hbe
   ·rintro rfl
    rcases he with z | z
    ·exact nown c b hc z
    ·rw[hc] at z; cases z; exact hb rfl
end
structure Un (fs ex:List Addr) (H H':Hp) (h h':Heap):Prop where
 keep:∀ b o,h.get? b=some o->H b=none->b ∉ fs->b ∉ ex->h'.get? b=some o
 slot:∀ b o,h.get? b=some o->H b=none->b ∈ fs->b ∉ ex->∃ sl,h'.get? b=some { o with slots:=sl }
 free:∀ b o,h.get? b=some o->H b=none->b ∉ ex->H' b=none
 there:∀ b o,h.get? b=some o->b ∉ ex->∃ o',h'.get? b=some o'
 tups:∀ b xs,H b=some (.tup xs)->H' b=some (.tup xs)
 frzs:∀ b o u,H b=some (.frz o u)->H' b=some (.frz o u)
 tbls:∀ b ps,H b=some (.tbl ps)->∃ more,H' b=some (.tbl (ps++more))
section
variable {fs fs' ex ex':List Addr}{H H1 H2:Hp}{h h1 h2 h':Heap}{a x e:Addr}{o:HO}
theorem Un.any (u:Un fs ex H H1 h h1) {b:Addr}{ob:Obj} (q:h.get? b=some ob) (n:H b=none) (hx:b ∉ ex):∃ sl,h1.get? b=some { ob with slots:=sl }:=by
 by_cases hb:b ∈ fs
 ·exact u.slot b ob q n hb hx
 ·exact⟨ob.slots,u.keep b ob q n hb hx⟩
theorem Un.kept (k:∀ b u,h.get? b=some u->h'.get? b=some u):Un fs ex H H h h' :=
 ⟨fun b ob q _ _ _=>k b ob q,fun b ob q _ _ _=>⟨ob.slots,k b ob q⟩,fun _ _ _ n _=>n,fun b ob q _=>⟨ob,k b ob q⟩,fun _ _ q=>q,fun _ _ _ q=>q,fun _ ps q=>⟨#[],by rw[q]; simp⟩⟩
theorem Un.refl:Un fs ex H H h h:=Un.kept fun _ _ q=>q
theorem Un.laid (k:∀ b u,h.get? b=some u->h'.get? b=some u) (hp:h.objs.size<=a) (hn:H a=none):Un fs ex H (upd H a o) h h' where
 keep:=fun b u q _ _ _=>k b u q
 slot:=fun b u q _ _ _=>⟨u.slots,k b u q⟩
 free:=fun b u q n _=>by rw[aA (Nat.ne_of_lt (Nat.lt_of_lt_of_le (Heap.lt_size q) hp))]; exact n
 there:=fun b u q _=>⟨u,k b u q⟩
 tups:=fun b xs q=>by rw[aA (bI q hn)]; exact q
 frzs:=fun b u xs q=>by rw[aA (bI q hn)]; exact q
 tbls:=fun b ps q=>⟨#[],by rw[aA (bI q hn),q]; simp⟩
theorem Un.write (mu:Mut (H x)) (he:e=x∨H e=some (.own x)) (k:∀ b u,b≠e->h.get? b=some u->h'.get? b=some u) (heo:∃ u,h'.get? e=some u):Un fs ex H (upd H x o) h h':=by
 have hx:∀ b,H b=none->b≠x:=fun b n z=>by subst z; rw[n] at mu; exact mu
 have hb:∀ b,H b=none->b≠e:=fun b n z=>by
  subst z
  rcases he with r | r
  ·exact hx b n r
  ·rw[n] at r; cases r
 have hm:∀ b u,H b=some u->¬ Mut (some u)->b≠x:=fun b u q nm z=>by subst z; rw[q] at mu; exact nm mu
 refine⟨fun b u q n _ _=>k b u (hb b n) q,fun b u q n _ _=>⟨u.slots,k b u (hb b n) q⟩,fun b u q n _=>by rw[aA (hx b n)]; exact n,fun b u q _=>?_,
  fun b xs q=>by rw[aA (hm b _ q fun z=>z)]; exact q,fun b u xs q=>by rw[aA (hm b _ q fun z=>z)]; exact q,fun b ps q=>⟨#[],by rw[aA (hm b _ q fun z=>z),q]; simp⟩⟩
 by_cases hbe:b=e
 ·subst hbe; exact heo
 ·exact⟨u,k b u hbe q⟩
end
def trk (h:Heap) (H:Hp):List Addr:=(List.range h.objs.size).filter fun a=>(H a).isSome
def iY (h:Heap) (H:Hp):Heap:=PySem.W.hideAll h (trk h H)
theorem nG (h:Heap) (H:Hp):(iY h H).objs.size=h.objs.size:=PySem.W.hideAll_size _ _
theorem pW {b:Addr}{o:Obj} (e:h.get? b=some o) (n:H b=none):(iY h H).get? b=some o :=
 PySem.W.hideAll_get _ e fun hm=>by
  have q:(H b).isSome=true:=(List.mem_filter.mp hm).2
  rw[n] at q; simp at q
theorem qY {b:Addr}{o:Obj} (e:(iY h H).get? b=some o):h.get? b=some o/\H b=none:=by
 have e':h.get? b=some o:=PySem.W.of_hideAll (trk h H) e
 refine⟨e',?_⟩
 cases q:H b with
 | none=>rfl
 | some x=>
  have hm:b ∈ trk h H:=List.mem_filter.mpr ⟨mem_range.mpr (Heap.lt_size e'),by simp[q]⟩
  have z:(iY h H).get? b=none:=PySem.W.hideAll_none (trk h H) hm
  rw[z] at e; cases e
def rH (g h:Heap) (L:Addr):List (Addr×Obj):=(List.range h.objs.size).filterMap fun a=>if a=L∨(g.get? a).isSome=true then none else(h.get? a).map fun o=>(a,o)
def rest (g h:Heap) (L d:Addr):List (Addr×Obj):=(rH g h L).filter fun p=>decide (p.1≠d)
structure Mod (K:PySem.W.Frag) (mg:Str->Option Value) (base:Heap):Prop where
 kin:K.In base
 glob:base.Ns mainGlobals mg
 blt:∃ mb,base.Ns builtinsNs mb/\∀ x:Str,x ≠ "__name__" -> mb x=bootBuiltins x
 nolimit:base.NoLimit
structure Cx where
 prog:Program
 w:World
 K:PySem.W.Frag
 mg:Str->Option Value
 base:Heap
 A:Around
 N:List Str
 s₀:Shared
 H₀:Hp
 env:Env
 outer:List Env
 stack:List Env
 ex:List Addr
 fn:Str->Bool
 calm:Bool
 pn:List (Addr×Obj)
 xe:Value->Shared->Prop
def frs (l:List Env):List Addr:=l.filterMap (·.frame)
abbrev Cx.fs (X:Cx):List Addr:=frs X.outer
def Vis (sc:Scope) (x:Str):Prop:=sc.names.lookup x=some .local∨sc.names.lookup x=some .cell∨sc.names.lookup x=some .free
def Loc (sc:Scope) (x:Str):Prop:=sc.names.lookup x=some .local∨sc.names.lookup x=some .cell
def wB (env:Env) (h:Heap) (m:Str->Option Value) (x:Str) (u:Value):Prop :=
 (env.kindOf x=some .local/\m x=some u)∨((env.kindOf x=some .cell∨env.kindOf x=some .free)/\∃ c,env.cells.lookup x=some c/\h.IsCell c (some u))
structure Cx.Ok (X:Cx):Prop where
 mod:Mod X.K X.mg X.base
 kind:X.env.scope.kind=.function
 glob:X.env.globals=mainGlobals
 blt:X.env.builtins=builtinsNs
 above:X.s₀.heap.objs.size<=X.env.locals
 inj:∀ x y c,X.env.cells.lookup x=some c->X.env.cells.lookup y=some c->x=y
 has:∀ x,(X.env.kindOf x=some .cell∨X.env.kindOf x=some .free)->∃ c,X.env.cells.lookup x=some c
 cab:∀ x c,X.fn x=true->X.env.cells.lookup x=some c->X.s₀.heap.objs.size<=c
 hd:X.calm=true->X.A.handled=none
 frames:X.A.frames=some X.stack
 stk:X.stack=X.outer∨(X.stack=X.env::X.outer/\X.env.frame=some X.env.locals)
 exf:∀ b ∈ X.ex,b≠X.env.locals/\∀ x c,X.env.cells.lookup x=some c->c≠b
 bs:∀ b o,X.base.get? b=some o->X.s₀.heap.get? b=some o/\X.H₀ b=none
 bsz:X.base.objs.size<=X.s₀.heap.objs.size
 noex:∀ b o,X.base.get? b=some o->b ∉ X.ex
 exfs:∀ b ∈ X.ex,b ∉ X.fs
 funs:X.s₀.heap.FunFrames X.base X.outer
 frf:∀ b ∈ X.fs,X.H₀ b=none
structure Inv (X:Cx) (pins:List (Addr×Obj)) (σ:List (Option V)) (H:Hp) (s:Shared):Prop where
 ok:X.Ok
 os:s.os=X.s₀.os
 bare:AllBare s.gens
 base:Un X.fs X.ex X.H₀ H X.s₀.heap s.heap
 loc:∃ m,s.heap.Ns X.env.locals m/\∀ (i:Nat) (x:Str) (v:V),X.N[i]?=some x->σ[i]?=some (some v)->Vis X.env.scope x->∃ u,RelV v u/\wB X.env s.heap m x u
 cell:∀ x c,X.env.cells.lookup x=some c->∃ v,s.heap.IsCell c v
 free:H X.env.locals=none
 freeC:∀ x c,X.env.cells.lookup x=some c->H c=none
 pin:∀ p ∈ X.pn++pins,s.heap.get? p.1=some p.2/\H p.1=none/\p.1≠X.env.locals/\p.1 ∉ X.fs/\∀ v,p.2.data≠.cell v
 hok:HOk X.prog X.w H s.heap
 len:σ.length=X.N.length
variable{E:Value->Shared->Prop}{A:Around}{t':Nat}
section
variable {X:Cx}{pins:List (Addr×Obj)}{σ:List (Option V)}{H H':Hp}{s:Shared}{h':Heap}
theorem Cx.Ok.nofr (ok:X.Ok) {b:Addr}{o:Obj} (e:X.base.get? b=some o):b ∉ X.fs:=fun hb=>by
 have:=(ok.funs.mem hb).1
 rw[e] at this; cases this
theorem Inv.bs (I:Inv X pins σ H s):∀ b o,X.base.get? b=some o->s.heap.get? b=some o/\H b=none:=fun b o e=>
 ⟨I.base.keep b o (I.ok.bs b o e).1 (I.ok.bs b o e).2 (I.ok.nofr e) (I.ok.noex b o e),I.base.free b o (I.ok.bs b o e).1 (I.ok.bs b o e).2 (I.ok.noex b o e)⟩
theorem Inv.bk (I:Inv X pins σ H s):∀ b o,X.base.get? b=some o->s.heap.get? b=some o:=fun b o e=>(I.bs b o e).1
theorem Inv.mod (I:Inv X pins σ H s):Mod X.K X.mg X.base:=I.ok.mod
theorem Inv.kIn (I:Inv X pins σ H s):X.K.In s.heap:=I.ok.mod.kin.keeps I.bk
theorem Inv.fr (I:Inv X pins σ H s):∃ m,Fr X.base X.env.locals s.heap m :=
 let ⟨m,hn,_⟩:=I.loc
 ⟨m,hn,I.bk,Nat.le_trans I.ok.bsz I.ok.above⟩
theorem Inv.lt (I:Inv X pins σ H s):X.env.locals<s.heap.objs.size:=let ⟨_,hn,_⟩:=I.loc; hn.lt
theorem Inv.sz (I:Inv X pins σ H s):X.s₀.heap.objs.size<=s.heap.objs.size:=Nat.le_trans I.ok.above (Nat.le_of_lt I.lt)
theorem Inv.nofs (I:Inv X pins σ H s) {a:Addr} (h:s.heap.objs.size<=a):a ∉ X.fs:=fun hb=>by
 obtain⟨_,o,ho,_⟩:=I.ok.funs.mem hb
 exact absurd (Nat.lt_of_lt_of_le (Heap.lt_size ho) (Nat.le_trans I.sz h)) (Nat.lt_irrefl _)
theorem Inv.cne (I:Inv X pins σ H s):∀ x c,X.env.cells.lookup x=some c->c≠X.env.locals:=fun x c e z=>by
 obtain⟨v,o,ho,hd⟩:=I.cell x c e
 obtain⟨m,⟨o',es,ep,ho',hd',_⟩,_⟩:=I.loc
 rw[z,ho'] at ho; cases ho; rw[hd'] at hd; cases hd
theorem Inv.funs (I:Inv X pins σ H s):s.heap.FunFrames X.base X.outer:=by
 have all:∀ (l:List Env),(∀ b ∈ frs l,b ∈ X.fs)->X.s₀.heap.FunFrames X.base l->s.heap.FunFrames X.base l:=by
  intro l
  induction l with
  | nil=>intro _ _; trivial
  | cons env r ih=>
   intro hs hl
   obtain⟨hk,⟨L,o,hf,hn,ho,hd⟩,hr⟩:=hl
   have hL:L ∈ X.fs:=hs L (by unfold frs; rw[List.filterMap_cons,hf]; exact wJ)
   obtain⟨sl,e⟩:=I.base.slot L o ho (I.ok.frf L hL) hL fun z=>I.ok.exfs L z hL
   exact⟨hk,⟨L,_,hf,hn,e,hd⟩,ih (fun b hb=>hs b (by unfold frs; rw[List.filterMap_cons,hf]; exact wE _ hb)) hr⟩
 exact all X.outer (fun _ hb=>hb) I.ok.funs
theorem Inv.stack (I:Inv X pins σ H s):s.heap.FunFrames X.base X.stack:=by
 rcases I.ok.stk with e | ⟨e,hf⟩
 ·rw[e]; exact I.funs
 ·rw[e]
  obtain⟨m,hn,_⟩:=I.loc
  refine .cons (by rw[I.ok.kind]; decide) hf hn ?_ I.funs
  exact Heap.get?_none_of_le (Nat.le_trans I.ok.bsz I.ok.above)
theorem Inv.stkSub (I:Inv X pins σ H s):∀ b ∈ frs X.stack,b ∈ X.env.locals::X.fs:=fun b hb=>by
 rcases I.ok.stk with e | ⟨e,hf⟩
 ·rw[e] at hb; exact wE _ hb
 ·rw[e] at hb
  unfold frs at hb
  rw[List.filterMap_cons,hf] at hb
  exact hb
theorem Inv.stkFree (I:Inv X pins σ H s):∀ b ∈ frs X.stack,H b=none:=fun b hb=>by
 rcases wP.mp (I.stkSub b hb) with e | hb
 ·rw[e]; exact I.free
 ·obtain⟨_,o,ho,_⟩:=I.ok.funs.mem hb
  exact I.base.free b o ho (I.ok.frf b hb) fun z=>I.ok.exfs b z hb
theorem Inv.step {g':Array GenState}{d':Drawn}{ch:List Addr} (I:Inv X pins σ H s)
  (hch:∀ b ∈ ch,(b ∈ X.ex∨X.s₀.heap.objs.size<=b)/\b≠X.env.locals/\(∀ x c,X.env.cells.lookup x=some c->c≠b)/\∀ p ∈ X.pn++pins,p.1≠b)
  (keep:∀ b o,b≠X.env.locals->b ∉ X.fs->b ∉ ch->s.heap.get? b=some o->H b=none->h'.get? b=some o)
  (slot:∀ b o,b≠X.env.locals->b ∈ X.fs->b ∉ ch->s.heap.get? b=some o->H b=none->∃ sl,h'.get? b=some { o with slots:=sl }) (free:∀ b o,b ∉ ch->s.heap.get? b=some o->H b=none->H' b=none)
  (there:∀ b o,b ∉ ch->s.heap.get? b=some o->∃ o',h'.get? b=some o')
  (tups:∀ b xs,H b=some (.tup xs)->H' b=some (.tup xs)) (frzs:∀ b o u,H b=some (.frz o u)->H' b=some (.frz o u)) (tbls:∀ b ps,H b=some (.tbl ps)->∃ more,H' b=some (.tbl (ps++more)))
  (ns:∀ m,s.heap.Ns X.env.locals m->h'.Ns X.env.locals m) (hok:HOk X.prog X.w H' h') (hg:AllBare g') :
  Inv X pins σ H' { s with heap:=h',gens:=g',drawn:=d',toks:=t' }:=by
 have neL:∀ b o,X.s₀.heap.get? b=some o->b≠X.env.locals:=fun b o e=>Nat.ne_of_lt (Nat.lt_of_lt_of_le (Heap.lt_size e) I.ok.above)
 have neC:∀ b o,X.s₀.heap.get? b=some o->b ∉ X.ex->b ∉ ch:=fun b o e hx hb=>by
  rcases (hch b hb).1 with z | z
  ·exact hx z
  ·exact absurd (Nat.lt_of_lt_of_le (Heap.lt_size e) z) (Nat.lt_irrefl _)
 have cellK:∀ x c,X.env.cells.lookup x=some c->∀ v,s.heap.IsCell c v->h'.IsCell c v:=fun x c e v ⟨o,ho,hd⟩=>by
  have nch:c ∉ ch:=fun z=>(hch c z).2.2.1 x c e rfl
  by_cases hc:c ∈ X.fs
  ·obtain⟨sl,q⟩:=slot c o (I.cne x c e) hc nch ho (I.freeC x c e)
   exact⟨_,q,hd⟩
  ·exact⟨o,keep c o (I.cne x c e) hc nch ho (I.freeC x c e),hd⟩
 refine⟨I.ok,I.os,hg,⟨fun b o e n hb hx=>?_,fun b o e n hb hx=>?_,fun b o e n hx=>?_,fun b o e hx=>?_,fun b xs e=>tups b xs (I.base.tups b xs e),fun b o xs e=>frzs b o xs (I.base.frzs b o xs e),fun b ps e=>?_⟩,?_,fun x c e=>?_,?_,fun x c e=>?_,fun p hp=>?_,hok,I.len⟩
 ·exact keep b o (neL b o e) hb (neC b o e hx) (I.base.keep b o e n hb hx) (I.base.free b o e n hx)
 ·obtain⟨sl,e1⟩:=I.base.slot b o e n hb hx
  obtain⟨sl',e2⟩:=slot b _ (neL b o e) hb (neC b o e hx) e1 (I.base.free b o e n hx)
  exact⟨sl',e2⟩
 ·obtain⟨o',e1⟩:=I.base.there b o e hx
  exact free b o' (neC b o e hx) e1 (I.base.free b o e n hx)
 ·obtain⟨o',e1⟩:=I.base.there b o e hx
  exact there b o' (neC b o e hx) e1
 ·obtain⟨m1,e1⟩:=I.base.tbls b ps e
  obtain⟨m2,e2⟩:=tbls b _ e1
  exact⟨m1++m2,by rw[e2,Array.append_assoc]⟩
 ·obtain⟨m,hn,hl⟩:=I.loc
  refine⟨m,ns m hn,fun i x v e1 e2 e3=>?_⟩
  obtain⟨u,r,l⟩:=hl i x v e1 e2 e3
  refine⟨u,r,?_⟩
  rcases l with l | ⟨k,c,e,z⟩
  ·exact .inl l
  ·exact .inr ⟨k,c,e,cellK x c e _ z⟩
 ·obtain⟨v,z⟩:=I.cell x c e
  exact⟨v,cellK x c e v z⟩
 ·obtain⟨m,⟨o,_,_,ho,_⟩,_⟩:=I.loc
  exact free _ o (fun z=>(hch _ z).2.1 rfl) ho I.free
 ·obtain⟨v,o,ho,hd⟩:=I.cell x c e
  exact free c o (fun z=>(hch c z).2.2.1 x c e rfl) ho (I.freeC x c e)
 ·obtain⟨e,n,ne,nf,d⟩:=I.pin p hp
  have nch:p.1 ∉ ch:=fun z=>(hch p.1 z).2.2.2 p hp rfl
  exact⟨keep p.1 p.2 ne nf nch e n,free p.1 p.2 nch e n,ne,nf,d⟩
theorem Inv.un (I:Inv X pins σ H s) (u:Un X.fs [] H H' s.heap h') (hok:HOk X.prog X.w H' h'):Inv X pins σ H' { s with heap:=h',toks:=t' }:=by
 obtain⟨m,⟨o,es,ep,ho,r⟩,_⟩:=id I.loc
 obtain⟨sl,hL⟩:=u.any ho I.free (by simp)
 exact I.step (g':=s.gens) (d':=s.drawn) (ch:=[]) (fun _ z=>nomatch z) (fun b o _ hb _ e n=>u.keep b o e n hb (by simp)) (fun b o _ hb _ e n=>u.slot b o e n hb (by simp)) (fun b o _ e n=>u.free b o e n (by simp)) (fun b o _ e=>u.there b o e (by simp)) u.tups u.frzs u.tbls (fun m' hm=>by
  obtain⟨o',es',ep',ho',r'⟩:=hm
  rw[ho] at ho'; cases ho'
  exact⟨_,es',ep',hL,r'⟩) hok I.bare
theorem Inv.call {g':Array GenState}{d':Drawn}{ch:List Addr} (I:Inv X pins σ H s) (u:Un (frs X.stack) ch H H' s.heap h') (hok:HOk X.prog X.w H' h') (hg:AllBare g')
  (hch:∀ b ∈ ch,(b ∈ X.ex∨X.s₀.heap.objs.size<=b)/\b≠X.env.locals/\(∀ x c,X.env.cells.lookup x=some c->c≠b)/\∀ p ∈ X.pn++pins,p.1≠b) :
  Inv X pins σ H' { s with heap:=h',gens:=g',drawn:=d',toks:=t' }:=by
 obtain⟨m,⟨o,es,ep,ho,r⟩,_⟩:=id I.loc
 obtain⟨sl,hL⟩:=u.any ho I.free fun z=>(hch _ z).2.1 rfl
 exact I.step (ch:=ch) hch (fun b o hL hb hc e n=>u.keep b o e n (fun z=>(wP.mp (I.stkSub b z)).elim hL hb) hc) (fun b o _ _ hc e n=>u.any e n hc) (fun b o hc e n=>u.free b o e n hc) (fun b o hc e=>u.there b o e hc) u.tups u.frzs u.tbls (fun m' hm=>by
  obtain⟨o',es',ep',ho',r'⟩:=hm
  rw[ho] at ho'; cases ho'
  exact⟨_,es',ep',hL,r'⟩) hok hg
theorem Inv.turned {it:Addr} (I:Inv X pins σ H s) (k:∀ b o,b≠it->s.heap.get? b=some o->h'.get? b=some o) (hn:H it=none) (hL:it≠X.env.locals)
  (h1:it ∈ X.ex∨X.s₀.heap.objs.size<=it) (h2:∀ x c,X.env.cells.lookup x=some c->c≠it) (h3:∀ p ∈ X.pn++pins,p.1≠it):Inv X pins σ H { s with heap:=h',toks:=t' }:=by
 have nit:∀ b u,H b=some u->b≠it:=fun b u e z=>by rw[z,hn] at e; cases e
 refine I.step (g':=s.gens) (d':=s.drawn) (ch:=[it]) (fun b hb=>?_) (fun b o _ _ hc e _=>k b o (fun z=>hc (by simp[z])) e) (fun b o _ _ hc e _=>⟨o.slots,k b o (fun z=>hc (by simp[z])) e⟩) (fun _ _ _ _ n=>n)
  (fun b o hc e=>⟨o,k b o (fun z=>hc (by simp[z])) e⟩) (fun _ _ e=>e) (fun _ _ _ e=>e) (fun b ps e=>⟨#[],by rw[e]; simp⟩) (fun m hm=>?_) (fun b u e=>?_) I.bare
 ·have e:b=it:=by simpa using hb
  subst e
  exact⟨h1,hL,h2,h3⟩
 ·obtain⟨o,es,ep,ho,r⟩:=hm
  exact⟨o,es,ep,k _ o (Ne.symm hL) ho,r⟩
 ·refine(I.hok b u e).stay (fun c v hc q=>k c v ?_ q) (fun _ q=>q) fun _ _ q=>q
  rcases hc with z | z
  ·rw[z]; exact nit b u e
  ·exact nit c _ z
theorem Inv.tok (I:Inv X pins σ H s) (t:Nat):Inv X pins σ H { s with toks:=t }:=I.un (h':=s.heap) (t':=t) Un.refl I.hok
theorem Inv.kept (I:Inv X pins σ H s) (k:∀ b u,s.heap.get? b=some u->h'.get? b=some u):Inv X pins σ H { s with heap:=h',toks:=t' }:=I.un (Un.kept k) (I.hok.kept k)
theorem Inv.laid {a:Addr}{o:HO} (I:Inv X pins σ H s) (k:∀ b u,s.heap.get? b=some u->h'.get? b=some u) (hp:s.heap.objs.size<=a) (new:ObjOk X.prog X.w (upd H a o) h' a o) :
  Inv X pins σ (upd H a o) { s with heap:=h',toks:=t' }:=I.un (Un.laid k hp (I.hok.fresh hp)) (I.hok.laid k hp new)
theorem Inv.write {x e:Addr}{o:HO} (I:Inv X pins σ H s) (mu:Mut (H x)) (he:e=x∨H e=some (.own x)) (k:∀ b u,b≠e->s.heap.get? b=some u->h'.get? b=some u) (heo:∃ u,h'.get? e=some u)
  (new:ObjOk X.prog X.w (upd H x o) h' x o):Inv X pins σ (upd H x o) { s with heap:=h',toks:=t' }:=I.un (Un.write mu he k heo) (I.hok.write mu he k heo new)
theorem Inv.weak {σ':List (Option V)} (I:Inv X pins σ H s) (hl:σ'.length=σ.length) (w:∀ (i:Nat) v,σ'[i]?=some (some v)->σ[i]?=some (some v)):Inv X pins σ' H s :=
 ⟨I.ok,I.os,I.bare,I.base,let ⟨m,hn,hl'⟩:=I.loc; ⟨m,hn,fun i x v e1 e2 e3=>hl' i x v e1 (w i v e2) e3⟩,I.cell,I.free,I.freeC,I.pin,I.hok,hl.trans I.len⟩
theorem Inv.pins_of {pins':List (Addr×Obj)} (I:Inv X pins σ H s) (h:∀ p ∈ pins',s.heap.get? p.1=some p.2/\H p.1=none/\p.1≠X.env.locals/\p.1 ∉ X.fs/\∀ v,p.2.data≠.cell v):Inv X pins' σ H s :=
 ⟨I.ok,I.os,I.bare,I.base,I.loc,I.cell,I.free,I.freeC,fun p hp=>(xb.mp hp).elim (fun z=>I.pin p (wY _ z)) (h p),I.hok,I.len⟩
theorem nodup_ix {N:List Str} (hN:N.Nodup) {i j:Nat}{x:Str} (a:N[i]?=some x) (b:N[j]?=some x):i=j:=by
 obtain⟨h1,e1⟩:=List.getElem?_eq_some_iff.mp a
 obtain⟨h2,e2⟩:=List.getElem?_eq_some_iff.mp b
 exact(List.getElem_inj hN).mp (e1.trans e2.symm)
theorem m9 {M:Model}{i:Nat}{x:Str}{v:V}{Q:Unit->Shared->Prop} (I:Inv X pins σ H s) (hN:X.N.Nodup) (hi:X.N[i]?=some x) (hx:Loc X.env.scope x) (r:RelV v u)
  (h:∀ s',Inv X pins (σ.set i (some v)) H s'->(∃ a,Heap.SameBut a s.heap s'.heap/\(a=X.env.locals∨X.env.cells.lookup x=some a))->Q () s') (hf:X.fn x=true∨X.env.scope.names.lookup x=some .local:=by first | exact .inl rfl | exact .inr rfl | assumption):wpAny M A (storeName X.env x u) Q E s:=by
 obtain⟨m,hn,hl⟩:=id I.loc
 have hcls:(X.env.scope.kind == .class || (X.env.scope.kind == .module && X.env.locals != X.env.globals)) = false:=by rw [I.ok.kind]; rfl
 have hiσ:i<σ.length:=by rw[I.len]; exact(List.getElem?_eq_some_iff.mp hi).1
 have cne:=I.cne
 have tracked:∀ {a:Addr}{h':Heap},(∃ o,s.heap.get? a=some o/\H a=none)->Heap.SameBut a s.heap h'->HOk X.prog X.w H h':=fun {a h'} ha hs b ob e=>by
  obtain⟨_,_,hfree⟩:=ha
  refine(I.hok b ob e).stay (fun c w' hc q=>(hs.2 c ?_).trans q) (fun _ q=>q) fun _ _ q=>q
  rintro rfl
  rcases hc with rfl | hc
  ·rw[hfree] at e; cases e
  ·rw[hfree] at hc; cases hc
 rcases hx with hk | hk
 ·refine wpAny_storeName_local hk hn (fun h' hn' hs=>?_) hcls
  obtain⟨oL,_,_,hoL,_⟩:=id hn
  refine h _ ⟨I.ok,I.os,I.bare,⟨fun b o e n hb hx=>?_,fun b o e n hb hx=>?_,I.base.free,fun b o e hx=>?_,I.base.tups,I.base.frzs,I.base.tbls⟩,⟨_,hn',fun j y v' e1 e2 e3=>?_⟩,fun y c e=>?_,I.free,I.freeC,fun p hp=>?_,tracked ⟨oL,hoL,I.free⟩ hs,by simpa using I.len⟩ ⟨_,hs,.inl rfl⟩
  ·exact(hs.2 b (Nat.ne_of_lt (Nat.lt_of_lt_of_le (Heap.lt_size e) I.ok.above))).trans (I.base.keep b o e n hb hx)
  ·obtain⟨sl,e1⟩:=I.base.slot b o e n hb hx
   exact⟨sl,(hs.2 b (Nat.ne_of_lt (Nat.lt_of_lt_of_le (Heap.lt_size e) I.ok.above))).trans e1⟩
  ·obtain⟨o',e1⟩:=I.base.there b o e hx
   exact⟨o',(hs.2 b (Nat.ne_of_lt (Nat.lt_of_lt_of_le (Heap.lt_size e) I.ok.above))).trans e1⟩
  ·by_cases hj:j=i
   ·subst hj
    rw[hi] at e1; cases e1
    rw[List.getElem?_set_self hiσ] at e2
    cases e2
    exact⟨u,r,.inl ⟨hk,by simp⟩⟩
   ·rw[List.getElem?_set_ne (Ne.symm hj)] at e2
    obtain⟨u',r',q⟩:=hl j y v' e1 e2 e3
    refine⟨u',r',?_⟩
    rcases q with ⟨k,e⟩ | ⟨k,c,e,z⟩
    ·refine .inl ⟨k,?_⟩
     have:y≠x:=fun e=>hj (nodup_ix hN e1 (e ▸ hi))
     simp[this,e]
    ·exact .inr ⟨k,c,e,z.sameBut hs (cne y c e)⟩
  ·obtain⟨w',z⟩:=I.cell y c e
   exact⟨w',z.sameBut hs (cne y c e)⟩
  ·obtain⟨e,n,ne,nf,d⟩:=I.pin p hp
   exact⟨(hs.2 p.1 ne).trans e,n,ne,nf,d⟩
 ·have hfn:X.fn x=true:=by
   rcases hf with z | z
   ·exact z
   ·rw[z] at hk; cases hk
  obtain⟨c,hc⟩:=I.ok.has x (.inl hk)
  obtain⟨w',z⟩:=I.cell x c hc
  refine wpAny_storeName_cell I.ok.kind hk hc z (fun h' hc' hs=>?_)
  obtain⟨oc,hoc,hocd⟩:=id z
  refine h { s with heap:=h' } ⟨I.ok,I.os,I.bare,⟨fun b o e n hb hx=>?_,fun b o e n hb hx=>?_,I.base.free,fun b o e hx=>?_,I.base.tups,I.base.frzs,I.base.tbls⟩,⟨m,hn.sameBut hs (Ne.symm (cne x c hc)),fun j y v' e1 e2 e3=>?_⟩,fun y c' e=>?_,I.free,I.freeC,fun p hp=>?_,tracked ⟨oc,hoc,I.freeC x c hc⟩ hs,by simpa using I.len⟩ ⟨c,hs,.inr hc⟩
  ·exact(hs.2 b (Nat.ne_of_lt (Nat.lt_of_lt_of_le (Heap.lt_size e) (I.ok.cab x c hfn hc)))).trans (I.base.keep b o e n hb hx)
  ·obtain⟨sl,e1⟩:=I.base.slot b o e n hb hx
   exact⟨sl,(hs.2 b (Nat.ne_of_lt (Nat.lt_of_lt_of_le (Heap.lt_size e) (I.ok.cab x c hfn hc)))).trans e1⟩
  ·obtain⟨o',e1⟩:=I.base.there b o e hx
   exact⟨o',(hs.2 b (Nat.ne_of_lt (Nat.lt_of_lt_of_le (Heap.lt_size e) (I.ok.cab x c hfn hc)))).trans e1⟩
  ·by_cases hj:j=i
   ·subst hj
    rw[hi] at e1; cases e1
    rw[List.getElem?_set_self hiσ] at e2
    cases e2
    exact⟨u,r,.inr ⟨.inl hk,c,hc,hc'⟩⟩
   ·rw[List.getElem?_set_ne (Ne.symm hj)] at e2
    obtain⟨u',r',q⟩:=hl j y v' e1 e2 e3
    refine⟨u',r',?_⟩
    rcases q with q | ⟨k,c',e,z'⟩
    ·exact .inl q
    ·refine .inr ⟨k,c',e,z'.sameBut hs ?_⟩
     rintro rfl
     exact hj (nodup_ix hN e1 (I.ok.inj _ _ _ e hc ▸ hi))
  ·by_cases hcc:c'=c
   ·subst hcc; exact⟨_,hc'⟩
   ·obtain⟨w2,z2⟩:=I.cell y c' e
    exact⟨w2,z2.sameBut hs hcc⟩
  ·obtain⟨e,n,ne,nf,d⟩:=I.pin p hp
   refine⟨(hs.2 p.1 ?_).trans e,n,ne,nf,d⟩
   intro q
   rw[q,hoc] at e
   have q':oc=p.2:=Option.some.inj e
   exact d w' (by rw[<- q']; exact hocd)
theorem fM {M:Model}{i:Nat}{x:Str}{v:V}{Q:Unit->Shared->Prop} (I:Inv X pins σ H s) (hN:X.N.Nodup) (hi:X.N[i]?=some x) (hx:Loc X.env.scope x) (r:RelV v u)
  (h:∀ s',Inv X pins (σ.set i (some v)) H s'->Q () s') (hf:X.fn x=true∨X.env.scope.names.lookup x=some .local:=by first | exact .inl rfl | exact .inr rfl | assumption):wpAny M A (storeName X.env x u) Q E s :=
 m9 I hN hi hx r (fun s' I' _=>h s' I') hf
theorem Inv.call' {s':Shared}{ch:List Addr} (I:Inv X pins σ H s) (ho:s'.os=s.os) (u:Un (frs X.stack) ch H H' s.heap s'.heap) (hok:HOk X.prog X.w H' s'.heap) (hg:AllBare s'.gens)
  (hch:∀ b ∈ ch,(b ∈ X.ex∨X.s₀.heap.objs.size<=b)/\b≠X.env.locals/\(∀ x c,X.env.cells.lookup x=some c->c≠b)/\∀ p ∈ X.pn++pins,p.1≠b):Inv X pins σ H' s':=by
 obtain⟨h',g',d',t',o'⟩:=s'
 have e:o'=s.os:=ho
 subst e
 exact I.call (g':=g') (t':=t') (d':=d') u hok hg hch
end
abbrev XK:=Value->Option Addr->Hp->Prop
abbrev St:=List (Option V)
abbrev VK:=V->Hp->Prop
abbrev TE:=St->Hp->VK->Prop
abbrev TT:=St->Hp->(Bool->Hp->Prop)->Prop
abbrev TA:=St->Hp->(List V->Hp->Prop)->Prop
structure Ends where
 nx:St->Hp->Prop
 rt:VK
 bk:St->Hp->Prop:=fun _ _=>False
 ct:St->Hp->Prop:=fun _ _=>False
abbrev TS:=Ends->St->Hp->Prop
def EP (X:Cx) (pins:List (Addr×Obj)) (σ:St) (Q:VK) (u:Value) (s':Shared):Prop:=∃ v H',Inv X pins σ H' s'/\RelV v u/\Q v H'
def TP (X:Cx) (pins:List (Addr×Obj)) (σ:St) (Q:Bool->Hp->Prop) (b:Bool) (s':Shared):Prop:=∃ H',Inv X pins σ H' s'/\Q b H'
def AP (X:Cx) (pins:List (Addr×Obj)) (σ:St) (Q:List V->Hp->Prop) (us:List Value) (s':Shared):Prop:=∃ vs H',Inv X pins σ H' s'/\Vals vs us/\Q vs H'
def SP (X:Cx) (pins:List (Addr×Obj)) (D:Ends) (f:Flow) (s':Shared):Prop :=
 match f with
 | .next=>∃ σ' H',Inv X pins σ' H' s'/\D.nx σ' H'
 | .brk=>∃ σ' H',Inv X pins σ' H' s'/\D.bk σ' H'
 | .cont=>∃ σ' H',Inv X pins σ' H' s'/\D.ct σ' H'
 | .ret u=>∃ v σ' H',Inv X pins σ' H' s'/\RelV v u/\D.rt v H'
def PE (X:Cx) (e:Expr) (t:TE):Prop :=
 ∀ (pins:List (Addr×Obj)) (s:Shared) (σ:St) (H:Hp) (Q:VK),Inv X pins σ H s->t σ H Q->wpAny (model X.prog X.w) X.A (eval e X.env) (EP X pins σ Q) X.xe s
def PT (X:Cx) (e:Expr) (t:TT):Prop :=
 ∀ (pins:List (Addr×Obj)) (s:Shared) (σ:St) (H:Hp) (Q:Bool->Hp->Prop),Inv X pins σ H s->t σ H Q->wpAny (model X.prog X.w) X.A (isTrue e X.env (eval e X.env)) (TP X pins σ Q) X.xe s
def PW (X:Cx) (e:Expr) (t:TT):Prop :=
 ∀ (whole:Sem Value) (pins:List (Addr×Obj)) (s:Shared) (σ:St) (H:Hp) (Q:Bool->Hp->Prop),Inv X pins σ H s->t σ H Q->wpAny (model X.prog X.w) X.A (isTrue e X.env whole) (TP X pins σ Q) X.xe s
theorem PW.pt {X:Cx}{e:Expr}{t:TT} (h:PW X e t):PT X e t:=h _
def PA (X:Cx) (es:List Expr) (t:TA):Prop :=
 ∀ (pos:Pos) (pins:List (Addr×Obj)) (s:Shared) (σ:St) (H:Hp) (Q:List V->Hp->Prop),Inv X pins σ H s->t σ H Q->wpAny (model X.prog X.w) X.A (spliced (backTo pos (starEach es X.env))) (AP X pins σ Q) X.xe s
def PS (X:Cx) (st:Stmt) (t:TS):Prop :=
 ∀ (pins:List (Addr×Obj)) (s:Shared) (σ:St) (H:Hp) (D:Ends),Inv X pins σ H s->t D σ H->wpAny (model X.prog X.w) X.A (exec st X.env) (SP X pins D) X.xe s
def PSs (X:Cx) (st:List Stmt) (t:TS):Prop :=
 ∀ (pins:List (Addr×Obj)) (s:Shared) (σ:St) (H:Hp) (D:Ends),Inv X pins σ H s->t D σ H->wpAny (model X.prog X.w) X.A (execs st X.env) (SP X pins D) X.xe s
variable{s:Shared}
theorem thn {α:Type}{t:Sem α}{Q Q':α->Shared->Prop}{M:Model} (h:wpAny M A t Q E s) (hQ:∀ a s,Q a s->Q' a s):wpAny M A t Q' E s:=wpAny_mono h hQ fun _ _ x=>x
variable{pins:List (Addr×Obj)}{Q:Value->Shared->Prop}{σ:St}{pos:Pos}
section
variable {X:Cx}
inductive TV_ (i:Nat) (σ:St) (H:Hp) (Q:VK):Prop
 | mk (v:V) (h:σ[i]?=some (some v)) (q:Q v H):TV_ i σ H Q
def dg (i:Nat):TE:=fun σ H Q=>TV_ i σ H Q
def tC (v:V):TE:=fun _ H Q=>Q v H
theorem tW {i:Nat}{x:Str} (hN:X.N[i]?=some x) (hv:Vis X.env.scope x) (hd:(x == ("__debug__" : Str))=false:=by decide) (hcd:(x == ("__classdict__" : Str))=false:=by decide):PE X (.Name x pos) (dg i):=by
 intro pins s σ H Q I h
 obtain⟨v,e,h⟩:=h
 obtain⟨m,hn,hl⟩:=I.loc
 obtain⟨u,r,l⟩:=hl i x v hN e hv
 have fin:EP X pins σ Q u s:=⟨v,H,I,r,h⟩
 rcases l with ⟨hk,hm⟩ | ⟨hk,c,hc,hcell⟩
 ·exact wpAny_Name (wpAny_loadName_local I.ok.kind hk hn hm fin) hd
 ·rcases hk with hk | hk
  ·exact wpAny_Name (wpAny_loadName_cell I.ok.kind hk hc hcell fin) hd
  ·exact wpAny_Name (wpAny_loadName_free I.ok.kind hk hc hcell fin hcd) hd
theorem ai {i j pos}:PE X (.Constant (.int i) j pos) (tC (.int i)):=fun _ _ _ H _ I h=>wpAny_Constant_int ⟨.int i,H,I.tok _,⟨_,U⟩,h⟩
theorem cM {b j pos}:PE X (.Constant (.bool b) j pos) (tC (.bl b)):=fun _ _ _ H _ I h=>Constant_bool ⟨.bl b,H,I,U,h⟩
theorem aK {j pos}:PE X (.Constant .none j pos) (tC .non):=fun _ _ _ H _ I h=>Constant_none ⟨.non,H,I,U,h⟩
theorem ah {x j pos}:PE X (.Constant (.str x) j pos) (tC (.str x)):=fun _ _ _ H _ I h=>Calls.Constant_str ⟨.str x,H,I.tok _,⟨_,U⟩,h⟩
def Gl (X:Cx) (x:Str):Prop:=X.env.kindOf x=some .globalImplicit
theorem dA {x:Str} (I:Inv X pins σ H s) (hg:Gl X x) (hm:X.mg x=some u) (h:Q u s)
  (hd:(x == ("__debug__" : Str))=false:=by decide):wpAny (model X.prog X.w) X.A (eval (.Name x pos) X.env) Q E s :=
 Calls.Name_function_global I.ok.kind hg (Calls.loadGlobal_global (by rw[I.ok.glob]; exact I.mod.glob.keeps I.bk) hm h) hd
theorem iB {x:Str} (I:Inv X pins σ H s) (hg:Gl X x) (hm:X.mg x=none) (hv:bootBuiltins x=some u) (h:Q u s)
  (hn:x ≠ "__name__":=by decide) (hd:(x == ("__debug__" : Str))=false:=by decide):wpAny (model X.prog X.w) X.A (eval (.Name x pos) X.env) Q E s:=by
 obtain⟨mb,h1,h2⟩:=I.mod.blt
 exact Calls.Name_function_global I.ok.kind hg (Calls.loadGlobal_builtin (by rw[I.ok.glob]; exact I.mod.glob.keeps I.bk) hm (by rw[I.ok.blt]; exact h1.keeps I.bk) ((h2 x hn).trans hv) h) hd
theorem aQ {x:Str}{v:V} (hg:Gl X x) (hm:X.mg x=some u) (r:RelV v u) (hd:(x == ("__debug__" : Str))=false:=by decide):PE X (.Name x pos) (tC v) :=
 fun _ _ _ H _ I h=>dA I hg hm ⟨v,H,I,r,h⟩ hd
theorem eW {x:Str}{v:V} (hg:Gl X x) (hm:X.mg x=none) (hv:bootBuiltins x=some u) (r:RelV v u) (hn:x ≠ "__name__":=by decide) (hd:(x == ("__debug__" : Str))=false:=by decide):PE X (.Name x pos) (tC v) :=
 fun _ _ _ H _ I h=>iB I hg hm hv ⟨v,H,I,r,h⟩ hn hd
variable {a b:Expr}{ta tb:TE}{pos:Pos}
def PC (X:Cx) (op:CmpOp) (a b:Expr) (t:TE):Prop :=
 ∀ (pins:List (Addr×Obj)) (s:Shared) (σ:St) (H:Hp) (Q:VK),Inv X pins σ H s->t σ H Q ->
  wpAny (model X.prog X.w) X.A (eval a X.env) (fun v s₁=>wpAny (model X.prog X.w) X.A (eval b X.env) (fun u s₂=>wpAny (model X.prog X.w) X.A (compareOp op v u) (EP X pins σ Q) X.xe s₂) X.xe s₁) X.xe s
inductive TB_ (Q:Bool->Hp->Prop) (x:V) (H:Hp):Prop
 | mk (k:Bool) (h:x=.bl k) (q:Q k H):TB_ Q x H
def tB (t:TE):TT:=fun σ H Q=>t σ H (TB_ Q)
theorem bB {op:CmpOp}{t:TE} (h:PC X op a b t) (h1:behindInMarks op b=false:=by first | exact nobehind _ (by decide) (by decide) | rfl):PT X (.Compare a [op] [b] pos) (tB t):=by
 intro pins s σ H Q I hw
 refine wpAny_isTrue_Compare1 (thn (h pins s σ H _ I hw) fun v s1 h1=>thn h1 fun u s2 h2=>thn h2 fun c s3 ⟨x,H1,I1,r1,q1⟩=>?_) h1
 obtain⟨d,rfl,q⟩:=q1
 cases r1
 exact wpAny_truthy_bool ⟨H1,I1,q⟩
theorem bj {e:Expr}{t:TE} (h:PE X e t) (he:∀ whole,isTrue e X.env whole=(do let v <- whole; standAt e.pos; holding [v] (truthy v)):=by intro _; rfl):PT X e (tB t):=by
 intro pins s σ H Q I hw
 refine isTrue_plain (thn (h pins s σ H _ I hw) fun v s1 ⟨x,H1,I1,r1,q1⟩=>?_) (he _)
 obtain⟨d,rfl,q⟩:=q1
 cases r1
 exact wpAny_truthy_bool ⟨H1,I1,q⟩
variable {tA tB':TT}{rest:List Expr}
def tAnd (t u:TT):TT:=fun σ H Q=>t σ H fun c H1=>if c=true then u σ H1 Q else Q false H1
def tOr (t u:TT):TT:=fun σ H Q=>t σ H fun c H1=>if c=true then Q true H1 else u σ H1 Q
def tNot (t:TT):TT:=fun σ H Q=>t σ H fun c H1=>Q (!c) H1
theorem bq (ha:PT X a tA):PW X (.BoolOp .And [a] pos) tA:=by
 intro wh pins s σ H Q I h
 refine isTrue_and (thn (ha pins s σ H Q I h) fun c s1 e=>?_)
 cases c with
 | true=>exact isTrue_and_nil e
 | false=>exact e
theorem ck (ha:PT X a tA):PW X (.BoolOp .Or [a] pos) tA:=by
 intro wh pins s σ H Q I h
 refine isTrue_or (thn (ha pins s σ H Q I h) fun c s1 e=>?_)
 cases c with
 | false=>exact isTrue_or_nil e
 | true=>exact e
theorem bM (ha:PT X a tA) (hb:PW X (.BoolOp .And (b::rest) pos) tB'):PW X (.BoolOp .And (a::b::rest) pos) (tAnd tA tB'):=by
 intro wh pins s σ H Q I h
 refine isTrue_and (thn (ha pins s σ H _ I h) fun c s1 ⟨H1,I1,q1⟩=>?_)
 cases c with
 | true=>exact hb wh pins s1 σ H1 Q I1 q1
 | false=>exact⟨H1,I1,q1⟩
theorem cQ (ha:PT X a tA) (hb:PW X (.BoolOp .Or (b::rest) pos) tB'):PW X (.BoolOp .Or (a::b::rest) pos) (tOr tA tB'):=by
 intro wh pins s σ H Q I h
 refine isTrue_or (thn (ha pins s σ H _ I h) fun c s1 ⟨H1,I1,q1⟩=>?_)
 cases c with
 | true=>exact⟨H1,I1,q1⟩
 | false=>exact hb wh pins s1 σ H1 Q I1 q1
theorem bZ (ha:PT X a tA):PT X (.UnaryOp .Not a pos) (tNot tA):=by
 intro pins s σ H Q I h
 exact isTrue_not (ha pins s σ H (fun c H1=>Q (!c) H1) I h)
def tAndV (ta tb:TE):TE:=fun σ H Q=>ta σ H fun x H1=>∃ c,x=.bl c/\if c=true then tb σ H1 Q else Q (.bl false) H1
def rO (ta:TE):TE:=fun σ H Q=>ta σ H fun x H1=>∃ c,x=.bl c/\Q (.bl (!c)) H1
theorem fz {op} {t:TE} (h:PE X a t):PE X (.BoolOp op [a] pos) t:=fun pins s σ H Q I hw=>BoolOp_one (h pins s σ H Q I hw)
theorem fA (ha:PE X a ta) (hb:PE X (.BoolOp .And (b::rest) pos) tb):PE X (.BoolOp .And (a::b::rest) pos) (tAndV ta tb):=by
 intro pins s σ H Q I h
 refine BoolOp_and (thn (ha pins s σ H _ I h) fun v s1 ⟨x,H1,I1,r1,q1⟩=>?_)
 obtain⟨c,rfl,q1⟩:=q1
 cases r1
 refine wpAny_truthy_bool ?_
 cases c with
 | true=>exact hb pins s1 σ H1 Q I1 q1
 | false=>exact⟨.bl false,H1,I1,U,q1⟩
theorem o0 (ha:PE X a ta):PE X (.UnaryOp .Not a pos) (rO ta):=by
 intro pins s σ H Q I h
 refine UnaryOp_ (thn (ha pins s σ H _ I h) fun v s1 ⟨x,H1,I1,r1,q1⟩=>?_)
 obtain⟨c,rfl,q1⟩:=q1
 cases r1
 exact not_of (wpAny_truthy_bool ⟨.bl (!c),H1,I1,U,q1⟩)
def tIf (t:TT) (ta tb:TE):TE:=fun σ H Q=>t σ H fun c H1=>if c=true then ta σ H1 Q else tb σ H1 Q
theorem dO {c:Expr} (hc:PT X c tA) (ha:PE X a ta) (hb:PE X b tb):PE X (.IfExp c a b pos) (tIf tA ta tb):=by
 intro pins s σ H Q I h
 refine wpAny_IfExp (thn (hc pins s σ H _ I h) fun d s1 ⟨H1,I1,q1⟩=>?_)
 cases d with
 | true=>exact ha pins s1 σ H1 Q I1 q1
 | false=>exact hb pins s1 σ H1 Q I1 q1
end
def SqL (K:PySem.W.Frag) (H:Hp) (a:Addr) (xs:List V):Prop :=
 Rd H a (.lst xs) ∨
  ∃ (o:Obj) (its:Array Value) (n:Nat),K.lookup a=some o/\o.cls=.type "list" /\ o.dict=none/\o.data=.seq its n/\its.size<=sizeLine/\Vals xs its.toList
def SqT (K:PySem.W.Frag) (H:Hp) (a:Addr) (xs:List V):Prop :=
 Rd H a (.tup xs) ∨
  ∃ (o:Obj) (its:Array Value) (n:Nat),K.lookup a=some o/\o.cls=.type "tuple" /\ o.data=.seq its n/\its.size<=sizeLine/\Vals xs its.toList
def absV:Value->Option V
 | .none=>some .non
 | .bool b=>some (.bl b)
 | .int i _=>some (.int i)
 | .str x _=>some (.str x)
 | .bytes b _=>some (.byt b)
 | .float b _=>some (.flt b)
 | .ref a=>some (.ref a)
 | .type n=>some (.ty n)
 | _=>none
theorem RelV.abs {x:V} (r:RelV x u):absV u=some x:=by
 cases x with
 | non=>cases r; rfl
 | bl _=>cases r; rfl
 | int _=>obtain⟨t,rfl⟩:=r; rfl
 | str _=>obtain⟨t,rfl⟩:=r; rfl
 | byt _=>obtain⟨t,rfl⟩:=r; rfl
 | flt _=>obtain⟨t,rfl⟩:=r; rfl
 | ref _=>cases r; rfl
 | ty _=>cases r; rfl
theorem RelV.inj {x y:V} (r:RelV x u) (q:RelV y u):x=y:=Option.some.inj (r.abs.symm.trans q.abs)
theorem Vals.inj {xs ys:List V} (a:Vals xs us) (b:Vals ys us):xs=ys:=by
 induction a generalizing ys with
 | nil=>cases b; rfl
 | cons r t ih=>
  cases b with
  | cons r' t'=>rw[r.inj r',ih t']
variable{K:PySem.W.Frag}
section
variable {X:Cx}{pins:List (Addr×Obj)}{σ:St}{H:Hp}{s:Shared}{a:Addr}{xs ys:List V}
theorem SqL.of (h:H a=some (.lst xs)):SqL K H a xs:=.inl (.inl h)
theorem SqT.of (h:H a=some (.tup xs)):SqT K H a xs:=.inl (.inl h)
theorem Inv.list (I:Inv X pins σ H s) (h:SqL X.K H a xs):∃ its:List Value,Vals xs its/\PlainL s.heap a its.toArray/\xs.length<=sizeLine:=by
 rcases h with h | ⟨o,its,n,hk,hc,hd,hs,hz,r⟩
 ·obtain⟨z,its,n,r,e⟩:=h.ok I.hok
  exact⟨its,r,⟨_,n,e,U,U,U⟩,z⟩
 ·refine⟨its.toList,r,⟨o,n,I.kIn a o hk,hc,hd,by simpa using hs⟩,?_⟩
  have e:=r.length
  simp only[Array.length_toList] at e
  omega
theorem Inv.tuple (I:Inv X pins σ H s) (h:SqT X.K H a xs):∃ its:List Value,Vals xs its/\IsTup s.heap a its.toArray/\xs.length<=sizeLine:=by
 rcases h with h | ⟨o,its,n,hk,hc,hs,hz,r⟩
 ·obtain⟨z,its,r,p⟩:=h.ok I.hok
  exact⟨its,r,p,z⟩
 ·refine⟨its.toList,r,⟨o,I.kIn a o hk,hc,n,by simpa using hs⟩,?_⟩
  have e:=r.length
  simp only[Array.length_toList] at e
  omega
theorem Inv.list_inj (I:Inv X pins σ H s) (h:SqL X.K H a xs) (h':SqL X.K H a ys):xs=ys:=by
 obtain⟨its,r,⟨o,n,e,_,_,d⟩,_⟩:=I.list h
 obtain⟨its',r',⟨o',n',e',_,_,d'⟩,_⟩:=I.list h'
 rw[e] at e'; cases e'
 rw[d] at d'
 injection d' with d1 _
 have:its=its':=by simpa using congrArg Array.toList d1
 subst this
 exact r.inj r'
theorem Inv.tuple_inj (I:Inv X pins σ H s) (h:SqT X.K H a xs) (h':SqT X.K H a ys):xs=ys:=by
 obtain⟨its,r,⟨o,e,_,n,d⟩,_⟩:=I.tuple h
 obtain⟨its',r',⟨o',e',_,n',d'⟩,_⟩:=I.tuple h'
 rw[e] at e'; cases e'
 rw[d] at d'
 injection d' with d1 _
 have:its=its':=by simpa using congrArg Array.toList d1
 subst this
 exact r.inj r'
end
abbrev Cx.wish (X:Cx) (E:Value->Shared->Prop):Cx:={ X with xe:=E }
abbrev Cx.nox (X:Cx):Cx:=X.wish fun _ _=>False
theorem Cx.Ok.wish {X:Cx} (ok:X.Ok) (E:Value->Shared->Prop):(X.wish E).Ok :=
 ⟨ok.mod,ok.kind,ok.glob,ok.blt,ok.above,ok.inj,ok.has,ok.cab,ok.hd,ok.frames,ok.stk,ok.exf,ok.bs,ok.bsz,ok.noex,ok.exfs,ok.funs,ok.frf⟩
theorem Cx.Ok.unwish {X:Cx} (ok:(X.wish E).Ok):X.Ok :=
 ⟨ok.mod,ok.kind,ok.glob,ok.blt,ok.above,ok.inj,ok.has,ok.cab,ok.hd,ok.frames,ok.stk,ok.exf,ok.bs,ok.bsz,ok.noex,ok.exfs,ok.funs,ok.frf⟩
section
variable {X:Cx}{pins:List (Addr×Obj)}{σ:St}{H:Hp}{s:Shared}{E:Value->Shared->Prop}
theorem Inv.wish (I:Inv X pins σ H s) (E:Value->Shared->Prop):Inv (X.wish E) pins σ H s:=⟨I.ok.wish E,I.os,I.bare,I.base,I.loc,I.cell,I.free,I.freeC,I.pin,I.hok,I.len⟩
theorem Inv.unwish (I:Inv (X.wish E) pins σ H s):Inv X pins σ H s:=⟨I.ok.unwish,I.os,I.bare,I.base,I.loc,I.cell,I.free,I.freeC,I.pin,I.hok,I.len⟩
theorem SP.unwish {D:Ends}{f:Flow}{s':Shared} (h:SP (X.wish E) pins D f s'):SP X pins D f s':=by
 cases f with
 | next=>obtain⟨σ',H',I,q⟩:=h; exact⟨σ',H',I.unwish,q⟩
 | brk=>obtain⟨σ',H',I,q⟩:=h; exact⟨σ',H',I.unwish,q⟩
 | cont=>obtain⟨σ',H',I,q⟩:=h; exact⟨σ',H',I.unwish,q⟩
 | ret u=>obtain⟨v,σ',H',I,r,q⟩:=h; exact⟨v,σ',H',I.unwish,r,q⟩
theorem PSs.nox {st:List Stmt}{t:TS} (h:PSs X.nox st t):PSs X st t:=fun pins s σ H D I hw=>
 wpAny_mono (h pins s σ H D (I.wish _) hw) (fun _ _ q=>q.unwish) fun _ _ z=>False.elim z
end
section
variable {X:Cx}{st:Stmt}{rest:List Stmt}{t u:TS}{e:Expr}{te:TE}{pos:Pos}
def tNext:TS:=fun D σ H=>D.nx σ H
def jx (t u:TS):TS:=fun D σ H=>t { D with nx:=u D } σ H
theorem al:PSs X [] tNext:=fun _ _ σ H _ I h=>wpAny_execs_nil ⟨σ,H,I,h⟩
theorem ae (h1:PS X st t) (h2:PSs X rest u):PSs X (st::rest) (jx t u):=by
 intro pins s σ H D I h
 refine wpAny_execs_cons (thn (h1 pins s σ H { D with nx:=u D } I h) fun f s1 q=>?_)
 cases f with
 | next=>
  obtain⟨σ',H',I',q⟩:=q
  exact h2 pins s1 σ' H' D I' q
 | ret v=>exact q
 | brk=>exact q
 | cont=>exact q
theorem ag (h1:PS X st t):PSs X [st] t:=by
 intro pins s σ H D I h
 refine wpAny_execs_cons (thn (h1 pins s σ H D I h) fun f s1 q=>?_)
 cases f with
 | next=>exact wpAny_execs_nil q
 | ret v=>exact q
 | brk=>exact q
 | cont=>exact q
def tM:TS:=fun D σ H=>D.bk σ H
theorem kg:PS X (.Break pos) tM:=fun _ _ σ H _ I h=>wpAny_Break ⟨σ,H,I,h⟩
theorem Inv.quiet (I:Inv X pins σ H s):interactive X.env=false:=by simp[interactive,I.ok.kind]
def rR (te:TE):TS:=fun D σ H=>te σ H fun _ H1=>D.nx σ H1
theorem av (he:PE X e te) (hs:swapsWith e none pos.line X.env=pure false:=by rfl):PS X (.Expr e pos) (rR te):=by
 intro pins s σ H D I h
 exact wpAny_Expr_any (thn (he pins s σ H _ I h) fun v s1 ⟨x,H1,I1,r1,q1⟩=>⟨σ,H1,I1,q1⟩) I.quiet hs
def qB (te:TE):TS:=fun D σ H=>te σ H D.rt
theorem ap (he:PE X e te):PS X (.Return (some e) pos) (qB te):=by
 intro pins s σ H D I h
 exact wpAny_Return_some (thn (he pins s σ H _ I h) fun v s1 ⟨x,H1,I1,r1,q1⟩=>⟨x,σ,H1,I1,r1,q1⟩)
def tIfS (c:TT) (t u:TS):TS:=fun D σ H=>c σ H fun b H1=>if b=true then t D σ H1 else u D σ H1
theorem au {c:Expr}{a b:List Stmt}{tc:TT} (hc:PT X c tc) (ha:PSs X a t) (hb:PSs X b u):PS X (.If c a b pos) (tIfS tc t u):=by
 intro pins s σ H D I h
 refine wpAny_If (thn (hc pins s σ H _ I h) fun d s1 ⟨H1,I1,q1⟩=>?_)
 cases d with
 | true=>exact ha pins s1 σ H1 D I1 q1
 | false=>exact hb pins s1 σ H1 D I1 q1
def tD:TS:=fun _ _ _=>False
theorem bU:PS X st tD:=fun _ _ _ _ _ _ h=>h.elim
end
abbrev TG:=V->St->Hp->(St->Hp->Prop)->Prop
abbrev TGs:=List V->St->Hp->(St->Hp->Prop)->Prop
def PG (X:Cx) (target:Expr) (t:TG):Prop :=
 ∀ (pins:List (Addr×Obj)) (s:Shared) (σ:St) (H:Hp) (v:V) (u:Value) (Q:St->Hp->Prop),Inv X pins σ H s->RelV v u->t v σ H Q ->
  wpAny (model X.prog X.w) X.A (assign target X.env u) (fun _ s'=>∃ σ' H',Inv X pins σ' H' s'/\Q σ' H') X.xe s
def PGs (X:Cx) (ts:List Expr) (t:TGs):Prop :=
 ∀ (pins:List (Addr×Obj)) (s:Shared) (σ:St) (H:Hp) (vs:List V) (us:List Value) (Q:St->Hp->Prop),Inv X pins σ H s->Vals vs us->t vs σ H Q ->
  wpAny (model X.prog X.w) X.A (assignInOrder ((assignEach ts X.env).map (·.2)) us) (fun _ s'=>∃ σ' H',Inv X pins σ' H' s'/\Q σ' H') X.xe s
abbrev vd:=V->V->V->Hp->(Hp->Prop)->Prop
def wA (X:Cx) (t:vd):Prop :=
 ∀ (pins:List (Addr×Obj)) (s:Shared) (σ:St) (H:Hp) (o i v:V) (ov iv u:Value) (Q:Hp->Prop),Inv X pins σ H s->RelV o ov->RelV i iv->RelV v u->t o i v H Q ->
  wpAny (model X.prog X.w) X.A (setItem ov iv u) (fun _ s'=>∃ H',Inv X pins σ H' s'/\Q H') X.xe s
abbrev TIp:=V->V->Hp->VK->Prop
def PIp (X:Cx) (op:Operator) (t:TIp):Prop :=
 ∀ (pins:List (Addr×Obj)) (s:Shared) (σ:St) (H:Hp) (x y:V) (v u:Value) (Q:VK),Inv X pins σ H s->RelV x v->RelV y u->t x y H Q ->
  wpAny (model X.prog X.w) X.A (inplaceOp op v u) (EP X pins σ Q) X.xe s
section
variable {X:Cx}{pos:Pos}
def kD (i:Nat):TG:=fun v σ H Q=>Q (σ.set i (some v)) H
theorem aI {i:Nat}{x:Str} (hN:X.N.Nodup) (hi:X.N[i]?=some x) (hx:Loc X.env.scope x) (hf:X.fn x=true∨X.env.scope.names.lookup x=some .local:=by first | exact .inl rfl | exact .inr rfl | assumption):PG X (.Name x pos) (kD i):=by
 intro pins s σ H v u Q I r h
 exact wpAny_assign_Name (fM I hN hi hx r (fun s' I'=>⟨_,H,I',h⟩) hf)
def gNil:TGs:=fun vs σ H Q=>vs=[]/\Q σ H
inductive GC_ (t:TG) (u:TGs) (vs:List V) (σ:St) (H:Hp) (Q:St->Hp->Prop):Prop
 | mk (v:V) (r:List V) (h:vs=v::r) (q:t v σ H fun σ' H'=>u r σ' H' Q):GC_ t u vs σ H Q
def gCons (t:TG) (u:TGs):TGs:=fun vs σ H Q=>GC_ t u vs σ H Q
theorem cL:PGs X [] gNil:=by
 intro pins s σ H vs us Q I r h
 obtain⟨e,h⟩:=h
 subst e
 cases r
 exact assignInOrder_nil ⟨σ,H,I,h⟩
theorem aU {e:Expr}{es:List Expr}{t:TG}{u:TGs} (h1:PG X e t) (h2:PGs X es u)
  (hs:(assignEach (e::es) X.env).map (·.2)=assign e X.env::(assignEach es X.env).map (·.2):=by rfl):PGs X (e::es) (gCons t u):=by
 intro pins s σ H vs us Q I r h
 obtain⟨v,vr,e1,h⟩:=h
 subst e1
 cases r with
 | cons r rr=>
  rw[hs]
  refine assignInOrder_cons (thn (h1 pins s σ H _ _ _ I r h) fun _ s1 ⟨σ1,H1,I1,q1⟩=>?_)
  exact h2 pins s1 σ1 H1 _ _ Q I1 rr q1
def wj (K:PySem.W.Frag) (n:Nat) (t:TGs):TG:=fun v σ H Q=>∃ a xs,v=.ref a/\SqT K H a xs/\xs.length=n/\t xs σ H Q
theorem dC {es:List Expr}{k:Nat}{t:TGs}{n:Nat} (hc:X.calm=true) (h:PGs X es t)
  (hn:(assignEach es X.env).length=n:=by rfl) (hst:(assignEach es X.env).findIdx? (·.1)=none:=by rfl):PG X (.Tuple es k pos) (wj X.K n t):=by
 intro pins s σ H v u Q I r hw
 obtain⟨a,xs,e1,hq,hl,hw⟩:=hw
 subst e1
 cases r
 obtain⟨its,rv,ht,hz⟩:=I.tuple hq
 refine assign_Tuple_tuple (I.ok.hd hc) ht (by simp[hn,<- hl,rv.length]) hst fun h' hx=>?_
 have I1:Inv X pins σ H { s with heap:=h' }:=I.kept (t':=s.toks) fun b o e=>hx b o (Nat.ne_of_lt (Heap.lt_size e)) e
 exact h pins _ σ H xs _ Q I1 (by simpa using rv) hw
def gSub (to ti:TE) (t:vd):TG:=fun v σ H Q=>to σ H fun o H1=>ti σ H1 fun i H2=>t o i v H2 fun H3=>Q σ H3
theorem gl {o i:Expr}{to ti:TE}{t:vd} (ho:PE X o to) (hi:PE X i ti) (hs:wA X t)
  (ha:∀ v,assign (.Subscript o i pos) X.env v=(do
   let ov <- holding [v] (eval o X.env)
   let iv <- holding [v,ov] (eval i X.env)
   standAt pos
   holding [v,ov,iv] (setItem ov iv v)
   release [v,ov,iv] []):=by intro _; rfl):PG X (.Subscript o i pos) (gSub to ti t):=by
 intro pins s σ H v u Q I r h
 rw[ha]
 refine wpAny_bind (wpAny_holding (thn (ho pins s σ H _ I h) fun ov s1 ⟨x,H1,I1,r1,q1⟩=>?_))
 refine wpAny_bind (wpAny_holding (thn (hi pins s1 σ H1 _ I1 q1) fun iv s2 ⟨y,H2,I2,r2,q2⟩=>?_))
 refine wpAny_bind (wpAny_standAt (wpAny_bind (wpAny_holding (thn (hs pins s2 σ H2 x y v ov iv u _ I2 r1 r2 r q2) fun _ s3 ⟨H3,I3,q3⟩=>?_))))
 exact wpAny_release ⟨σ,H3,I3,q3⟩
def tN (te:TE) (g:TG):TS:=fun D σ H=>te σ H fun x H1=>g x σ H1 D.nx
theorem cD {tg e:Expr}{te:TE}{g:TG} (he:PE X e te) (hg:PG X tg g) (hs:swapsWithSole [tg] e pos.line X.env=pure false:=by rfl) (hw:swappedStores [tg] e X.env=pure none:=by rfl)
  (h1:(assignEach [tg] X.env).map (·.2)=[assign tg X.env]:=by rfl):PS X (.Assign [tg] e pos) (tN te g):=by
 intro pins s σ H D I h
 refine wpAny_Assign_stores (thn (he pins s σ H _ I h) fun v s1 ⟨x,H1,I1,r1,q1⟩=>?_) hs hw
 rw[h1]
 exact thn (hg pins s1 σ H1 x v _ I1 r1 q1) fun _ s2 q=>q
theorem ax {i:Nat}{x:Str}{e:Expr}{te:TE}{pos':Pos} (hN:X.N.Nodup) (hi:X.N[i]?=some x) (hx:Loc X.env.scope x) (he:PE X e te) (hs:swapsWith e (some (.Name x pos')) pos.line X.env=pure false:=by rfl) (hf:X.fn x=true∨X.env.scope.names.lookup x=some .local:=by first | exact .inl rfl | exact .inr rfl | assumption) :
  PS X (.Assign [.Name x pos'] e pos) (tN te (kD i)):=by
 intro pins s σ H D I h
 refine wpAny_Assign_Name (thn (he pins s σ H _ I h) fun v s1 ⟨y,H1,I1,r1,q1⟩=>?_) hs
 exact fM I1 hN hi hx r1 (fun s2 I2=>⟨_,H1,I2,q1⟩) hf
def tAug (i:Nat) (te:TE) (ti:TIp):TS:=fun D σ H=>∃ x,σ[i]?=some (some x)/\te σ H fun y H1=>ti x y H1 fun z H2=>D.nx (σ.set i (some z)) H2
theorem hV {i:Nat}{x:Str}{e:Expr}{te:TE}{op:Operator}{ti:TIp}{pos':Pos} (hN:X.N.Nodup) (hi:X.N[i]?=some x) (hx:Loc X.env.scope x) (he:PE X e te) (ho:PIp X op ti) (hf:X.fn x=true∨X.env.scope.names.lookup x=some .local:=by first | exact .inl rfl | exact .inr rfl | assumption) :
  PS X (.AugAssign (.Name x pos') op e pos) (tAug i te ti):=by
 intro pins s σ H D I h
 obtain⟨v,e1,h⟩:=h
 obtain⟨m,hn,hl⟩:=I.loc
 have vis:Vis X.env.scope x:=by rcases hx with k | k; exact .inl k; exact .inr (.inl k)
 obtain⟨u,r,l⟩:=hl i x v hi e1 vis
 refine wpAny_AugAssign_Name ?_
 have go:wpAny (model X.prog X.w) X.A (eval e X.env) (fun w s₂=>wpAny (model X.prog X.w) X.A (inplaceOp op u w) (fun r s₃=>wpAny (model X.prog X.w) X.A (storeName X.env x r) (fun _=>SP X pins D .next) X.xe s₃) X.xe s₂) X.xe s:=by
  refine thn (he pins s σ H _ I h) fun w s1 ⟨y,H1,I1,r1,q1⟩=>?_
  refine thn (ho pins s1 σ H1 v y u w _ I1 r r1 q1) fun z s2 ⟨zv,H2,I2,r2,q2⟩=>?_
  exact fM I2 hN hi hx r2 (fun s3 I3=>⟨_,H2,I3,q2⟩) hf
 rcases l with ⟨hk,hm⟩ | ⟨hk,c,hc,hcell⟩
 ·exact wpAny_loadName_local I.ok.kind hk hn hm go
 ·rcases hk with hk | hk
  ·exact wpAny_loadName_cell I.ok.kind hk hc hcell go
  ·rcases hx with k | k
   ·have:X.env.scope.names.lookup x=some .free:=hk
    rw[k] at this; cases this
   ·have:X.env.scope.names.lookup x=some .free:=hk
    rw[k] at this; cases this
def ipI (f:Int->Int->Int):TIp:=fun x y H Q=>∃ i j,x=.int i/\y=.int j/\Q (.int (f i j)) H
theorem iD:PIp X .Add (ipI fun i j=>i+j):=by
 intro pins s σ H x y v u Q I r1 r2 h
 obtain⟨i,j,e1,e2,q⟩:=h
 subst e1; subst e2
 obtain⟨t,rfl⟩:=r1
 obtain⟨t',rfl⟩:=r2
 exact iadd_int ⟨.int _,H,I.tok _,⟨_,U⟩,q⟩
end
variable{tb:TS}
section
variable {X:Cx}{pos:Pos}
def og (c:TT) (tb:TS):TS:=fun D σ H=>∃ W:Nat->St->Hp->Prop,(∃ m,W m σ H)/\∀ m σ H,W m σ H ->
 c σ H fun b H1=>if b=true then ∃ N:St->Hp->Prop,(∀ σ' H',N σ' H'->∃ m',m'<m/\W m' σ' H')/\tb { D with nx:=N,ct:=N,bk:=D.nx } σ H1 else D.nx σ H1
theorem cV {c:Expr}{body:List Stmt}{tc:TT} (hp:PassesOwn (model X.prog X.w) X.A X.env X.xe) (hc:PT X c tc) (hb:PSs X body tb):PS X (.While c body [] pos) (og tc tb):=by
 intro pins s σ H D I h
 obtain⟨W,⟨m0,w0⟩,turn⟩:=h
 refine wpAny_While (codeAny_whileLoop (fun n s'=>∃ σ' H',Inv X pins σ' H' s'/\W n σ' H') ?_ m0 ⟨σ,H,I,w0⟩)
 rintro n s1 ⟨σ1,H1,I1,w1⟩
 refine wpAny_passesOwn hp (thn (hc pins s1 σ1 H1 _ I1 (turn n σ1 H1 w1)) fun b s2 ⟨H2,I2,q2⟩=>?_)
 cases b with
 | true=>
  obtain⟨N,hN,q2⟩:=q2
  rw[if_pos rfl]
  refine wpAny_passesOwn hp (thn (hb pins s2 σ1 H2 _ I2 q2) fun f s3 q3=>?_)
  cases f with
  | next=>
   obtain⟨σ3,H3,I3,n3⟩:=q3
   obtain⟨m',hm,w3⟩:=hN σ3 H3 n3
   exact⟨m',hm,σ3,H3,I3,w3⟩
  | cont=>
   obtain⟨σ3,H3,I3,n3⟩:=q3
   obtain⟨m',hm,w3⟩:=hN σ3 H3 n3
   exact⟨m',hm,σ3,H3,I3,w3⟩
  | brk=>exact q3
  | ret v=>exact q3
 | false=>
  rw[if_neg Bool.false_ne_true]
  exact wpAny_execs_nil ⟨σ1,H2,I2,q2⟩
end
structure It where
 go:Nat->Hp->Prop
 yld:Nat->Hp->V->Hp->Prop
 stop:Nat->Hp->Prop
def i3 (X:Cx) (pins:List (Addr×Obj)) (H:Hp) (b:Addr):Prop :=
 H b=none/\b≠X.env.locals/\b ∉ X.fs/\(b ∈ X.ex∨X.s₀.heap.objs.size<=b)/\(∀ x c,X.env.cells.lookup x=some c->c≠b)/\∀ p ∈ X.pn++pins,p.1≠b
theorem Inv.fpOk {X:Cx}{H H':Hp}{b:Addr} (I:Inv X pins σ H s) (hb:s.heap.objs.size<=b) (hn:H' b=none):i3 X pins H' b:=by
 refine⟨hn,Nat.ne_of_gt (Nat.lt_of_lt_of_le I.lt hb),I.nofs hb,.inr (Nat.le_trans I.sz hb),fun x c e z=>?_,fun p hp z=>?_⟩
 ·obtain⟨v,q⟩:=I.cell x c e
  exact absurd (Nat.lt_of_lt_of_le q.lt (by rw[z]; exact hb)) (Nat.lt_irrefl _)
 ·exact absurd (Nat.lt_of_lt_of_le (Heap.lt_size (I.pin p hp).1) (by rw[z]; exact hb)) (Nat.lt_irrefl _)
structure Turn (P:Program) (w:World) (K:PySem.W.Frag) (tg:Expr) (J:It) (fp:List Addr) (it:Addr) (tn:Nat->Heap->Prop):Prop where
 mem:it ∈ fp
 obj:∀ i h,tn i h->∀ b ∈ fp,∃ o,h.get? b=some o/\∀ v,o.data≠.cell v
 keep:∀ i h h',tn i h->(∀ b ∈ fp,∀ o,h.get? b=some o->h'.get? b=some o)->tn i h'
 item:∀ (X:Cx),X.prog=P->X.w=w->X.K=K->X.calm=true->∀ (i:Nat) (pins:List (Addr×Obj)) (s:Shared) (σ:St) (H:Hp) (E:Value->Shared->Prop),Inv X pins σ H s->(∀ b ∈ fp,i3 X pins H b)->tn i s.heap->J.go i H ->
  wpAny (model P w) X.A (pyNext (.ref it)) (fun r s1=>∃ u,r=some u /\
   wpAny (model P w) X.A (letOwnedTupleGo tg (.ref it) u) (fun _ s2=>∃ x H',Inv X pins σ H' s2/\RelV x u/\J.yld i H x H'/\tn (i+1) s2.heap/\∀ b ∈ fp,H' b=none) E s1) E s
 done:∀ (X:Cx),X.prog=P->X.w=w->X.K=K->X.calm=true->∀ (i:Nat) (pins:List (Addr×Obj)) (s:Shared) (σ:St) (H:Hp) (E:Value->Shared->Prop),Inv X pins σ H s->(∀ b ∈ fp,i3 X pins H b)->tn i s.heap->J.stop i H ->
  wpAny (model P w) X.A (pyNext (.ref it)) (fun r s1=>r=none/\Inv X pins σ H s1) E s
 self:∀ (A:Around) (i:Nat) (s:Shared) (Q:Value->Shared->Prop) (E:Value->Shared->Prop),tn i s.heap->Q (.ref it) s->wpAny (model P w) A (pyIter (.ref it)) Q E s
abbrev TI:=St->Hp->(It->Hp->Prop)->Prop
def PIE (X:Cx) (pins:List (Addr×Obj)) (σ:St) (tg:Expr) (R:It->Hp->Prop) (itv:Value) (s2:Shared):Prop :=
 ∃ (it:Addr) (fp:List Addr) (tn:Nat->Heap->Prop) (J:It) (H':Hp),itv=.ref it/\Inv X pins σ H' s2/\Turn X.prog X.w X.K tg J fp it tn/\tn 0 s2.heap/\(∀ b ∈ fp,i3 X pins H' b)/\R J H'
def PI (X:Cx) (tg iter:Expr) (wi:TI):Prop :=
 ∀ (pins:List (Addr×Obj)) (s:Shared) (σ:St) (H:Hp) (R:It->Hp->Prop),Inv X pins σ H s->wi σ H R ->
  wpAny (model X.prog X.w) X.A (eval iter X.env) (fun v s1=>wpAny (model X.prog X.w) X.A (pyIter v) (PIE X pins σ tg R) X.xe s1) X.xe s
theorem mE {M : Model}{A : Around}{E : Value->Shared->Prop}{s : Shared}{tg : Expr}{it : Addr}{u : Value}{o : Obj}{n : String}{vs : Array Value}{Q : Unit->Shared->Prop} (ho : s.heap.get? it=some o) (hc : o.cls=.type n) (hd : o.data=.fields vs)
    (hn : ["enumerate", "zip", "dict_itemiterator", "dict_reverseitemiterator", "odict_iterator", "itertools.zip_longest", "itertools.pairwise"].contains n=false) (hQ : Q () s) : wpAny M A (letOwnedTupleGo tg (.ref it) u) Q E s := by
  unfold letOwnedTupleGo
  cases tg <;> first
    | exact wpAny_pure hQ
    | (cases u <;> first
        | exact wpAny_pure hQ
        | (refine wpAny_bind (wpAny_load ho ?_)
           rw[hc, hd]
           show wpAny M A (if (["enumerate", "zip", "dict_itemiterator", "dict_reverseitemiterator", "odict_iterator", "itertools.zip_longest", "itertools.pairwise"].contains n && vs[0]? == some (rawInt _))=true then _ else _) Q E s
           rw[if_neg (by intro h; rw[hn, Bool.false_and] at h; cases h)]
           exact wpAny_pure hQ))
def Itl (K:PySem.W.Frag) (a:Addr):It :=
 ⟨fun i H=>∃ xs x,SqL K H a xs/\xs[i]?=some x,fun i H x H'=>H'=H/\∀ xs,SqL K H a xs->xs[i]?=some x,fun i H=>∃ xs,SqL K H a xs/\xs.length<=i⟩
def Itt (K:PySem.W.Frag) (a:Addr):It :=
 ⟨fun i H=>∃ xs x,SqT K H a xs/\xs[i]?=some x,fun i H x H'=>H'=H/\∀ xs,SqT K H a xs->xs[i]?=some x,fun i H=>∃ xs,SqT K H a xs/\xs.length<=i⟩
def Itr (lo:Int) (n:Nat):It:=⟨fun i _=>i<n,fun i H x H'=>H'=H/\x=.int (lo+i),fun i _=>n<=i⟩
theorem mZ {tg:Expr} (a it:Addr):Turn P w K tg (Itl K a) [it] it (fun i h=>h.IsListIter it a i) where
 mem:=by simp
 obj:=fun i h st b hb=>by
  have e:b=it:=by simpa using hb
  subst e
  obtain⟨o,e,c,d⟩:=st
  exact⟨o,e,fun v z=>by rw[d] at z; cases z⟩
 keep:=fun i h h' st k=>st.at fun o e=>k it (by simp) o e
 item:=by
  intro X hP hw hK hc i pins s σ H E I hf st hg
  subst hP hw hK
  obtain⟨xs,x,hq,hx⟩:=hg
  obtain⟨its,rv,p,hz⟩:=I.list hq
  obtain⟨u,hu,ru⟩:=rv.get hx
  obtain⟨f0,f1,f2,f3,f4,f5⟩:=hf it (by simp)
  refine wpAny_pyNext_list_item st p.isList (x:=u) (by simpa using hu) fun h' st' sb=>?_
  have I1:Inv X pins σ H { s with heap:=h' }:=I.turned (t':=s.toks) (fun b o hb e=>(sb.2 b hb).trans e) f0 f1 f3 f4 f5
  obtain⟨o,e,c,d⟩:=id st'
  exact⟨u,U,mE (s:={ s with heap:=h' }) e c d (by decide) ⟨x,H,I1,ru,⟨U,fun ys hy=>by rw[I.list_inj hy hq]; exact hx⟩,st',fun b hb=>(hf b hb).1⟩⟩
 done:=by
  intro X hP hw hK hc i pins s σ H E I hf st hg
  subst hP hw hK
  obtain⟨xs,hq,hx⟩:=hg
  obtain⟨its,rv,p,hz⟩:=I.list hq
  obtain⟨f0,f1,f2,f3,f4,f5⟩:=hf it (by simp)
  have hl:=rv.length
  exact wpAny_pyNext_list_end (I.ok.hd hc) st p.isList (by simp; omega) fun h' eb=>⟨U,I.turned (t':=s.toks) (fun b o hb e=>eb b o hb e) f0 f1 f3 f4 f5⟩
 self:=fun _ _ _ _ _ st h=>wpAny_pyIter_listiter st h
theorem kT {tg:Expr} (a it:Addr):Turn P w K tg (Itt K a) [it] it (fun i h=>h.IsTupleIter it a i) where
 mem:=by simp
 obj:=fun i h st b hb=>by
  have e:b=it:=by simpa using hb
  subst e
  obtain⟨o,e,c,d⟩:=st
  exact⟨o,e,fun v z=>by rw[d] at z; cases z⟩
 keep:=fun i h h' st k=>st.at fun o e=>k it (by simp) o e
 item:=by
  intro X hP hw hK hc i pins s σ H E I hf st hg
  subst hP hw hK
  obtain⟨xs,x,hq,hx⟩:=hg
  obtain⟨its,rv,p,hz⟩:=I.tuple hq
  obtain⟨u,hu,ru⟩:=rv.get hx
  obtain⟨f0,f1,f2,f3,f4,f5⟩:=hf it (by simp)
  refine wpAny_pyNext_tuple_item st (show s.heap.IsTuple a its.toArray from p) (x:=u) (by simpa using hu) fun h' st' sb=>?_
  have I1:Inv X pins σ H { s with heap:=h' }:=I.turned (t':=s.toks) (fun b o hb e=>(sb.2 b hb).trans e) f0 f1 f3 f4 f5
  obtain⟨o,e,c,d⟩:=id st'
  exact⟨u,U,mE (s:={ s with heap:=h' }) e c d (by decide) ⟨x,H,I1,ru,⟨U,fun ys hy=>by rw[I.tuple_inj hy hq]; exact hx⟩,st',fun b hb=>(hf b hb).1⟩⟩
 done:=by
  intro X hP hw hK hc i pins s σ H E I hf st hg
  subst hP hw hK
  obtain⟨xs,hq,hx⟩:=hg
  obtain⟨its,rv,p,hz⟩:=I.tuple hq
  obtain⟨f0,f1,f2,f3,f4,f5⟩:=hf it (by simp)
  have hl:=rv.length
  exact wpAny_pyNext_tuple_end (I.ok.hd hc) st (show s.heap.IsTuple a its.toArray from p) (by simp; omega) fun h' eb=>⟨U,I.turned (t':=s.toks) (fun b o hb e=>eb b o hb e) f0 f1 f3 f4 f5⟩
 self:=fun _ _ _ _ _ st h=>wpAny_pyIter_tupleiter st h
theorem kU {tg:Expr} (it:Addr) (lo:Int) (n:Nat):Turn P w K tg (Itr lo n) [it] it (fun i h=>IsRangeIter h it (lo+(i:Nat)*1) ((n:Int) - (i:Nat)) 1) where
 mem:=by simp
 obj:=fun i h st b hb=>by
  have e:b=it:=by simpa using hb
  subst e
  exact⟨_,st,fun v z=>by
   have z':Data.fields _=Data.cell v:=z
   cases z'⟩
 keep:=fun i h h' st k=>k it (by simp) _ st
 item:=by
  intro X hP hw hK hc i pins s σ H E I hf st hg
  subst hP hw hK
  obtain⟨f0,f1,f2,f3,f4,f5⟩:=hf it (by simp)
  have W:=Walks.range (prog:=X.prog) (w:=X.w) (I.ok.hd hc) it lo 1 n
  refine W.item i s _ _ hg st fun v h' tk hv st' kk=>?_
  obtain⟨t,rfl⟩:=hv
  have I1:Inv X pins σ H { s with heap:=h',toks:=tk }:=I.turned (fun b o hb e=>kk b o (by simpa using hb) e) f0 f1 f3 f4 f5
  refine⟨_,U,mE (s:={ s with heap:=h',toks:=tk }) (n := "range_iterator") st' rfl rfl (by decide) ⟨.int (lo+i),H,I1,⟨t,?_⟩,⟨U,U⟩,st',fun b hb=>(hf b hb).1⟩⟩
  rw[Int.mul_one]
 done:=by
  intro X hP hw hK hc i pins s σ H E I hf st hg
  subst hP hw hK
  obtain⟨f0,f1,f2,f3,f4,f5⟩:=hf it (by simp)
  exact wpAny_pyNext_range_end (I.ok.hd hc) st (by have:n<=i:=hg; omega) fun h' eb=>⟨U,I.turned (t':=s.toks) (fun b o hb e=>eb b o hb e) f0 f1 f3 f4 f5⟩
 self:=fun _ _ _ _ _ st h=>wpAny_pyIter_rangeiter st h
section
variable {X:Cx}{tg:Expr}
def iList (K:PySem.W.Frag) (tl:TE):TI:=fun σ H R=>tl σ H fun x H1=>∃ a,x=.ref a/\(∃ xs,SqL K H1 a xs)/\R (Itl K a) H1
def iTup (K:PySem.W.Frag) (tl:TE):TI:=fun σ H R=>tl σ H fun x H1=>∃ a,x=.ref a/\(∃ xs,SqT K H1 a xs)/\R (Itt K a) H1
theorem gT {l:Expr}{tl:TE} (hl:PE X l tl):PI X tg l (iList X.K tl):=by
 intro pins s σ H R I h
 refine thn (hl pins s σ H _ I h) fun v s1 ⟨x,H1,I1,r1,q1⟩=>?_
 obtain⟨a,e,⟨xs,hq⟩,q⟩:=q1
 subst e
 cases r1
 obtain⟨its,rv,p,hz⟩:=I1.list hq
 refine wpAny_pyIter_list p.isList ?_
 refine⟨s1.heap.objs.size,[s1.heap.objs.size],_,_,H1,U,I1.kept (t':=s1.toks) fun b o e=>Heap.get?_push_of_some _ e,mZ a _,⟨_,Heap.get?_push_size _ rfl,U,U⟩,fun b hb=>?_,q⟩
 have e:b=s1.heap.objs.size:=by simpa using hb
 subst e
 exact I1.fpOk (Nat.le_refl _) (I1.hok.fresh (Nat.le_refl _))
theorem oZ {l:Expr}{tl:TE} (hl:PE X l tl):PI X tg l (iTup X.K tl):=by
 intro pins s σ H R I h
 refine thn (hl pins s σ H _ I h) fun v s1 ⟨x,H1,I1,r1,q1⟩=>?_
 obtain⟨a,e,⟨xs,hq⟩,q⟩:=q1
 subst e
 cases r1
 obtain⟨its,rv,p,hz⟩:=I1.tuple hq
 refine wpAny_pyIter_tuple (show s1.heap.IsTuple a its.toArray from p) ?_
 refine⟨s1.heap.objs.size,[s1.heap.objs.size],_,_,H1,U,I1.kept (t':=s1.toks) fun b o e=>Heap.get?_push_of_some _ e,kT a _,⟨_,Heap.get?_push_size _ rfl,U,U⟩,fun b hb=>?_,q⟩
 have e:b=s1.heap.objs.size:=by simpa using hb
 subst e
 exact I1.fpOk (Nat.le_refl _) (I1.hok.fresh (Nat.le_refl _))
theorem oV {R:It->Hp->Prop}{lo hi:Int}{t u v:Tok}{tk:Nat} (I:Inv X pins σ H s) (h1:-(2 ^ 62)<=lo) (h2:lo<2 ^ 62) (h3:-(2 ^ 62)<=hi) (h4:hi<2 ^ 62)
  (q:R (Itr lo (hi - lo).toNat) H):wpAny (model X.prog X.w) X.A (pyIter (.ref s.heap.objs.size)) (PIE X pins σ tg R) E { s with heap:=s.heap.push { cls:=.type "range",data:=.fields #[.int lo t,.int hi u,.int 1 v] },toks:=tk }:=by
 refine wpAny_pyIter_range (IsRange.new ..) (small_one h1 h2 h3 h4) ?_
 have I1:Inv X pins σ H { s with heap:=s.heap.push { cls:=.type "range",data:=.fields #[.int lo t,.int hi u,.int 1 v] },toks:=tk }:=I.kept fun b o e=>Heap.get?_push_of_some _ e
 refine⟨(s.heap.push { cls:=.type "range",data:=.fields #[.int lo t,.int hi u,.int 1 v] }).objs.size,[(s.heap.push { cls:=.type "range",data:=.fields #[.int lo t,.int hi u,.int 1 v] }).objs.size],_,_,H,U,
  I1.kept (t':=tk) fun b o e=>Heap.get?_push_of_some _ e,kU _ lo (hi - lo).toNat,?_,fun b hb=>?_,q⟩
 ·have e1:lo+((0:Nat):Int)*1=lo:=by simp
  have e2:(((hi - lo).toNat:Nat):Int) - ((0:Nat):Int)=Builtin.Range.rangeSize lo hi 1:=by rw[rangeSize_one]; split <;> omega
  show IsRangeIter _ _ (lo+((0:Nat):Int)*1) ((((hi - lo).toNat:Nat):Int) - ((0:Nat):Int)) 1
  rw[e1,e2]
  exact Heap.get?_push_size _ rfl
 ·have e:b=(s.heap.push { cls:=.type "range",data:=.fields #[.int lo t,.int hi u,.int 1 v] }).objs.size:=by simpa using hb
  subst e
  exact I1.fpOk (Nat.le_refl _) (I1.hok.fresh (Nat.le_refl _))
def iRng1 (ta:TA):TI:=fun σ H R=>ta σ H fun vs H1=>∃ j:Int,vs=[.int j]/\-(2 ^ 62)<=j/\j<2 ^ 62/\R (Itr 0 j.toNat) H1
theorem cu {a:Expr}{ta:TA}{p pos:Pos} (hg:Gl X "range") (hm:X.mg "range" = none) (ha:PA X [a] ta) (hs:starEach [a] X.env=[(false,eval a X.env)]:=by rfl):PI X tg (.Call (.Name "range" p) [a] [] pos) (iRng1 ta):=by
 intro pins s σ H R I h
 refine Call_ (iB I hg hm boot_range (PyProof.Rows.callWith_type1 (thn (ha pos pins s σ H _ I h) fun us s1 ⟨vs,H1,I1,r1,q1⟩=>?_) hs rfl))
 obtain⟨j,e,q1,q2,q⟩:=q1
 subst e
 cases r1 with
 | cons r rr=>
  cases rr
  obtain⟨t,rfl⟩:=r
  exact call_range_1 (oV I1 (by omega) (by omega) q1 q2 (by simpa using q))
def tFor (wi:TI) (g:TG) (tb:TS):TS:=fun D σ H=>wi σ H fun J H1=>∃ W:Nat->Nat->St->Hp->Prop,(∃ m,W 0 m σ H1)/\∀ i m σ H,W i m σ H ->
 (J.stop i H/\D.nx σ H)∨(J.go i H/\∃ N:St->Hp->Prop,(∀ σ' H',N σ' H'->∃ m',m'<m/\W (i+1) m' σ' H')/\∀ x H',J.yld i H x H'->g x σ H' fun σ2 H2=>tb { D with nx:=N,ct:=N,bk:=D.nx } σ2 H2)
def hW (fp:List Addr) (h:Heap):List (Addr×Obj):=fp.filterMap fun b=>(h.get? b).map fun o=>(b,o)
theorem d7 {fp:List Addr}{b:Addr}{o:Obj} (hb:b ∈ fp) (e:h.get? b=some o):(b,o) ∈ hW fp h:=List.mem_filterMap.mpr ⟨b,hb,by rw[e]; rfl⟩
theorem nn {fp:List Addr}{p:Addr×Obj} (hp:p ∈ hW fp h):p.1 ∈ fp/\h.get? p.1=some p.2:=by
 obtain⟨b,hb,e⟩:=List.mem_filterMap.mp hp
 cases q:h.get? b with
 | none=>rw[q] at e; cases e
 | some o=>
  rw[q] at e
  have e':(b,o)=p:=Option.some.inj e
  subst e'
  exact⟨hb,q⟩
theorem Inv.pinned {fp:List Addr} (I:Inv X pins σ H s) (hf:∀ b ∈ fp,i3 X pins H b) (ho:∀ b ∈ fp,∃ o,s.heap.get? b=some o/\∀ v,o.data≠.cell v):Inv X (pins++hW fp s.heap) σ H s :=
 I.pins_of fun p hp=>(xb.mp hp).elim (fun z=>I.pin p (wD _ z)) fun z=>by
  obtain⟨hb,e⟩:=nn z
  obtain⟨f0,f1,f2,_⟩:=hf p.1 hb
  obtain⟨o,e',d⟩:=ho p.1 hb
  rw[e] at e'; cases e'
  exact⟨e,f0,f1,f2,d⟩
theorem Inv.unpinned {pins pl:List (Addr×Obj)} (I:Inv X (pins++pl) σ H s):Inv X pins σ H s:=I.pins_of fun p hp=>I.pin p (wD _ (wY _ hp))
theorem cK {iter:Expr}{body:List Stmt}{wi:TI}{g:TG} (hp:PassesOwn (model X.prog X.w) X.A X.env X.xe) (hc:X.calm=true) (hi:PI X tg iter wi) (hg:PG X tg g) (hb:PSs X body tb)
  (hs:∀ x,foldedSetIterable iter X.env x=pure x:=by intro _; rfl):PS X (.For tg iter body [] pos) (tFor wi g tb):=by
 intro pins s σ H D I h
 refine wpAny_For (thn (hi pins s σ H _ I h) fun v s1 h1=>thn h1 fun itv s2 h2=>?_) hs
 obtain⟨it,fp,tn,J,H2,e,I2,T,st2,f2,W,⟨m0,w0⟩,turn⟩:=h2
 subst e
 have stat:∀ {H':Hp},(∀ b ∈ fp,H' b=none)->∀ b ∈ fp,i3 X pins H' b:=fun hn b hb=>⟨hn b hb,(f2 b hb).2⟩
 refine codeAny_forLoop_any (fun n s'=>∃ i σ' H',Inv X pins σ' H' s'/\tn i s'.heap/\(∀ b ∈ fp,H' b=none)/\W i n σ' H') ?_ m0 ⟨0,σ,H2,I2,st2,fun b hb=>(f2 b hb).1,w0⟩
 rintro n s3 ⟨i,σ3,H3,I3,st3,fr3,w3⟩
 rcases turn i n σ3 H3 w3 with ⟨stop,qn⟩ | ⟨go,N,hN,step⟩
 ·refine wpAny_passesOwn hp (thn (T.done X rfl rfl rfl hc i pins s3 σ3 H3 X.xe I3 (stat fr3) st3 stop) fun r s4 ⟨hr,I4⟩=>?_)
  subst hr
  exact wpAny_execs_nil ⟨σ3,H3,I4,qn⟩
 ·refine wpAny_passesOwn hp (thn (T.item X rfl rfl rfl hc i pins s3 σ3 H3 X.xe I3 (stat fr3) st3 go) fun r s4 ⟨u,hr,h4⟩=>?_)
  subst hr
  refine wpAny_passesOwn hp (thn h4 fun _ s5 ⟨x,H5,I5,r5,y5,st5,fr5⟩=>?_)
  have I5':=I5.pinned (stat fr5) (T.obj _ _ st5)
  refine wpAny_passesOwn hp (thn (hg _ s5 σ3 H5 x u _ I5' r5 (step x H5 y5)) fun _ s6 ⟨σ6,H6,I6,q6⟩=>?_)
  refine wpAny_passesOwn hp (thn (hb _ s6 σ6 H6 _ I6 q6) fun f s7 q7=>?_)
  have again:∀ {σ7:St}{H7:Hp},Inv X (pins++hW fp s5.heap) σ7 H7 s7->N σ7 H7->∃ m,m<n/\∃ i σ' H',Inv X pins σ' H' s7/\tn i s7.heap/\(∀ b ∈ fp,H' b=none)/\W i m σ' H':=fun {σ7 H7} I7 n7=>by
   obtain⟨m',hm,w7⟩:=hN σ7 H7 n7
   refine⟨m',hm,i+1,σ7,H7,I7.unpinned,T.keep _ _ _ st5 fun b hb o e=>(I7.pin (b,o) (wD _ (wD _ (d7 hb e)))).1,fun b hb=>?_,w7⟩
   obtain⟨o,e,d⟩:=T.obj _ _ st5 b hb
   exact(I7.pin (b,o) (wD _ (wD _ (d7 hb e)))).2.1
  cases f with
  | next=>obtain⟨σ7,H7,I7,n7⟩:=q7; exact again I7 n7
  | cont=>obtain⟨σ7,H7,I7,n7⟩:=q7; exact again I7 n7
  | brk=>obtain⟨σ7,H7,I7,q7⟩:=q7; exact⟨σ7,H7,I7.unpinned,q7⟩
  | ret v=>obtain⟨x7,σ7,H7,I7,r7,q7⟩:=q7; exact⟨x7,σ7,H7,I7.unpinned,r7,q7⟩
end
theorem kF {K:PySem.W.Frag}{a:Addr}{xs:List V}{g:TG}{D:Ends} (Pv:Nat->St->Hp->Prop) (h0:Pv 0 σ H) (hl:∀ i σ H,i<=xs.length->Pv i σ H->SqL K H a xs)
  (hs:∀ i x σ H,xs[i]?=some x->Pv i σ H->g x σ H fun σ2 H2=>tb { D with nx:=Pv (i+1),ct:=Pv (i+1),bk:=D.nx } σ2 H2) (hd:∀ σ H,Pv xs.length σ H->D.nx σ H) :
  ∃ W:Nat->Nat->St->Hp->Prop,(∃ m,W 0 m σ H)/\∀ i m σ H,W i m σ H ->
   ((Itl K a).stop i H/\D.nx σ H)∨((Itl K a).go i H/\∃ N:St->Hp->Prop,(∀ σ' H',N σ' H'->∃ m',m'<m/\W (i+1) m' σ' H')/\∀ x H',(Itl K a).yld i H x H'->g x σ H' fun σ2 H2=>tb { D with nx:=N,ct:=N,bk:=D.nx } σ2 H2):=by
 refine⟨fun i m σ H=>m=xs.length - i/\i<=xs.length/\Pv i σ H,⟨xs.length,by simp,Nat.zero_le _,h0⟩,?_⟩
 rintro i m σ H ⟨rfl,hi,p⟩
 have q:=hl i σ H hi p
 by_cases hlt:i<xs.length
 ·refine .inr ⟨⟨xs,xs[i],q,by simp[hlt]⟩,Pv (i+1),fun σ' H' p'=>⟨xs.length - (i+1),by omega,U,hlt,p'⟩,fun x H' y=>?_⟩
  obtain⟨e,y⟩:=y
  subst e
  exact hs i x σ _ (y xs q) p
 ·have e:i=xs.length:=by omega
  subst e
  exact .inl ⟨⟨xs,q,Nat.le_refl _⟩,hd σ H p⟩
theorem mF {a:Addr}{xs:List V}{g:TG}{D:Ends} (Pv:Nat->St->Hp->Prop) (h0:Pv 0 σ H) (hl:∀ i σ H,i<=xs.length->Pv i σ H->SqT K H a xs)
  (hs:∀ i x σ H,xs[i]?=some x->Pv i σ H->g x σ H fun σ2 H2=>tb { D with nx:=Pv (i+1),ct:=Pv (i+1),bk:=D.nx } σ2 H2) (hd:∀ σ H,Pv xs.length σ H->D.nx σ H) :
  ∃ W:Nat->Nat->St->Hp->Prop,(∃ m,W 0 m σ H)/\∀ i m σ H,W i m σ H ->
   ((Itt K a).stop i H/\D.nx σ H)∨((Itt K a).go i H/\∃ N:St->Hp->Prop,(∀ σ' H',N σ' H'->∃ m',m'<m/\W (i+1) m' σ' H')/\∀ x H',(Itt K a).yld i H x H'->g x σ H' fun σ2 H2=>tb { D with nx:=N,ct:=N,bk:=D.nx } σ2 H2):=by
 refine⟨fun i m σ H=>m=xs.length - i/\i<=xs.length/\Pv i σ H,⟨xs.length,by simp,Nat.zero_le _,h0⟩,?_⟩
 rintro i m σ H ⟨rfl,hi,p⟩
 have q:=hl i σ H hi p
 by_cases hlt:i<xs.length
 ·refine .inr ⟨⟨xs,xs[i],q,by simp[hlt]⟩,Pv (i+1),fun σ' H' p'=>⟨xs.length - (i+1),by omega,U,hlt,p'⟩,fun x H' y=>?_⟩
  obtain⟨e,y⟩:=y
  subst e
  exact hs i x σ _ (y xs q) p
 ·have e:i=xs.length:=by omega
  subst e
  exact .inl ⟨⟨xs,q,Nat.le_refl _⟩,hd σ H p⟩
theorem cw {lo:Int}{n:Nat}{g:TG}{D:Ends} (Pv:Nat->St->Hp->Prop) (h0:Pv 0 σ H)
  (hs:∀ i σ H,i<n->Pv i σ H->g (.int (lo+i)) σ H fun σ2 H2=>tb { D with nx:=Pv (i+1),ct:=Pv (i+1),bk:=D.nx } σ2 H2) (hd:∀ σ H,Pv n σ H->D.nx σ H) :
  ∃ W:Nat->Nat->St->Hp->Prop,(∃ m,W 0 m σ H)/\∀ i m σ H,W i m σ H ->
   ((Itr lo n).stop i H/\D.nx σ H)∨((Itr lo n).go i H/\∃ N:St->Hp->Prop,(∀ σ' H',N σ' H'->∃ m',m'<m/\W (i+1) m' σ' H')/\∀ x H',(Itr lo n).yld i H x H'->g x σ H' fun σ2 H2=>tb { D with nx:=N,ct:=N,bk:=D.nx } σ2 H2):=by
 refine⟨fun i m σ H=>m=n - i/\i<=n/\Pv i σ H,⟨n,by simp,Nat.zero_le _,h0⟩,?_⟩
 rintro i m σ H ⟨rfl,hi,p⟩
 by_cases hlt:i<n
 ·refine .inr ⟨hlt,Pv (i+1),fun σ' H' p'=>⟨n - (i+1),by omega,U,hlt,p'⟩,fun x H' y=>?_⟩
  obtain⟨e,y⟩:=y
  subst e y
  exact hs i σ _ hlt p
 ·have e:i=n:=by omega
  subst e
  exact .inl ⟨Nat.le_refl _,hd σ H p⟩
theorem nX {c:TT}{D:Ends} (Pv:St->Hp->Prop) (μ:St->Hp->Nat) (h0:Pv σ H)
  (hs:∀ σ H,Pv σ H->c σ H fun b H1=>if b=true then tb { D with nx:=fun σ' H'=>Pv σ' H'/\μ σ' H'<μ σ H,ct:=fun σ' H'=>Pv σ' H'/\μ σ' H'<μ σ H,bk:=D.nx } σ H1 else D.nx σ H1)
  (mono:∀ σ H Q Q',(∀ b H1,Q b H1->Q' b H1)->c σ H Q->c σ H Q'):og c tb D σ H:=by
 refine⟨fun m σ H=>m=μ σ H/\Pv σ H,⟨_,U,h0⟩,?_⟩
 rintro m σ H ⟨rfl,p⟩
 refine mono σ H _ _ (fun b H1 q=>?_) (hs σ H p)
 cases b with
 | true=>exact⟨_,fun σ' H' ⟨p',l⟩=>⟨_,l,U,p'⟩,q⟩
 | false=>exact q
abbrev R2:=V->V->Hp->VK->Prop
def OpR (X:Cx) (f:Value->Value->Sem Value) (r:R2):Prop :=
 ∀ (pins:List (Addr×Obj)) (s:Shared) (σ:St) (H:Hp) (x y:V) (v u:Value) (Q:VK),Inv X pins σ H s->RelV x v->RelV y u->r x y H Q ->
  wpAny (model X.prog X.w) X.A (f v u) (EP X pins σ Q) X.xe s
def UnR (X:Cx) (f:Value->Sem Value) (r:V->Hp->VK->Prop):Prop :=
 ∀ (pins:List (Addr×Obj)) (s:Shared) (σ:St) (H:Hp) (x:V) (v:Value) (Q:VK),Inv X pins σ H s->RelV x v->r x H Q ->
  wpAny (model X.prog X.w) X.A (f v) (EP X pins σ Q) X.xe s
def cR (X:Cx) (f:Value) (r:List V->Hp->VK->Prop):Prop :=
 ∀ (pins:List (Addr×Obj)) (s:Shared) (σ:St) (H:Hp) (xs:List V) (us:List Value) (Q:VK),Inv X pins σ H s->Vals xs us->r xs H Q ->
  wpAny (model X.prog X.w) X.A (call f us) (EP X pins σ Q) X.xe s
def tOp (r:R2) (ta tb:TE):TE:=fun σ H Q=>ta σ H fun x H1=>tb σ H1 fun y H2=>r x y H2 Q
def tUn (r:V->Hp->VK->Prop) (ta:TE):TE:=fun σ H Q=>ta σ H fun x H1=>r x H1 Q
inductive RI_ (C:Int->Int->Prop) (g:Int->Int->V) (x y:V) (H:Hp) (Q:VK):Prop
 | mk (i j:Int) (h1:x=.int i) (h2:y=.int j) (c:C i j) (q:Q (g i j) H):RI_ C g x y H Q
def rI (C:Int->Int->Prop) (g:Int->Int->V):R2:=fun x y H Q=>RI_ C g x y H Q
inductive RJ_ (g:Int->Int->V) (x y:V) (H:Hp) (Q:VK):Prop
 | mk (i j:Int) (h1:x=.int i) (h2:y=.int j) (q:Q (g i j) H):RJ_ g x y H Q
def rI0 (g:Int->Int->V):R2:=fun x y H Q=>RJ_ g x y H Q
def rU (g:Int->V):V->Hp->VK->Prop:=fun x H Q=>∃ i,x=.int i/\Q (g i) H
variable{f:Value->Value->Sem Value}
section
variable {X:Cx}{a b c:Expr}{ta tb tc:TE}{pos:Pos}
theorem uZ (ha:PE X a ta) (hb:PE X b tb) {R:V->V->Hp->Prop} (I:Inv X pins σ H s)
  (h:ta σ H fun x H1=>tb σ H1 fun y H2=>R x y H2) {Q:Value->Shared->Prop}{f:Value->Value->Sem Value}
  (hf:∀ v u s2 x y H2,Inv X pins σ H2 s2->RelV x v->RelV y u->R x y H2->wpAny (model X.prog X.w) X.A (f v u) Q X.xe s2) :
  wpAny (model X.prog X.w) X.A (eval a X.env) (fun v s₁=>wpAny (model X.prog X.w) X.A (eval b X.env) (fun u s₂=>wpAny (model X.prog X.w) X.A (f v u) Q X.xe s₂) X.xe s₁) X.xe s:=by
 refine thn (ha pins s σ H _ I h) fun v s1 ⟨x,H1,I1,r1,q1⟩=>?_
 refine thn (hb pins s1 σ H1 _ I1 q1) fun u s2 ⟨y,H2,I2,r2,q2⟩=>?_
 exact hf v u s2 x y H2 I2 r1 r2 q2
theorem aC {op:Operator}{r:R2} (ho:OpR X (binaryOp op) r) (ha:PE X a ta) (hb:PE X b tb):PE X (.BinOp a op b pos) (tOp r ta tb):=by
 intro pins s σ H Q I h
 exact wpAny_BinOp (uZ ha hb I h fun v u s2 x y H2 I2 rx ry q=>ho pins s2 σ H2 x y v u Q I2 rx ry q)
theorem pe_un {op:UnaryOp}{r:V->Hp->VK->Prop} (ho:UnR X (unaryOp op) r) (ha:PE X a ta):PE X (.UnaryOp op a pos) (tUn r ta):=by
 intro pins s σ H Q I h
 exact UnaryOp_ (thn (ha pins s σ H _ I h) fun v s1 ⟨x,H1,I1,r1,q1⟩=>ho pins s1 σ H1 x v Q I1 r1 q1)
theorem opI {C:Int->Int->Prop}{g:Int->Int->Int}
  (rule:∀ (i j:Int) (t u:Tok) (s:Shared) (Q:Value->Shared->Prop) (E:Value->Shared->Prop),C i j->Q (.int (g i j) s.toks) { s with toks:=s.toks+1 }->wpAny (model X.prog X.w) X.A (f (.int i t) (.int j u)) Q E s) :
  OpR X f (rI C fun i j=>.int (g i j)):=by
 intro pins s σ H x y v u Q I rx ry h
 obtain⟨i,j,rfl,rfl,hc,q⟩:=h
 obtain⟨t,rfl⟩:=rx
 obtain⟨t',rfl⟩:=ry
 exact rule i j t t' s _ _ hc ⟨.int (g i j),H,I.tok _,⟨_,U⟩,q⟩
theorem wb {g:Int->Int->Int}
  (rule:∀ (i j:Int) (t u:Tok) (s:Shared) (Q:Value->Shared->Prop) (E:Value->Shared->Prop),Q (.int (g i j) s.toks) { s with toks:=s.toks+1 }->wpAny (model X.prog X.w) X.A (f (.int i t) (.int j u)) Q E s) :
  OpR X f (rI0 fun i j=>.int (g i j)):=by
 intro pins s σ H x y v u Q I rx ry h
 obtain⟨i,j,rfl,rfl,q⟩:=h
 obtain⟨t,rfl⟩:=rx
 obtain⟨t',rfl⟩:=ry
 exact rule i j t t' s _ _ ⟨.int (g i j),H,I.tok _,⟨_,U⟩,q⟩
theorem qS {g:Int->Int->Bool}
  (rule:∀ (i j:Int) (t u:Tok) (s:Shared) (Q:Value->Shared->Prop) (E:Value->Shared->Prop),Q (.bool (g i j)) s->wpAny (model X.prog X.w) X.A (f (.int i t) (.int j u)) Q E s) :
  OpR X f (rI0 fun i j=>.bl (g i j)):=by
 intro pins s σ H x y v u Q I rx ry h
 obtain⟨i,j,rfl,rfl,q⟩:=h
 obtain⟨t,rfl⟩:=rx
 obtain⟨t',rfl⟩:=ry
 exact rule i j t t' s _ _ ⟨.bl (g i j),H,I,U,q⟩
def CDiv (i j:Int):Prop:=0<j/\j<1073741824
def CPow (i j:Int):Prop:=0<=j/\j<=1000000/\i.natAbs<2 ^ 64
def CMul (i j:Int):Prop:=(-(2 ^ 64)<i/\i<2 ^ 64)∨(-(2 ^ 64)<j/\j<2 ^ 64)
theorem CMul.ok {i j:Int} (h:CMul i j):IntMulOk i j:=by
 rcases h with ⟨h1,h2⟩ | ⟨h1,h2⟩
 ·exact .of_left (intBits_le_64 h1 h2)
 ·exact .of_right (intBits_le_64 h1 h2)
theorem ba:OpR X (binaryOp .Add) (rI0 fun i j=>.int (i+j)):=wb fun _ _ _ _ _ _ _ q=>add_int q
theorem dD:OpR X (binaryOp .Sub) (rI0 fun i j=>.int (i - j)):=wb fun _ _ _ _ _ _ _ q=>sub_int q
theorem fB:OpR X (binaryOp .Mult) (rI CMul fun i j=>.int (i*j)):=opI fun _ _ _ _ _ _ _ hc q=>mul_int q hc.ok
theorem fQ:OpR X (binaryOp .FloorDiv) (rI CDiv fun i j=>.int (i / j)):=opI fun i j _ _ _ _ _ hc q=>by
 have h1:(0:Int)<j:=hc.1
 have h2:j<1073741824:=hc.2
 exact floordiv_int (by omega) (by rw[Int.fdiv_eq_ediv_of_nonneg i (by omega)]; exact q) (.inl (PyProof.noPylong_small (by omega)))
theorem bt:OpR X (binaryOp .Mod) (rI (fun _ j=>0<j) fun i j=>.int (i % j)):=opI fun i j _ _ _ _ _ hc q=>by
 have h1:(0:Int)<j:=hc
 exact mod_int' (by omega) (by rw[Int.fmod_eq_emod_of_nonneg i (by omega)]; exact q)
theorem tY:OpR X (binaryOp .Pow) (rI CPow fun i j=>.int (i ^ j.toNat)):=opI fun _ _ _ _ _ _ _ hc q=>pow_int_small hc.1 hc.2.1 hc.2.2 q
theorem unI {f:Value->Sem Value}{g:Int->Int}
  (rule:∀ (i:Int) (t:Tok) (s:Shared) (Q:Value->Shared->Prop) (E:Value->Shared->Prop),Q (.int (g i) s.toks) { s with toks:=s.toks+1 }->wpAny (model X.prog X.w) X.A (f (.int i t)) Q E s) :
  UnR X f (rU fun i=>.int (g i)):=by
 intro pins s σ H x v Q I rx h
 obtain⟨i,rfl,q⟩:=h
 obtain⟨t,rfl⟩:=rx
 exact rule i t s _ _ ⟨.int (g i),H,I.tok _,⟨_,U⟩,q⟩
theorem tm:UnR X (unaryOp .USub) (rU fun i=>.int (-i)):=unI fun _ _ _ _ _ q=>neg_int q
end
def vf:V->V->Bool
 | .non,.non=>true | .non,.int _=>true | .int _,.non=>true | .non,.bl _=>true | .bl _,.non=>true | .non,.str _=>true | .str _,.non=>true
 | .int _,.int _=>true | .bl _,.bl _=>true | .str _,.str _=>true | .byt _,.byt _=>true
 | .int _,.str _=>true | .str _,.int _=>true | .bl _,.str _=>true | .str _,.bl _=>true
 | _,_=>false
inductive RE_ (x y:V) (H:Hp) (Q:VK):Prop
 | mk (h:vf x y=true) (q:Q (.bl (decide (x=y))) H):RE_ x y H Q
inductive RN_ (x y:V) (H:Hp) (Q:VK):Prop
 | mk (h:vf x y=true) (q:Q (.bl (!decide (x=y))) H):RN_ x y H Q
def rEq:R2:=fun x y H Q=>RE_ x y H Q
def rNe:R2:=fun x y H Q=>RN_ x y H Q
theorem mJ {i j:Int}:decide (V.int i=V.int j)=(i == j):=by
 rw[Bool.eq_iff_iff]
 simp
theorem qj {i j:Bool}:decide (V.bl i=V.bl j)=(i == j):=by
 rw[Bool.eq_iff_iff]
 simp
theorem mI {i j:Str}:decide (V.str i=V.str j)=(i == j):=by
 rw[Bool.eq_iff_iff]
 simp
theorem mK {i j:Array UInt8}:decide (V.byt i=V.byt j)=(i.toList == j.toList):=by
 rw[Bool.eq_iff_iff]
 cases i
 cases j
 simp
section
variable {X:Cx}{a b c:Expr}{ta tb tc:TE}{pos:Pos}
theorem aW {Q:VK}{k k':Bool} (I:Inv X pins σ H s) (q:Q (.bl k) H) (e:k=k'):EP X pins σ Q (.bool k') s:=by
 subst e
 exact⟨.bl k,H,I,U,q⟩
theorem bp:OpR X (compareOp .Eq) rEq:=by
 intro pins s σ H x y v u Q I rx ry h
 obtain⟨hs,q⟩:=h
 cases x with
 | non=>
  cases rx
  cases y with
  | non=>cases ry; exact PySem.EqNone.eq_none_none (aW I q (by simp))
  | bl j=>cases ry; exact PySem.EqNone.eq_none_bool (aW I q (by simp))
  | int j=>obtain⟨t',rfl⟩:=ry; exact PySem.EqNone.eq_none_int (aW I q (by simp))
  | str j=>obtain⟨t',rfl⟩:=ry; exact PySem.EqNone.eq_none_str (aW I q (by simp))
  | _=>exact absurd (show false=true from hs) Bool.false_ne_true
 | bl i=>
  cases rx
  cases y with
  | non=>cases ry; exact PySem.EqNone.eq_bool_none (aW I q (by simp))
  | bl j=>cases ry; exact eq_bool (aW I q qj)
  | str j=>obtain⟨t',rfl⟩:=ry; exact PySem.EqMixed.eq_bool_str (aW I q (by simp))
  | _=>exact absurd (show false=true from hs) Bool.false_ne_true
 | int i=>
  obtain⟨t,rfl⟩:=rx
  cases y with
  | non=>cases ry; exact PySem.EqNone.eq_int_none (aW I q (by simp))
  | int j=>obtain⟨t',rfl⟩:=ry; exact eq_int (aW I q mJ)
  | str j=>obtain⟨t',rfl⟩:=ry; exact PySem.EqMixed.eq_int_str (aW I q (by simp))
  | _=>exact absurd (show false=true from hs) Bool.false_ne_true
 | str i=>
  obtain⟨t,rfl⟩:=rx
  cases y with
  | non=>cases ry; exact PySem.EqNone.eq_str_none (aW I q (by simp))
  | bl j=>cases ry; exact PySem.EqMixed.eq_str_bool (aW I q (by simp))
  | int j=>obtain⟨t',rfl⟩:=ry; exact PySem.EqMixed.eq_str_int (aW I q (by simp))
  | str j=>obtain⟨t',rfl⟩:=ry; exact eq_str (aW I q mI)
  | _=>exact absurd (show false=true from hs) Bool.false_ne_true
 | byt i=>
  obtain⟨t,rfl⟩:=rx
  cases y with
  | byt j=>obtain⟨t',rfl⟩:=ry; exact PySem.W.eq_bytes (aW I q mK)
  | _=>exact absurd (show false=true from hs) Bool.false_ne_true
 | _=>cases y <;> exact absurd (show false=true from hs) Bool.false_ne_true
theorem ig:OpR X (compareOp .NotEq) rNe:=by
 intro pins s σ H x y v u Q I rx ry h
 obtain⟨hs,q⟩:=h
 cases x with
 | non=>
  cases rx
  cases y with
  | non=>cases ry; exact PySem.EqNone.ne_none_none (aW I q (by simp))
  | bl j=>cases ry; exact PySem.EqNone.ne_none_bool (aW I q (by simp))
  | int j=>obtain⟨t',rfl⟩:=ry; exact PySem.EqNone.ne_none_int (aW I q (by simp))
  | str j=>obtain⟨t',rfl⟩:=ry; exact PySem.EqNone.ne_none_str (aW I q (by simp))
  | _=>exact absurd (show false=true from hs) Bool.false_ne_true
 | bl i=>
  cases rx
  cases y with
  | non=>cases ry; exact PySem.EqNone.ne_bool_none (aW I q (by simp))
  | bl j=>cases ry; exact ne_bool (aW I q (congrArg not qj))
  | str j=>obtain⟨t',rfl⟩:=ry; exact PySem.EqMixed.ne_bool_str (aW I q (by simp))
  | _=>exact absurd (show false=true from hs) Bool.false_ne_true
 | int i=>
  obtain⟨t,rfl⟩:=rx
  cases y with
  | non=>cases ry; exact PySem.EqNone.ne_int_none (aW I q (by simp))
  | int j=>obtain⟨t',rfl⟩:=ry; exact ne_int (aW I q (congrArg not mJ))
  | str j=>obtain⟨t',rfl⟩:=ry; exact PySem.EqMixed.ne_int_str (aW I q (by simp))
  | _=>exact absurd (show false=true from hs) Bool.false_ne_true
 | str i=>
  obtain⟨t,rfl⟩:=rx
  cases y with
  | non=>cases ry; exact PySem.EqNone.ne_str_none (aW I q (by simp))
  | bl j=>cases ry; exact PySem.EqMixed.ne_str_bool (aW I q (by simp))
  | int j=>obtain⟨t',rfl⟩:=ry; exact PySem.EqMixed.ne_str_int (aW I q (by simp))
  | str j=>obtain⟨t',rfl⟩:=ry; exact ne_str (aW I q (congrArg not mI))
  | _=>exact absurd (show false=true from hs) Bool.false_ne_true
 | byt i=>
  obtain⟨t,rfl⟩:=rx
  cases y with
  | byt j=>obtain⟨t',rfl⟩:=ry; exact PySem.W.ne_bytes (aW I q (congrArg not mK))
  | _=>exact absurd (show false=true from hs) Bool.false_ne_true
 | _=>cases y <;> exact absurd (show false=true from hs) Bool.false_ne_true
theorem cG:OpR X (compareOp .Lt) (rI0 fun i j=>.bl (decide (i<j))):=qS fun _ _ _ _ _ _ _ q=>lt_int q
theorem sA:OpR X (compareOp .LtE) (rI0 fun i j=>.bl (decide (i<=j))):=qS fun _ _ _ _ _ _ _ q=>le_int q
theorem fO:OpR X (compareOp .Gt) (rI0 fun i j=>.bl (decide (j<i))):=qS fun _ _ _ _ _ _ _ q=>gt_int q
theorem ii:OpR X (compareOp .GtE) (rI0 fun i j=>.bl (decide (j<=i))):=qS fun _ _ _ _ _ _ _ q=>ge_int q
theorem cm : OpR X (compareOp .Is) (fun x y H Q=>y=.non/\Q (.bl (decide (x=.non))) H) := by
  intro pins s σ H x y v u Q I rx ry h
  obtain⟨rfl, q⟩ := h
  cases ry
  refine is_none_gen (aW I q ?_)
  cases x <;> first
    | (cases rx; rfl)
    | (obtain ⟨t, rfl⟩ := rx; rfl)
theorem cZ : OpR X (compareOp .IsNot) (fun x y H Q=>y=.non/\Q (.bl (!decide (x=.non))) H) := by
  intro pins s σ H x y v u Q I rx ry h
  obtain⟨rfl, q⟩ := h
  cases ry
  refine isnot_none_gen (aW I q ?_)
  cases x <;> first
    | (cases rx; rfl)
    | (obtain ⟨t, rfl⟩ := rx; rfl)
theorem am (b:Expr) {op:CmpOp} (h:op≠.In:=by decide) (h2:op≠.NotIn:=by decide):behindInMarks op b=false:=by
 have e1:(op == CmpOp.In)=false:=by cases op <;> first | rfl | exact absurd rfl h
 have e2:(op == CmpOp.NotIn)=false:=by cases op <;> first | rfl | exact absurd rfl h2
 cases b <;> simp[behindInMarks,e1,e2]
theorem bC {op:CmpOp}{r:R2} (ho:OpR X (compareOp op) r) (ha:PE X a ta) (hb:PE X b tb) (hm:behindInMarks op b=false):PE X (.Compare a [op] [b] pos) (tOp r ta tb):=by
 intro pins s σ H Q I h
 exact wpAny_Compare1 (uZ ha hb I h fun v u s2 x y H2 I2 rx ry q=>ho pins s2 σ H2 x y v u Q I2 rx ry q) hm
def tTest (t:TE):TT:=fun σ H Q=>t σ H (TB_ Q)
theorem ak {op:CmpOp}{r:R2} (ho:OpR X (compareOp op) r) (ha:PE X a ta) (hb:PE X b tb) (hm:behindInMarks op b=false):PT X (.Compare a [op] [b] pos) (tTest (tOp r ta tb)):=by
 intro pins s σ H Q I h
 refine wpAny_isTrue_Compare1 (thn (ha pins s σ H _ I h) fun v s1 ⟨x,H1,I1,r1,q1⟩=>thn (hb pins s1 σ H1 _ I1 q1) fun u s2 ⟨y,H2,I2,r2,q2⟩=>
  thn (ho pins s2 σ H2 x y v u _ I2 r1 r2 q2) fun c s3 ⟨z,H3,I3,r3,k,e,q3⟩=>?_) hm
 subst e
 cases r3
 exact wpAny_truthy_bool ⟨H3,I3,q3⟩
theorem jN:(sizeLine:Nat)<2 ^ 63:=by rw[sizeLine_eq]; decide
theorem ef {x:V} (r:Vals [x] us):∃ u,us=[u]/\RelV x u:=by
 cases r with
 | cons r1 r2=>cases r2; exact⟨_,U,r1⟩
theorem j5 {x y:V} (r:Vals [x,y] us):∃ u w',us=[u,w']/\RelV x u/\RelV y w':=by
 cases r with
 | cons r1 r2=>
  cases r2 with
  | cons r3 r4=>cases r4; exact⟨_,_,U,r1,r3⟩
theorem qp:cR X (.builtin "abs") (fun xs H Q=>∃ i,xs=[.int i]/\Q (.int (if i<0 then -i else i)) H):=by
 intro pins s σ H xs us Q I r h
 obtain⟨i,rfl,q⟩:=h
 obtain⟨u,rfl,t,rfl⟩:=ef r
 exact call_abs_int fun u tk=>⟨.int (if i<0 then -i else i),H,I.tok _,⟨_,U⟩,q⟩
theorem jq (hc:X.calm=true):cR X (.builtin "max") (fun xs H Q=>∃ i j,xs=[.int i,.int j]/\Q (.int (if j > i then j else i)) H):=by
 intro pins s σ H xs us Q I r h
 obtain⟨i,j,rfl,q⟩:=h
 obtain⟨u,w',rfl,⟨t,rfl⟩,⟨t',rfl⟩⟩:=j5 r
 refine max_two_ints (I.ok.hd hc) fun h' tk k=>⟨_,H,I.kept k,?_,q⟩
 by_cases hj:j > i
 ·rw[if_pos hj,if_pos hj]; exact⟨_,U⟩
 ·rw[if_neg hj,if_neg hj]; exact⟨_,U⟩
theorem nT (hc:X.calm=true):cR X (.builtin "min") (fun xs H Q=>∃ i j,xs=[.int i,.int j]/\Q (.int (if j<i then j else i)) H):=by
 intro pins s σ H xs us Q I r h
 obtain⟨i,j,rfl,q⟩:=h
 obtain⟨u,w',rfl,⟨t,rfl⟩,⟨t',rfl⟩⟩:=j5 r
 refine min_two_ints (I.ok.hd hc) fun h' tk k=>⟨_,H,I.kept k,?_,q⟩
 by_cases hj:j<i
 ·rw[if_pos hj,if_pos hj]; exact⟨_,U⟩
 ·rw[if_neg hj,if_neg hj]; exact⟨_,U⟩
theorem nU:cR X (.type "int") (fun xs H Q=>(∃ i,xs=[.int i]/\Q (.int i) H)∨∃ k,xs=[.bl k]/\Q (.int (if k then 1 else 0)) H):=by
 intro pins s σ H xs us Q I r h
 rcases h with ⟨i,rfl,q⟩ | ⟨k,rfl,q⟩
 ·obtain⟨u,rfl,t,rfl⟩:=ef r
  exact call_int_int ⟨.int i,H,I,⟨_,U⟩,q⟩
 ·obtain⟨u,rfl,r1⟩:=ef r
  cases r1
  exact call_int_bool ⟨.int (if k then 1 else 0),H,I.tok _,⟨_,U⟩,q⟩
end
structure ObjM (h:Heap) (x dx C:Addr) (mA:Str->Option Value):Prop where
 obj:h.get? x=some (PySem.W.instObj C dx)
 ns:h.Ns1 dx mA
 ne:dx≠x
theorem nA {dx:Addr}{mA:Str->Option Value} (n:h.Ns1 dx mA):∃ od,h.get? dx=some od/\∀ name,PySem.W.lookIn name od=some (mA name):=by
 obtain⟨o,es,ep,ho,hd,hk,_,hm⟩:=n
 refine⟨o,ho,fun name=>?_⟩
 have e:=hm name
 unfold nsFind findBy at e
 rw[<- Array.find?_toList] at e
 unfold PySem.W.lookIn
 rw[hd]
 dsimp only
 split
 ·rename_i y q
  rw[q] at e
  exact congrArg some e
 ·rename_i q
  rw[q] at e
  have a:es.toList.any (·.refKey)=false:=by
   rw[List.any_eq_false]
   intro y hy
   obtain⟨z,t,hkey⟩:=hk y (Array.mem_toList_iff.mp hy)
   simp[DictEntry.refKey,hkey]
  have a':¬ es.toList.any (·.refKey)=true:=by rw[a]; exact Bool.false_ne_true
  rw[if_neg a']
  exact congrArg some e
theorem ObjM.look {x dx C:Addr}{mA:Str->Option Value} (I:ObjM h x dx C mA):∃ od,PySem.W.InstAt h x (PySem.W.instObj C dx) C (some od)/\∀ name,PySem.W.lookIn name od=some (mA name) :=
 let ⟨od,ho,hl⟩:=nA I.ns
 ⟨od,⟨I.obj,U,U,ho⟩,hl⟩
variable{kw:List (Str×Value)}{pl:Sem Bool}
section
variable {prog:Program}{w:World}{A:Around}{E:Value->Shared->Prop}{s:Shared}{K:PySem.W.Frag}{x dx C f:Addr}{mA:Str->Option Value}{name:Str}{v:Value}
theorem rh {expr:Bool} (X:K.In s.heap) (I:ObjM s.heap x dx C mA) (hg:W.plainGet K C name=true) (hh:W.hasDictIn K C=true)
  (ha:W.findIn K (.ref C) name=some none) (hv:mA name=some v) (hv':PySem.W.handedIn v=true) (h:Q v { s with toks:=s.toks+1 }) :
  wpAny (model prog w) A (getAttr (.ref x) name expr) Q E s:=by
 obtain⟨od,J,hl⟩:=I.look
 exact PySem.W.get_value X J (PySem.W.plainGet_of hg).1 (PySem.W.findObj_own hh ha rfl (by rw[hl,hv])) hv' h
theorem pY {Q:Value×List Value->Shared->Prop} (X:K.In s.heap) (I:ObjM s.heap x dx C mA) (hg:W.plainGet K C name=true)
  (hf:W.findIn K (.ref C) name=some (some (.ref f))) (ht:W.isFn K (.ref f)=true) (hv:mA name=none) (h:Q (.ref f,[.ref x]) s) :
  wpAny (model prog w) A (getMethod (.ref x) name pl) Q E s:=by
 obtain⟨od,J,hl⟩:=I.look
 exact PySem.W.method_fn X J (PySem.W.plainGet_of hg).1 (PySem.W.plainGet_of hg).2 hf (beq_iff_eq.mp ht) (by show(PySem.W.lookIn name od).map (·.isSome)=some false; rw[hl,hv]; rfl) h
theorem qH {ns:List Str}{Q:Unit->Shared->Prop} (X:K.In s.heap) (I:ObjM s.heap x dx C mA)
  (hs:W.findIn K (.ref C) "__setattr__" = some (some (.builtin "object.__setattr__"))) (hp:W.plainOver K C=true) (ht:PySem.W.takerIn K C name=some none) (hh:W.hasDictIn K C=true)
  (hw:PySem.Within mA ns) (hsz:ns.length<=sizeLine)
  (h:∀ h',ObjM h' x dx C (fun y=>if y=name then some v else mA y)->Heap.SameBut dx s.heap h'->Q () { s with heap:=h',toks:=s.toks+2 }) :
  wpAny (model prog w) A (setAttr (.ref x) name v) Q E s:=by
 obtain⟨od,J,hl⟩:=I.look
 refine PySem.W.set_plain X J hs (PySem.W.osa_open (s:={ s with toks:=s.toks+1 }) (r:=none) X J hp ht fun b=>?_)
 obtain⟨cd,hc,hd'⟩:=PySem.W.any_some hh
 have hx:s.heap.get? x=some ⟨.ref C,some dx,.plain,#[]⟩:=I.obj
 refine wpAny_bind (wpAny_pure (wpAny_bind (wpAny_bind (wpAny_loadPart hx (wpAny_bind (PySem.W.Looks.here (s:={ s with toks:=s.toks+1 }) (PySem.W.looks_clsIn X hc) ?_))))))
 rw[hd']
 refine wpAny_pure (a:=some dx) (wpAny_bind (wpAny_pure (wpAny_bind ?_)))
 refine wpAny_nsSet1 (s:={ s with toks:=s.toks+1 }) I.ns fun h' hn2 hs2=>?_
 obtain⟨oD,esD,epD,hoD,hdD,hcD⟩:=hn2.count (PySem.Within.cons name v hw)
 refine wpAny_bind (wpAny_lookBehind hoD (by rw[hdD]; exact pastItsLine_dict (Nat.le_trans hcD (by rw[wQ]; omega))) ?_)
 exact wpAny_pure (h _ ⟨(hs2.2 _ (Ne.symm I.ne)).trans I.obj,hn2,I.ne⟩ hs2)
theorem pM {R:Result->Shared->Prop}{vs:List Value} (X:K.In s.heap) (hm:W.makesIn K C=true)
  (hi:W.findIn K (.ref C) "__init__" = some (some (.ref f))) (hf:PySem.W.typeIn K (.ref f)=some (.type "function"))
  (h:codeAny (model prog w) (A.under (.builtin "type.__call__" ⟨.ref C::vs,kw⟩)) (.call (.ref f) ⟨.ref (s.heap.objs.size+1)::vs,kw⟩) (PySem.W.InitBack (s.heap.objs.size+1) R)
   { s with heap:=(s.heap.push PySem.W.emptyDict).push (PySem.W.instObj C s.heap.objs.size) }) :
  codeAny (model prog w) A (.call (.ref C) ⟨vs,kw⟩) R s:=by
 obtain⟨hh,g,d,t,os⟩:=s
 exact PySem.W.make_core (PySem.W.makes_of X hm) (PySem.W.looks_findIn X hi) (fun self=>PySem.W.bind_fn X self hf) (.inl rfl) h
end
def bR (f : Str) (v : V) : List (Str×V)->List (Str×V)
  | []=>[(f, v)]
  | (g, x) :: r => if g = f then (g, v) :: r else (g, x) :: bR f v r
theorem gK (f g : Str) (v : V) : ∀ fs : List (Str×V), (bR f v fs).lookup g=if g=f then some v else fs.lookup g
  | []=>by
    show List.lookup g [(f, v)]=_
    by_cases h : g=f
    · have hb : (g == f)=true := beq_iff_eq.mpr h
      simp only[List.lookup, hb, if_pos h]
    · have hb : (g == f)=false := beq_eq_false_iff_ne.mpr h
      simp only[List.lookup, hb, if_neg h]
  | (k, x) :: r => by
    have ih := gK f g v r
    rw[show bR f v ((k, x)::r)=(if k=f then(k, v)::r else(k, x)::bR f v r) from rfl]
    by_cases hk : k=f
    · rw[if_pos hk]
      by_cases h : g=k
      · have hb : (g == k)=true := beq_iff_eq.mpr h
        simp only[List.lookup, hb, if_pos (h.trans hk)]
      · have hb : (g == k)=false := beq_eq_false_iff_ne.mpr h
        simp only[List.lookup, hb, if_neg (fun e : g=f=>h (e.trans hk.symm))]
    · rw[if_neg hk]
      by_cases h : g=k
      · have hb : (g == k)=true := beq_iff_eq.mpr h
        simp only[List.lookup, hb, if_neg (fun e : g=f=>hk (h.symm.trans e))]
      · have hb : (g == k)=false := beq_eq_false_iff_ne.mpr h
        simp only[List.lookup, hb]
        exact ih
theorem gy (f : Str) (v : V) : ∀ fs : List (Str×V), f ∈ (bR f v fs).map (·.1)/\∀ g, g ∈ fs.map (·.1)->g ∈ (bR f v fs).map (·.1)
  | []=>⟨by simp[bR], fun g h=>by simp at h⟩
  | (k, x) :: r => by
    obtain⟨i1, i2⟩ := gy f v r
    rw[show bR f v ((k, x)::r)=(if k=f then(k, v)::r else(k, x)::bR f v r) from rfl]
    by_cases hk : k=f
    · rw[if_pos hk]
      subst hk
      exact⟨by simp, fun g h=>by simpa using h⟩
    · rw[if_neg hk]
      refine⟨?_, fun g h=>?_⟩
      · rw[wN]
        exact wE _ i1
      · rw[wN] at h ⊢
        rcases wP.mp h with e | e
        · exact wP.mpr (.inl e)
        · exact wE _ (i2 g e)
theorem gM (f : Str) (v : V) : ∀ fs : List (Str×V), (bR f v fs).length<=fs.length+1
  | []=>by simp[bR]
  | (k, x) :: r => by
    have ih := gM f v r
    rw[show bR f v ((k, x)::r)=(if k=f then(k, v)::r else(k, x)::bR f v r) from rfl]
    by_cases hk : k=f
    · rw[if_pos hk, wQ, wQ]; omega
    · rw[if_neg hk, wQ, wQ]; omega
theorem RelO.some_of {v:V}{o:Option Value} (r:RelO (some v) o):∃ u,o=some u/\RelV v u:=by
 cases o with
 | none=>exact(show False from r).elim
 | some u=>exact⟨u,U,r⟩
theorem RelO.none_of {o:Option Value} (r:RelO none o):o=none:=by
 cases o with
 | none=>rfl
 | some u=>exact(show False from r).elim
theorem nH {v:V} (r:RelV v u):PySem.W.handedIn u=true:=by
 cases v with
 | non=>cases (show u=Value.none from r); rfl
 | bl b=>cases (show u=Value.bool b from r); rfl
 | int i=>obtain⟨t,e⟩:=(show ∃ t,u=Value.int i t from r); cases e; rfl
 | str x=>obtain⟨t,e⟩:=(show ∃ t,u=Value.str x t from r); cases e; rfl
 | byt b=>obtain⟨t,e⟩:=(show ∃ t,u=Value.bytes b t from r); cases e; rfl
 | flt b=>obtain⟨t,e⟩:=(show ∃ t,u=Value.float b t from r); cases e; rfl
 | ref a=>cases (show u=Value.ref a from r); rfl
 | ty n=>cases (show u=Value.type n from r); rfl
section
variable {P:Program}{w:World}{H H':Hp}{h h':Heap}{a C dx:Addr}{fs fs':List (Str×V)}
theorem gX (hok:HOk P w H h) (e:H a=some (.ins C dx fs)):∃ mA,ObjM h a dx C mA/\(∀ f,RelO (fs.lookup f) (mA f))/\PySem.Within mA (fs.map (·.1))/\fs.length<=1000/\H dx=some (.own a):=by
 obtain⟨d,z,ne,ob,mA,n,r,q⟩:=(show ObjOk P w H h a (.ins C dx fs) from hok a _ e)
 exact⟨mA,⟨ob,n,ne⟩,r,q,z,d⟩
end
structure Cls (K:PySem.W.Frag) (C:Addr):Prop where
 pg:W.plainGet K C Str.empty=true
 hd:W.hasDictIn K C=true
 po:W.plainOver K C=true
 sa:W.findIn K (.ref C) "__setattr__" = some (some (.builtin "object.__setattr__"))
theorem Cls.get {C:Addr} (c:Cls K C) (f:Str):W.plainGet K C f=true:=c.pg
def NoAttr (K:PySem.W.Frag) (C:Addr) (f:Str):Prop:=W.findIn K (.ref C) f=some none
theorem NoAttr.taker {C:Addr}{f:Str} (n:NoAttr K C f):PySem.W.takerIn K C f=some none:=by
 unfold PySem.W.takerIn
 rw[show W.findIn K (.ref C) f=some none from n]
 rfl
structure Con (K:PySem.W.Frag) (C:Addr) (f:Str) (v:V) (u:Value):Prop where
 at_:W.findIn K (.ref C) f=some (some u)
 rel:RelV v u
 get:PySem.W.specialIn K u "__get__" = some none
 cp:PySem.W.copiedNames.contains f=false
structure Meth (K:PySem.W.Frag) (C:Addr) (m:Str) (f:Addr):Prop where
 at_:W.findIn K (.ref C) m=some (some (.ref f))
 fn:W.isFn K (.ref f)=true
 kp:W.keepIn K (.ref f)=true
section
variable {X:Cx}{pins:List (Addr×Obj)}{σ:St}{H:Hp}{s:Shared}{a C dx:Addr}{fs:List (Str×V)}{f:Str}{v:V}{A:Around}{E:Value->Shared->Prop}
theorem iH {b:Bool} (I:Inv X pins σ H s) (e:H a=some (.ins C dx fs)) (c:Cls X.K C) (n:NoAttr X.K C f) (l:fs.lookup f=some v)
  (h:∀ u s',Inv X pins σ H s'->RelV v u->Q u s'):wpAny (model X.prog X.w) A (getAttr (.ref a) f b) Q E s:=by
 obtain⟨mA,O,r,_,_,_⟩:=gX I.hok e
 obtain⟨u,hu,ru⟩:=RelO.some_of (v:=v) (o:=mA f) (by rw[<- l]; exact r f)
 exact rh I.kIn O (c.get f) c.hd n hu (nH ru) (h u _ (I.tok _) ru)
theorem iG {m:Str}{g:Addr}{Q:Value×List Value->Shared->Prop} (I:Inv X pins σ H s) (e:H a=some (.ins C dx fs)) (c:Cls X.K C) (k:Meth X.K C m g) (l:fs.lookup m=none)
  (h:Q (.ref g,[.ref a]) s):wpAny (model X.prog X.w) A (getMethod (.ref a) m pl) Q E s:=by
 obtain⟨mA,O,r,_,_,_⟩:=gX I.hok e
 have hn:mA m=none:=RelO.none_of (by rw[<- l]; exact r m)
 exact pY I.kIn O (c.get m) k.at_ k.fn hn h
theorem hJ {y:V}{Q:Unit->Shared->Prop} (I:Inv X pins σ H s) (e:H a=some (.ins C dx fs)) (c:Cls X.K C) (n:NoAttr X.K C f) (hl:fs.length<1000) (ry:RelV y u)
  (h:∀ s',Inv X pins σ (upd H a (.ins C dx (bR f y fs))) s'->Q () s'):wpAny (model X.prog X.w) A (setAttr (.ref a) f u) Q E s:=by
 obtain⟨mA,O,r,wi,_,ho⟩:=gX I.hok e
 have hz:(fs.map (·.1)).length<=sizeLine:=by rw[wF,sizeLine_eq]; omega
 refine qH I.kIn O c.sa c.po n.taker c.hd wi hz fun h' O' sb=>h _ ?_
 have hd:∃ o,h'.get? dx=some o:=let ⟨o,_,_,e',_⟩:=O'.ns; ⟨o,e'⟩
 refine I.write (x:=a) (e:=dx) (by rw[e]; exact True.intro) (.inr ho) (fun b q hb z=>(sb.2 b hb).trans z) hd ?_
 refine⟨by rw[aA O.ne]; exact ho,?_,O.ne,O'.obj,_,O'.ns,fun g=>?_,fun g hg=>?_⟩
 ·have:=gM f y fs; omega
 ·show RelO ((bR f y fs).lookup g) (if g=f then some u else mA g)
  rw[gK]
  by_cases q:g=f
  ·rw[if_pos q,if_pos q]; exact ry
  ·rw[if_neg q,if_neg q]; exact r g
 ·by_cases q:g=f
  ·rw[q]; exact(gy f y fs).1
  ·refine(gy f y fs).2 g (wi g fun z=>hg ?_)
   show(if g=f then some u else mA g)=none
   rw[if_neg q]; exact z
theorem Inv.made (I:Inv X pins σ H s):Inv X pins σ (upd (upd H s.heap.objs.size (.own (s.heap.objs.size+1))) (s.heap.objs.size+1) (.ins C s.heap.objs.size []))
  { s with heap:=(s.heap.push PySem.W.emptyDict).push (PySem.W.instObj C s.heap.objs.size) }:=by
 have e1:(s.heap.push PySem.W.emptyDict).get? s.heap.objs.size=some PySem.W.emptyDict:=Heap.get?_push_size s.heap rfl
 have e2:((s.heap.push PySem.W.emptyDict).push (PySem.W.instObj C s.heap.objs.size)).get? (s.heap.objs.size+1)=some (PySem.W.instObj C s.heap.objs.size):=by
  have:=Heap.get?_push_size (s.heap.push PySem.W.emptyDict) (o:=PySem.W.instObj C s.heap.objs.size) rfl
  rwa [Heap.size_push] at this
 have e3:(s.heap.push PySem.W.emptyDict).Ns s.heap.objs.size (fun _=>none):=⟨PySem.W.emptyDict,#[],_,e1,U,(fun e he=>absurd he (by simp)),fun _=>rfl⟩
 have I1:=I.laid (a:=s.heap.objs.size) (o:=.own (s.heap.objs.size+1)) (h':=s.heap.push PySem.W.emptyDict) (t':=s.toks) (fun b u q=>Heap.get?_push_of_some _ q) (Nat.le_refl _) ⟨_,e1⟩
 refine I1.laid (a:=s.heap.objs.size+1) (o:=.ins C s.heap.objs.size []) (t':=s.toks) (fun b u q=>Heap.get?_push_of_some _ q) (Nat.le_of_eq (Heap.size_push _ _)) ?_
 have ne:s.heap.objs.size≠s.heap.objs.size+1:=Nat.ne_of_lt (Nat.lt_succ_self _)
 refine⟨by rw[aA ne,bz],Nat.zero_le _,ne,e2,fun _=>none,(Heap.Ns1.of_empty e3).at fun o q=>Heap.get?_push_of_some _ q,fun _=>True.intro,fun y hy=>absurd rfl hy⟩
theorem rG {prog:Program}{env:Env}{e:Expr}{f:Str}{s:Shared} (hb:attributeBase e f env (eval e env)=eval e env)
  (h:wpAny (model prog w) A (eval e env) (fun o s₁=>wpAny (model prog w) A (getAttr o f true) Q E s₁) E s):wpAny (model prog w) A (eval (.Attribute e f pos) env) Q E s :=
 Attribute_any_ h (by rw[arm_eval_Attribute,hb])
end
inductive TF_ (K:PySem.W.Frag) (f:Str) (Q:VK) (x:V) (H:Hp):Prop
 | mk (a C dx:Addr) (fs:List (Str×V)) (v:V) (h1:x=.ref a) (h2:H a=some (.ins C dx fs)) (h3:Cls K C) (h4:NoAttr K C f) (h5:fs.lookup f=some v) (q:Q v H):TF_ K f Q x H
def tFld (K:PySem.W.Frag) (ta:TE) (f:Str):TE:=fun σ H Q=>ta σ H (TF_ K f Q)
def sFld (K:PySem.W.Frag) (ta tv:TE) (f:Str):TS:=fun D σ H=>tv σ H fun y H1=>ta σ H1 fun x H2=>∃ a C dx fs,x=.ref a/\H2 a=some (.ins C dx fs)/\Cls K C/\NoAttr K C f/\fs.length<1000 /\
 D.nx σ (upd H2 a (.ins C dx (bR f y fs)))
def wC (X:Cx) (op:Operator) (rd:V->V->Hp->VK->Prop):Prop :=
 ∀ (pins:List (Addr×Obj)) (s:Shared) (σ:St) (H:Hp) (x y:V) (u v:Value) (Q:VK),Inv X pins σ H s->RelV x u->RelV y v->rd x y H Q->wpAny (model X.prog X.w) X.A (inplaceOp op u v) (EP X pins σ Q) X.xe s
def qI (K:PySem.W.Frag) (ta tv:TE) (rd:V->V->Hp->VK->Prop) (f:Str):TS:=fun D σ H=>ta σ H fun x H1=>∃ a C dx fs v,x=.ref a/\H1 a=some (.ins C dx fs)/\Cls K C/\NoAttr K C f/\fs.lookup f=some v /\
 tv σ H1 fun y H2=>rd v y H2 fun z H3=>∃ dx' fs',H3 a=some (.ins C dx' fs')/\fs'.length<1000/\D.nx σ (upd H3 a (.ins C dx' (bR f z fs')))
section
variable {X:Cx}{o e value:Expr}{f:Str}{pos pos' tpos:Pos}{ta tv:TE}
theorem aw (he:PE X e ta) (hb:attributeBase e f X.env (eval e X.env)=eval e X.env):PE X (.Attribute e f pos) (tFld X.K ta f):=by
 intro pins s σ H Q I h
 refine rG hb (thn (he pins s σ H _ I h) fun u s1 ⟨x,H1,I1,rx,a,C,dx,fs,v,ex,ea,c,n,l,q⟩=>?_)
 subst ex
 obtain rfl:u=Value.ref a:=rx
 exact iH I1 ea c n l fun u' s2 I2 ru=>⟨v,H1,I2,ru,q⟩
theorem bH (ha:PE X o ta) (hv:PE X value tv) (hs:swapsWith value (some (.Attribute o f pos')) pos.line X.env=pure false):PS X (.Assign [.Attribute o f pos'] value pos) (sFld X.K ta tv f):=by
 intro pins s σ H D I h
 refine plainObj_wpAny_Assign_Attribute (thn (hv pins s σ H _ I h) fun u s1 ⟨y,H1,I1,ry,q⟩=>thn (ha pins s1 σ H1 _ I1 q) fun ov s2 ⟨x,H2,I2,rx,a,C,dx,fs,ex,ea,c,n,l,q2⟩=>?_) hs
 subst ex
 obtain rfl:ov=Value.ref a:=rx
 exact hJ I2 ea c n l ry fun s3 I3=>⟨σ,_,I3,q2⟩
theorem jc {op:Operator}{rd:V->V->Hp->VK->Prop} (ha:PE X o ta) (hv:PE X value tv) (hop:wC X op rd):PS X (.AugAssign (.Attribute o f tpos) op value pos) (qI X.K ta tv rd f):=by
 intro pins s σ H D I h
 refine wpAny_AugAssign_AttributeAny (thn (ha pins s σ H _ I h) fun ov s1 ⟨x,H1,I1,rx,a,C,dx,fs,v,ex,ea,c,n,l,q⟩=>?_)
 subst ex
 obtain rfl:ov=Value.ref a:=rx
 refine iH I1 ea c n l fun u s2 I2 ru=>thn (hv pins s2 σ H1 _ I2 q) fun w3 s3 ⟨y,H2,I3,ry,q3⟩=>thn (hop pins s3 σ H2 v y u w3 _ I3 ru ry q3) fun w4 s4 ⟨z,H3,I4,rz,dx',fs',ea',l',q4⟩=>?_
 exact hJ I4 ea' c n l' rz fun s5 I5=>⟨σ,_,I5,q4⟩
def rAdd:V->V->Hp->VK->Prop:=fun x y H Q=>∃ i j,x=.int i/\y=.int j/\Q (.int (i+j)) H
theorem pU:wC X .Add rAdd:=by
 rintro pins s σ H x y u v Q I rx ry ⟨i,j,rfl,rfl,q⟩
 obtain⟨t,rfl⟩:=(show ∃ t,u=Value.int i t from rx)
 obtain⟨t',rfl⟩:=(show ∃ t',v=Value.int j t' from ry)
 exact PyProof.Rows.iadd_int ⟨.int (i+j),H,I.tok _,⟨_,U⟩,q⟩
end
section
variable {X:Cx}{pins:List (Addr×Obj)}{σ:St}{H:Hp}{s:Shared}{A:Around}{E:Value->Shared->Prop}{Q:Value->Shared->Prop}{c:Value}{b:Bool}
inductive TyOf (K:PySem.W.Frag) (H:Hp):V->Value->Prop where
 | non:TyOf K H .non (.type "NoneType")
 | bl (x:Bool):TyOf K H (.bl x) (.type "bool")
 | int (i:Int):TyOf K H (.int i) (.type "int")
 | str (x:Str):TyOf K H (.str x) (.type "str")
 | flt (x:UInt64):TyOf K H (.flt x) (.type "float")
 | lst {a:Addr}{xs:List V} (e:H a=some (.lst xs)):TyOf K H (.ref a) (.type "list")
 | frz {a:Addr}{o:Obj}{xs:List V} (e:H a=some (.frz o (.lst xs))):TyOf K H (.ref a) (.type "list")
 | tup {a:Addr}{xs:List V} (e:H a=some (.tup xs)):TyOf K H (.ref a) (.type "tuple")
 | dK {a:Addr}{kvs:List (Key×V)} (e:H a=some (.dK kvs)):TyOf K H (.ref a) (.type "dict")
 | dT {a:Addr}{kvs:List (List Key×V)} (e:H a=some (.dT kvs)):TyOf K H (.ref a) (.type "dict")
 | ins {a C dx:Addr}{fs:List (Str×V)} (e:H a=some (.ins C dx fs)) (cl:Cls K C) (ha:W.findIn K (.ref C) "__class__" = some (some (.builtin "object.__class__")))
   (hn:PySem.W.specialIn K (.builtin "object.__class__") "__get__" = some (some (.builtin "getset_descriptor.__get__"))) (htk:PySem.W.takesIn K (.builtin "object.__class__")=some true)
   (hm:PySem.W.mroIn K C (.type "object")=some true):TyOf K H (.ref a) (.ref C)
theorem nE {x:V}{u t:Value} (I:Inv X pins σ H s) (rx:RelV x u) (ty:TyOf X.K H x t) (e:PySem.W.kitOne X.K t c=some b) (h:∀ tk,Q (.bool b) { s with toks:=tk }) :
  wpAny (model X.prog X.w) A (call (.builtin "isinstance") [u,c]) Q E s:=by
 cases ty with
 | non=>cases (show u=Value.none from rx); exact PySem.W.kia_one PySem.W.kitx_none I.kIn True.intro e (fun z=>nomatch z) h
 | bl y=>cases (show u=Value.bool y from rx); exact PySem.W.kia_one PySem.W.kitx_bool I.kIn True.intro e (fun z=>nomatch z) h
 | int i=>obtain⟨t,q⟩:=(show ∃ t,u=Value.int i t from rx); cases q; exact PySem.W.kia_one PySem.W.kitx_int I.kIn True.intro e (fun z=>nomatch z) h
 | str y=>obtain⟨t,q⟩:=(show ∃ t,u=Value.str y t from rx); cases q; exact PySem.W.kia_one PySem.W.kitx_str I.kIn True.intro e (fun z=>nomatch z) h
 | flt y=>obtain⟨t,q⟩:=(show ∃ t,u=Value.float y t from rx); cases q; exact PySem.W.kia_one PySem.W.kitx_float I.kIn True.intro e (fun z=>nomatch z) h
 | @lst a xs ea=>
  cases (show u=Value.ref a from rx)
  obtain⟨_,_,n,_,h1⟩:=(show ObjOk X.prog X.w H s.heap a (.lst xs) from I.hok a _ ea)
  exact PySem.W.kia_one PySem.W.kitx_list I.kIn ⟨_,h1,U⟩ e (fun z=>nomatch z) h
 | @frz a ob xs ea=>
  cases (show u=Value.ref a from rx)
  obtain⟨_,_,_,n,_,h1⟩:=(show ObjOk X.prog X.w H s.heap a (.frz ob (.lst xs)) from I.hok a _ ea)
  exact PySem.W.kia_one PySem.W.kitx_list I.kIn ⟨_,h1,U⟩ e (fun z=>nomatch z) h
 | @tup a xs ea=>
  cases (show u=Value.ref a from rx)
  obtain⟨_,_,_,p⟩:=(show ObjOk X.prog X.w H s.heap a (.tup xs) from I.hok a _ ea)
  obtain⟨o,h1,h2,_⟩:=p
  exact PySem.W.kia_one PySem.W.kitx_tuple I.kIn ⟨o,h1,h2⟩ e (fun z=>nomatch z) h
 | @dK a kvs ea=>
  cases (show u=Value.ref a from rx)
  obtain⟨_,_,vs,_,p⟩:=(show ObjOk X.prog X.w H s.heap a (.dK kvs) from I.hok a _ ea)
  obtain⟨o,es,ep,h1,h2,_⟩:=p
  exact PySem.W.kia_one PySem.W.kitx_dict I.kIn ⟨o,h1,h2.1⟩ e (fun z=>nomatch z) h
 | @dT a kvs ea=>
  cases (show u=Value.ref a from rx)
  obtain⟨_,_,xs,_,o,es,ep,h1,h2,_⟩:=(show ObjOk X.prog X.w H s.heap a (.dT kvs) from I.hok a _ ea)
  exact PySem.W.kia_one PySem.W.kitx_dict I.kIn ⟨o,h1,h2.1⟩ e (fun z=>nomatch z) h
 | @ins a C dx fs ea cl ha hn htk hm=>
  cases (show u=Value.ref a from rx)
  obtain⟨mA,O,_⟩:=gX I.hok ea
  obtain⟨od,J,_⟩:=O.look
  exact PySem.W.kia_one (PySem.W.kitx_own (cl.get _) cl.hd ha hn htk hm) I.kIn J e (fun z=>nomatch z) h
end
structure Room (k:Nat) (A:Around):Prop where
 hd:A.handled=none
 dp:A.depth+3*k+5<recursionLimit
 un:A.units+16*k+200<cLine
 gd:A.guards=some []
theorem Room.mono {j k:Nat} (r:Room k A) (h:j<=k):Room j A:=⟨r.hd,by have:=r.dp; omega,by have:=r.un; omega,r.gd⟩
theorem Room.deeper {k:Nat} (r:Room (k+1) A) (env:Env):Room k (A.deeper env) :=
 ⟨r.hd,by have:=r.dp; show A.depth+1+3*k+5<_; omega,by have:=r.un; show A.units+3+16*k+200<_; omega,r.gd⟩
theorem lv {C:Addr}:(A.under (.builtin "type.__call__" ⟨.ref C::us,kw⟩)).depth=A.depth+1:=by
 first | rfl | simp[Around.under,Code.weight,Code.isCreation,Code.isGuard,Code.isCaller,Code.frames,Code.isFrame,guardIds]
theorem lu {C:Addr}:(A.under (.builtin "type.__call__" ⟨.ref C::us,kw⟩)).units=A.units+1:=by
 first | rfl | simp[Around.under,Code.cUnits,Code.frames,Code.isFrame]
theorem kA {C:Addr}:(A.under (.builtin "type.__call__" ⟨.ref C::us,kw⟩)).guards=A.guards:=by
 cases h:A.guards with
 | none=>simp[Around.under,Code.guards,Code.isGuard,guardIds,pushGuards,h]
 | some l=>simp[Around.under,Code.guards,Code.isGuard,guardIds,pushGuards,h]
theorem Room.make {k:Nat} (r:Room (k+1) A) (C:Addr) (us:List Value) (kw:List (Str×Value)):Room k (A.under (.builtin "type.__call__" ⟨.ref C::us,kw⟩)) :=
 ⟨r.hd,by have:=r.dp; rw[lv]; omega,by have:=r.un; rw[lu]; omega,by rw[kA]; exact r.gd⟩
theorem Room.depth {k:Nat} (r:Room k A):A.depth<recursionLimit:=by have:=r.dp; omega
theorem Room.units {k:Nat} (r:Room k A):A.units+64<cLine:=by have:=r.un; omega
def fL:TA:=fun _ H Q=>Q [] H
def cJ (ta:TE) (tr:TA):TA:=fun σ H Q=>ta σ H fun x H1=>tr σ H1 fun xs H2=>Q (x::xs) H2
section
variable {X:Cx}{e:Expr}{es:List Expr}{te:TE}{t:TA}{pos:Pos}
theorem af:PA X [] fL:=fun _ _ _ _ H Q I h=>Calls.spliced_nil ⟨[],H,I,.nil,h⟩
theorem aa (ha:PE X e te) (hr:PA X es t) (hs:starEach (e::es) X.env=(false,eval e X.env)::starEach es X.env:=by rfl):PA X (e::es) (cJ te t):=by
 intro pos pins s σ H Q I h
 rw[hs]
 show wpAny _ _ (spliced ((false,eval e X.env)::backTo pos (starEach es X.env))) _ _ s
 refine Calls.spliced_cons (thn (ha pins s σ H _ I h) fun u s1 ⟨x,H1,I1,r1,q1⟩=>?_)
 exact thn (hr pos pins s1 σ H1 _ I1 q1) fun us s2 ⟨xs,H2,I2,r2,q2⟩=>⟨x::xs,H2,I2,.cons r1 r2,q2⟩
def tw (t:TA):TE:=fun σ H Q=>t σ H fun xs H1=>xs.length<=sizeLine/\∀ p,H1 p=none->Q (.ref p) (upd H1 p (.tup xs))
def tLst (t:TA):TE:=fun σ H Q=>t σ H fun xs H1=>xs.length<=sizeLine/\∀ p,H1 p=none->Q (.ref p) (upd H1 p (.lst xs))
theorem aF {x1} (h:PA X es t):PE X (.Tuple es x1 pos) (tw t):=by
 intro pins s σ H Q I hq
 refine wpAny_Tuple_spliced (thn (h pos pins s σ H _ I hq) fun us s1 ⟨xs,H1,I1,r,z,q⟩=>⟨by rw[<- r.length]; exact z,?_⟩)
 have hf:H1 s1.heap.objs.size=none:=I1.hok.fresh (Nat.le_refl _)
 refine⟨.ref s1.heap.objs.size,upd H1 s1.heap.objs.size (.tup xs),I1.laid (t':=s1.toks) (fun b u e=>Heap.get?_push_of_some _ e) (Nat.le_refl _) ?_,U,q _ hf⟩
 exact⟨z,us,r,⟨_,Heap.get?_push_size _ rfl,U,_,U⟩⟩
theorem aN (h:PA X es t):PE X (.List es pos) (tLst t):=by
 intro pins s σ H Q I hq
 refine wpAny_List_spliced (thn (h pos pins s σ H _ I hq) fun us s1 ⟨xs,H1,I1,r,z,q⟩=>⟨by rw[<- r.length]; exact z,?_⟩)
 have hf:H1 s1.heap.objs.size=none:=I1.hok.fresh (Nat.le_refl _)
 refine⟨.ref s1.heap.objs.size,upd H1 s1.heap.objs.size (.lst xs),I1.laid (t':=s1.toks) (fun b u e=>Heap.get?_push_of_some _ e) (Nat.le_refl _) ?_,U,q _ hf⟩
 exact⟨z,us,0,r,Heap.get?_push_size _ rfl⟩
end
abbrev Sp:=List V->Hp->VK->XK->Prop
abbrev CXT:=List Env->Hp->Shared->XK->Value->Shared->Prop
structure Env0 (P:Program) (w:World) (K:PySem.W.Frag) (mg:Str->Option Value) (base:Heap) (A:Around) (outer:List Env) (s:Shared) (H:Hp):Prop where
 frames:A.frames=some outer
 mod:Mod K mg base
 bs:∀ b o,base.get? b=some o->s.heap.get? b=some o/\H b=none
 bsz:base.objs.size<=s.heap.objs.size
 funs:s.heap.FunFrames base outer
 frf:∀ b ∈ frs outer,H b=none
 hok:HOk P w H s.heap
 bare:AllBare s.gens
def CE (outer:List Env) (P:Program) (w:World) (H:Hp) (s:Shared) (Q:VK) (u:Value) (s':Shared):Prop :=
 ∃ v H',s'.os=s.os/\AllBare s'.gens/\Un (frs outer) [] H H' s.heap s'.heap/\HOk P w H' s'.heap/\RelV v u/\Q v H'
def CR (CX:CXT) (outer:List Env) (P:Program) (w:World) (H:Hp) (s:Shared) (Q:VK) (E:XK) (r:Result) (s':Shared):Prop :=
 match r with
 | .ok (.ret u)=>CE outer P w H s Q u s'
 | .ok _=>False
 | .error e=>CX outer H s E e s'
structure FnOk (P:Program) (w:World) (K:PySem.W.Frag) (mg:Str->Option Value) (base:Heap) (CX:CXT) (k:Nat) (f:Addr) (fd:FuncData) (ps:List Str) (sp:Sp):Prop where
 len:∀ vs H Q E,sp vs H Q E->vs.length=ps.length
 run:∀ (A:Around) (outer:List Env) (s:Shared) (H:Hp) (args:Args) (us:List Value) (vs:List V) (Q:VK) (E:XK),Room k A->Env0 P w K mg base A outer s H->BindsTo s fd args (ps.zip us)->Vals vs us->sp vs H Q E ->
  codeAny (model P w) A (.call (.ref f) args) (CR CX outer P w H s Q E) s
variable{mg:Str->Option Value}
theorem Env0.make {base:Heap}{outer:List Env} (e:Env0 P w K mg base A outer s H) (C:Addr) (us:List Value) (kw:List (Str×Value)) :
  Env0 P w K mg base (A.under (.builtin "type.__call__" ⟨.ref C :: us,kw⟩)) outer s H:=⟨by first | exact e.frames | (simpa [Around.under,Code.envs,Code.isFrame,pushEnvs] using e.frames),e.mod,e.bs,e.bsz,e.funs,e.frf,e.hok,e.bare⟩
section
variable {X:Cx}{pins:List (Addr×Obj)}{σ:St}{H:Hp}{s s':Shared}
theorem Inv.env0 (I:Inv X pins σ H s):Env0 X.prog X.w X.K X.mg X.base X.A X.stack s H :=
 ⟨I.ok.frames,I.ok.mod,I.bs,Nat.le_trans I.ok.bsz I.sz,I.stack,I.stkFree,I.hok,I.bare⟩
theorem Inv.after {Q:VK} (I:Inv X pins σ H s) (h:CE X.stack X.prog X.w H s Q u s'):EP X pins σ Q u s':=by
 obtain⟨v,H',os,bare,un,hok,r,q⟩:=h
 obtain⟨hh,g,d,t,os'⟩:=s'
 obtain rfl:os'=s.os:=os
 exact⟨v,H',I.call (h':=hh) (g':=g) (d':=d) (t':=t) (ch:=[]) un hok bare (fun b z=>absurd z (by simp)),r,q⟩
end
def g8 (sp:Sp) (dvs:List V) (E:XK) (t:TA):TE:=fun σ H Q=>t σ H fun vs H1=>sp (vs++dvs) H1 Q E
inductive TM_ (C:Addr) (m:Str) (x:V) (H:Hp) (R:Prop):Prop
 | mk (a dx:Addr) (fs:List (Str×V)) (h1:x=.ref a) (h2:H a=some (.ins C dx fs)) (h3:fs.lookup m=none) (q:R):TM_ C m x H R
def oi (C:Addr) (m:Str) (sp:Sp) (dvs:List V) (E:XK) (ta:TE) (t:TA):TE:=fun σ H Q=>ta σ H fun x H1=>TM_ C m x H1 (t σ H1 fun vs H2=>sp (x::(vs++dvs)) H2 Q E)
def tMake (C:Addr) (sp:Sp) (dvs:List V) (E:XK) (t:TA):TE:=fun σ H Q=>t σ H fun vs H1=>∀ x dx,H1 x=none->H1 dx=none->dx≠x ->
 sp (.ref x::(vs++dvs)) (upd (upd H1 dx (.own x)) x (.ins C dx [])) (fun v H2=>v=.non/\Q (.ref x) H2) E
def Binds (K:PySem.W.Frag) (fd:FuncData) (ps:List Str) (ds:List Value):Prop :=
 ∀ (s:Shared) (us:List Value),K.In s.heap->(us++ds).length=ps.length->BindsTo s fd ⟨us,[]⟩ (ps.zip (us++ds))
theorem Binds.all {fd:FuncData}{ps:List Str} (h:∀ us:List Value,us.length=ps.length->bindArgs fd ⟨us,[]⟩=pure (ps.zip us)):Binds K fd ps []:=fun s us _ hl=>by
 rw[wU] at hl ⊢
 exact .of_eq (h us hl)
def dG (CX:CXT) (X:Cx) (E:XK):Prop:=∀ (pins:List (Addr×Obj)) (σ:St) (H:Hp) (s:Shared) (e:Value) (s':Shared),Inv X pins σ H s->CX X.stack H s E e s'->X.xe e s'
section
variable {X:Cx}{CX:CXT}{k:Nat}{f C:Addr}{fd:FuncData}{ps:List Str}{sp:Sp}{dvs:List V}{ds:List Value}{E:XK}{x m:Str}{p pos apos:Pos}{e o:Expr}{es:List Expr}{ta:TE}{t:TA}
theorem jC {Q:VK}{us:List Value}{vs:List V} (F:FnOk X.prog X.w X.K X.mg X.base CX k f fd ps sp) (hr:Room k X.A) (hb:Binds X.K fd ps ds) (hd:Vals dvs ds) (hx:dG CX X E)
  (I:Inv X pins σ H s) (r:Vals vs us) (h:sp (vs++dvs) H Q E):wpAny (model X.prog X.w) X.A (call (.ref f) us) (EP X pins σ Q) X.xe s:=by
 have r2:Vals (vs++dvs) (us++ds):=r.append hd
 have hl:(us++ds).length=ps.length:=by rw[<- r2.length]; exact F.len _ _ _ _ h
 refine wpAny_call (codeAny_mono (F.run X.A X.stack s H ⟨us,[]⟩ (us++ds) (vs++dvs) Q E hr I.env0 (hb s us I.kIn hl) r2 h) fun r s' hq=>?_)
 cases r with
 | error e=>exact hx pins σ H s e s' I hq
 | ok fl=>
  cases fl with
  | ret u=>exact I.after hq
  | next=>exact False.elim hq
  | brk=>exact False.elim hq
  | cont=>exact False.elim hq
theorem dy (F:FnOk X.prog X.w X.K X.mg X.base CX k f fd ps sp) (hr:Room k X.A) (hg:Gl X x) (hm:X.mg x=some (.ref f)) (hk:W.keepIn X.K (.ref f)=true) (hb:Binds X.K fd ps ds) (hd:Vals dvs ds) (hx:dG CX X E)
  (ha:PA X (e::es) t) (hdb:(x == ("__debug__" : Str))=false:=by decide) (he:starEach (e::es) X.env=(false,eval e X.env)::starEach es X.env:=by rfl) (hpl:(backTo pos (starEach es X.env)).any (·.1)=false:=by rfl) :
  PE X (.Call (.Name x p) (e::es) [] pos) (g8 sp dvs E t):=by
 intro pins s σ H Q I h
 refine wpAny_Call_Name_kw (dA I hg hm ?_ hdb)
 refine PySem.W.callWith_K (h₀:=X.base) I.ok.mod.kin hk (thn (ha pos pins s σ H _ I h) fun us s1 ⟨vs,H1,I1,r,q⟩=>⟨I1.kIn,?_⟩) he hpl
 exact jC F hr hb hd hx I1 r q
theorem ie (F:FnOk X.prog X.w X.K X.mg X.base CX k f fd ps sp) (hr:Room k X.A) (hg:Gl X x) (hm:X.mg x=some (.ref f)) (hk:W.keepIn X.K (.ref f)=true) (hb:Binds X.K fd ps ds) (hd:Vals dvs ds) (hx:dG CX X E)
  (hdb:(x == ("__debug__" : Str))=false:=by decide):PE X (.Call (.Name x p) [] [] pos) (g8 sp dvs E fL):=by
 intro pins s σ H Q I h
 refine wpAny_Call_Name_kw (dA I hg hm ?_ hdb)
 exact PySem.W.callWith_K0 I.kIn hk (jC (us:=[]) F hr hb hd hx I .nil h)
theorem aH {nr:Nat} (he:PE X o ta) (c:Cls X.K C) (hm:Meth X.K C m f) (F:FnOk X.prog X.w X.K X.mg X.base CX k f fd ps sp) (hr:Room nr X.A) (hb:Binds X.K fd ps ds) (hd:Vals dvs ds) (hx:dG CX X E) (ha:PA X (e::es) t)
  (hst:starEach (e::es) X.env=(false,eval e X.env)::starEach es X.env:=by rfl) (hpl:(backTo pos (starEach es X.env)).any (·.1)=false:=by rfl)
  (ht:eval (.Call (.Attribute o m apos) (e::es) [] pos) X.env=(do
   let ov <- eval o X.env
   standAt apos.atName
   let (f,first) <- holding [ov] (getMethod ov m pl)
   callWith pos f first (backTo pos (starEach (e::es) X.env)) (backToKw pos (keywordEach [] X.env))):=by rfl) (hj:k<=nr:=by decide) :
  PE X (.Call (.Attribute o m apos) (e::es) [] pos) (oi C m sp dvs E ta t):=by
 intro pins s σ H Q I h
 refine PySem.W.methodCall_KW (pl:=pl) (thn (he pins s σ H _ I h) fun u s1 ⟨x,H1,I1,rx,a,dx,fs,ex,ea,l,q⟩=>?_) ht
 subst ex
 obtain rfl:u=Value.ref a:=rx
 refine iG I1 ea c hm l ?_
 refine PySem.W.callWith_K (first:=[.ref a]) (h₀:=X.base) I.ok.mod.kin hm.kp (thn (ha pos pins s1 σ H1 _ I1 q) fun us s2 ⟨vs,H2,I2,r,q2⟩=>⟨I2.kIn,?_⟩) hst hpl
 exact jC (us:=.ref a::us) (vs:=.ref a::vs) F (hr.mono hj) hb hd hx I2 (.cons rfl r) q2
theorem aO {nr:Nat} (he:PE X o ta) (c:Cls X.K C) (hm:Meth X.K C m f) (F:FnOk X.prog X.w X.K X.mg X.base CX k f fd ps sp) (hr:Room nr X.A) (hb:Binds X.K fd ps ds) (hd:Vals dvs ds) (hx:dG CX X E)
  (ht:eval (.Call (.Attribute o m apos) [] [] pos) X.env=(do
   let ov <- eval o X.env
   standAt apos.atName
   let (f,first) <- holding [ov] (getMethod ov m pl)
   callWith pos f first (backTo pos (starEach [] X.env)) (backToKw pos (keywordEach [] X.env))):=by rfl) (hj:k<=nr:=by decide) :
  PE X (.Call (.Attribute o m apos) [] [] pos) (oi C m sp dvs E ta fL):=by
 intro pins s σ H Q I h
 refine PySem.W.methodCall_KW (pl:=pl) (thn (he pins s σ H _ I h) fun u s1 ⟨x,H1,I1,rx,a,dx,fs,ex,ea,l,q⟩=>?_) ht
 subst ex
 obtain rfl:u=Value.ref a:=rx
 refine iG I1 ea c hm l ?_
 exact PySem.W.callWith_K0 (first:=[.ref a]) I1.kIn hm.kp (jC (us:=[.ref a]) (vs:=[.ref a]) F (hr.mono hj) hb hd hx I1 (.cons rfl .nil) q)
structure Mk (K:PySem.W.Frag) (C f:Addr):Prop where
 makes:W.makesIn K C=true
 init:W.findIn K (.ref C) "__init__" = some (some (.ref f))
 fn:W.isFn K (.ref f)=true
 kp:W.keepIn K (.ref C)=true
theorem oU {Q:VK}{us:List Value}{vs:List V} (M:Mk X.K C f) (F:FnOk X.prog X.w X.K X.mg X.base CX k f fd ps sp) (hr:Room (k+1) X.A) (hb:Binds X.K fd ps ds) (hd:Vals dvs ds)
  (hx:dG CX X E) (I:Inv X pins σ H s) (r:Vals vs us)
  (h:∀ x dx,H x=none->H dx=none->dx≠x->sp (.ref x::(vs++dvs)) (upd (upd H dx (.own x)) x (.ins C dx [])) (fun v H2=>v=.non/\Q (.ref x) H2) E) :
  wpAny (model X.prog X.w) X.A (call (.ref C) us) (EP X pins σ Q) X.xe s:=by
 have hq:=h (s.heap.objs.size+1) s.heap.objs.size (I.hok.fresh (Nat.le_succ _)) (I.hok.fresh (Nat.le_refl _)) (Nat.ne_of_lt (Nat.lt_succ_self _))
 have I2:=Inv.made (C:=C) I
 have r2:Vals (V.ref (s.heap.objs.size+1)::(vs++dvs)) (Value.ref (s.heap.objs.size+1)::(us++ds)):=.cons rfl (r.append hd)
 have hl:(Value.ref (s.heap.objs.size+1)::us++ds).length=ps.length:=by
  have e:=r2.length
  rw[F.len _ _ _ _ hq] at e
  exact e.symm
 refine wpAny_call (pM (f:=f) I.kIn M.makes M.init (beq_iff_eq.mp M.fn) (codeAny_mono (F.run _ X.stack _ _ ⟨Value.ref (s.heap.objs.size+1)::us,[]⟩ (Value.ref (s.heap.objs.size+1)::(us++ds)) _ _ E (hr.make C us [])
  (I2.env0.make C us []) (hb _ (Value.ref (s.heap.objs.size+1)::us) I2.kIn hl) r2 hq) fun r s' hq'=>?_))
 cases r with
 | error e=>exact hx pins σ _ _ e s' I2 hq'
 | ok fl=>
  cases fl with
  | ret u=>
   obtain⟨v,H',I3,rv,ev,q3⟩:=I2.after hq'
   subst ev
   exact⟨rv,⟨V.ref (s.heap.objs.size+1),H',I3,U,q3⟩⟩
  | next=>exact False.elim hq'
  | brk=>exact False.elim hq'
  | cont=>exact False.elim hq'
theorem kh (M:Mk X.K C f) (F:FnOk X.prog X.w X.K X.mg X.base CX k f fd ps sp) (hr:Room (k+1) X.A) (hg:Gl X x) (hm:X.mg x=some (.ref C)) (hb:Binds X.K fd ps ds) (hd:Vals dvs ds) (hx:dG CX X E)
  (hdb:(x == ("__debug__" : Str))=false:=by decide):PE X (.Call (.Name x p) [] [] pos) (tMake C sp dvs E fL):=by
 intro pins s σ H Q I h
 refine wpAny_Call_Name_kw (dA I hg hm ?_ hdb)
 exact PySem.W.callWith_K0 I.kIn M.kp (oU (us:=[]) M F hr hb hd hx I .nil h)
end
section
variable {X:Cx}{CX:CXT}{k:Nat}{f C:Addr}{fd:FuncData}{ps ks:List Str}{sp:Sp}{E:XK}{x m:Str}{p pos apos kpos:Pos}{e o:Expr}{es:List Expr}{kws:List Keyword}{te ta:TE}{t tk:TA}{nm:Option Str}
structure KBinds (K:PySem.W.Frag) (fd:FuncData) (ps ks:List Str) (g:List Value->List Value->List Value) (gV:List V->List V->List V):Prop where
 to:∀ (s:Shared) (us ws:List Value),K.In s.heap->(g us ws).length=ps.length->BindsTo s fd ⟨us,ks.zip ws⟩ (ps.zip (g us ws))
 rel:∀ {vs:List V}{us:List Value}{zs:List V}{ws:List Value},Vals vs us->Vals zs ws->Vals (gV vs zs) (g us ws)
variable {g:List Value->List Value->List Value}{gV:List V->List V->List V}
end
structure FnScope (N P:List Str) (sc:Scope):Prop where
 kind:sc.kind=.function:=by rfl
 co:sc.isCoroutine=false:=by rfl
 gen:sc.isGenerator=false:=by rfl
 nd:N.Nodup:=by decide +kernel
 pre:N.take P.length=P:=by rfl
 par:∀ x ∈ P,sc.names.lookup x=some .local∨sc.names.lookup x=some .cell:=by decide +kernel
 nofree:∀ y ∈ sc.names,y.2≠.free:=by decide +kernel
theorem jr {kindOf : Str->Option NameKind}{x : Str} : ∀ {binds : List (Str×Value)}{m : Str->Option Value}, (∀ v, (x, v) ∉ binds)->bindL kindOf binds m x=m x
  | [], _, _=>rfl
  | (n, v) :: r, m, h => by
    unfold bindL
    rw[jr fun w hw=>h w (wE _ hw)]
    split
    · have : x≠n := by rintro rfl; exact h v wJ
      simp[this]
    · rfl
theorem jv {kindOf : Str->Option NameKind}{x : Str} : ∀ {binds : List (Str×Value)}{m : Str->Option Value}, (∀ v, (x, v) ∉ binds)->bindC kindOf binds m x=m x
  | [], _, _=>rfl
  | (n, v) :: r, m, h => by
    unfold bindC
    rw[jv fun w hw=>h w (wE _ hw)]
    split
    · rfl
    · have : x≠n := by rintro rfl; exact h v wJ
      simp[this]
theorem ju {kindOf:Str->Option NameKind}{x:Str}{v:Value}:∀ {P:List Str}{vs:List Value}{i:Nat}{m:Str->Option Value},P.Nodup->P[i]?=some x->vs[i]?=some v->kindOf x=some .local ->
  bindL kindOf (P.zip vs) m x=some v
 | [],_,_,_,_,h,_,_=>by simp at h
 | _::_,[],_,_,_,_,h,_=>by simp at h
 | p::P,w::vs,0,m,nd,h1,h2,hk=>by
  simp at h1 h2; subst h1; subst h2
  show bindL kindOf ((p,w)::P.zip vs) m p=_
  unfold bindL
  rw[jr fun v hv=>(List.nodup_cons.mp nd).1 (List.of_mem_zip hv).1,if_pos hk]
  simp
 | p::P,w::vs,i+1,m,nd,h1,h2,hk=>by
  show bindL kindOf ((p,w)::P.zip vs) m x=_
  unfold bindL
  exact ju (i:=i) (List.nodup_cons.mp nd).2 (by simpa using h1) (by simpa using h2) hk
theorem jw {kindOf:Str->Option NameKind}{x:Str}{v:Value}:∀ {P:List Str}{vs:List Value}{i:Nat}{m:Str->Option Value},P.Nodup->P[i]?=some x->vs[i]?=some v->kindOf x≠some .local ->
  bindC kindOf (P.zip vs) m x=some v
 | [],_,_,_,_,h,_,_=>by simp at h
 | _::_,[],_,_,_,_,h,_=>by simp at h
 | p::P,w::vs,0,m,nd,h1,h2,hk=>by
  simp at h1 h2; subst h1; subst h2
  show bindC kindOf ((p,w)::P.zip vs) m p=_
  unfold bindC
  rw[jv fun v hv=>(List.nodup_cons.mp nd).1 (List.of_mem_zip hv).1,if_neg hk]
  simp
 | p::P,w::vs,i+1,m,nd,h1,h2,hk=>by
  show bindC kindOf ((p,w)::P.zip vs) m x=_
  unfold bindC
  exact jw (i:=i) (List.nodup_cons.mp nd).2 (by simpa using h1) (by simpa using h2) hk
def start (N:List Str) (vs:List V):St:=vs.map some++List.replicate (N.length - vs.length) none
def eG (CX:CXT) (P:Program) (w:World) (K:PySem.W.Frag) (mg:Str->Option Value) (base:Heap) (N:List Str) (qual:Str) (scope:Scope) (f:Addr) (cd:Value) (A:Around) (outer:List Env) (s:Shared) (H:Hp) (E:XK):Cx where
 prog:=P
 w:=w
 K:=K
 mg:=mg
 base:=base
 A:=A.deeper (envOfC qual scope s.heap.objs.size f cd)
 N:=N
 s₀:=s
 H₀:=H
 env:=envOfC qual scope s.heap.objs.size f cd
 outer:=outer
 stack:=envOfC qual scope s.heap.objs.size f cd::outer
 ex:=[]
 calm:=true
 fn:=fun _=>true
 pn:=[]
 xe:=fun e s'=>wpAny (model P w) (A.deeper (envOfC qual scope s.heap.objs.size f cd)) (leaving (envOfC qual scope s.heap.objs.size f cd) e) (fun _ s''=>CX outer H s E e s'') (fun e' s''=>CX outer H s E e' s'') s'
theorem kM {sc:Scope}{n:Nat}{x:Str} (h:sc.names.lookup x=some .cell):∃ c,(cellsFrom n sc.names []).lookup x=some c:=by
 have q:=PySem.W.cellsFrom_some sc.names n [] (.inl h)
 exact Option.isSome_iff_exists.mp q
theorem gB {CX:CXT}{base:Heap}{N ps:List Str}{qual:Str}{scope:Scope}{f:Addr}{cd:Value}{outer:List Env}{s s1:Shared}{E:XK}{vs:List V}
  (S:FnScope N ps scope) (hd:A.handled=none) (e0:Env0 P w K mg base A outer s H) (hl:vs.length=ps.length) (r:Vals vs us)
  (x:InCallC s s.heap.objs.size (bindL (envOfC qual scope s.heap.objs.size f cd).kindOf (ps.zip us) fun _=>none) (cellsFrom (s.heap.objs.size+1) scope.names []) (bindC (envOfC qual scope s.heap.objs.size f cd).kindOf (ps.zip us) fun _=>none) s1) :
  Inv (eG CX P w K mg base N qual scope f cd A outer s H E) [] (start N vs) H s1:=by
 have hpl:ps.length<=N.length:=by have:=congrArg List.length S.pre; rw[wV] at this; omega
 obtain⟨h1,tk,rfl,hk⟩:=x.done
 have noA:∀ b:Addr,b ∉ (eG CX P w K mg base N qual scope f cd A outer s H E).ex:=fun b z=>absurd (show b ∈ ([]:List Addr) from z) (by simp)
 refine⟨⟨e0.mod,S.kind,U,U,Nat.le_refl _,fun y z c h1 h2=>?_,fun y hy=>?_,fun y c _ h=>?_,fun _=>hd,Around.frames_deeper e0.frames,.inr ⟨U,U⟩,fun b z=>absurd z (noA b),e0.bs,e0.bsz,fun b _ _=>noA b,fun b z=>absurd z (noA b),e0.funs,e0.frf⟩,
  rfl,e0.bare,Un.kept hk,⟨_,x.toInCall.ns,fun i y v h1 h2 h3=>?_⟩,fun y c h=>⟨_,x.cell y c h⟩,e0.hok.fresh (Nat.le_refl _),fun y c h=>?_,fun p hp=>absurd (show p ∈ ([]:List (Addr×Obj)) from hp) (by simp),e0.hok.kept hk,?_⟩
 ·exact name_of_addr x.apart (PySem.mem_of_lookup h1) (PySem.mem_of_lookup h2)
 ·have hy:scope.names.lookup y=some .cell∨scope.names.lookup y=some .free:=hy
  rcases hy with hy | hy
  ·exact kM hy
  ·exact absurd rfl (S.nofree _ (PySem.mem_of_lookup hy))
 ·exact Nat.le_of_lt (x.above y c (PySem.mem_of_lookup h))
 ·have hi:i<vs.length:=by
   unfold start at h2
   by_cases hi:i<vs.length
   ·exact hi
   ·rw[wR (by simpa using hi)] at h2
    rw[List.getElem?_replicate] at h2
    split at h2 <;> cases h2
  have ha:vs[i]?=some v:=by
   unfold start at h2
   rw[xa (by simpa using hi),wM] at h2
   cases e:vs[i]? with
   | none=>rw[e] at h2; cases h2
   | some a=>rw[e] at h2; cases h2; rfl
  obtain⟨u,hu,rv⟩:=r.get ha
  have hp:ps[i]?=some y:=by
   rw[<- S.pre,List.getElem?_take_of_lt (by omega)]; exact h1
  have ndP:ps.Nodup:=by rw[<- S.pre]; exact S.nd.sublist (List.take_sublist _ _)
  refine⟨u,rv,?_⟩
  rcases S.par y (wI hp) with k | k
  ·exact .inl ⟨k,ju ndP hp hu k⟩
  ·obtain⟨c,e⟩:=kM (n:=s.heap.objs.size+1) k
   refine .inr ⟨.inl k,c,e,?_⟩
   have q:=x.cell y c e
   rw[jw ndP hp hu (by show scope.names.lookup y≠_; rw[k]; decide)] at q
   exact q
 ·exact e0.hok.fresh (Nat.le_of_lt (x.above y c (PySem.mem_of_lookup h)))
 ·unfold start
  show _=N.length
  rw[wK,wF,wS]
  omega
theorem p9 {CX:CXT}{base:Heap}{k:Nat}{f:Addr}{name qual:Str}{params:Arguments}{body:List Stmt}{scope:Scope}{dV kV doc pm cdv ct oc:Value}{an od:Option Addr}
  {osl:Array (Option Value)}{N ps:List Str}{sp:Sp} (lk:K.lookup f=some ⟨oc,od,.func (W.fnOf name qual params body scope dV kV doc pm an cdv ct),osl⟩) (hcd:W.codeIn K cdv qual=true) (S:FnScope N ps scope)
  (len:∀ vs H Q E,sp vs H Q E->vs.length=ps.length)
  (hbody:∀ (A:Around) (outer:List Env) (s:Shared) (H:Hp) (vs:List V) (Q:VK) (E:XK),Room k (A.deeper (envOfC qual scope s.heap.objs.size f cdv))->sp vs H Q E ->
   ∃ t,PSs (eG CX P w K mg base N qual scope f cdv A outer s H E) body t/\t { nx:=fun _ H'=>Q .non H',rt:=Q } (start N vs) H) :
  FnOk P w K mg base CX (k+1) f (W.fnOf name qual params body scope dV kV doc pm an cdv ct) ps sp:=by
 refine⟨len,fun A outer s H args us vs Q E hr e0 hb r hsp=>?_⟩
 have hl:=len _ _ _ _ hsp
 have KX:K.In s.heap:=e0.mod.kin.keeps fun b o e=>(e0.bs b o e).1
 have lim:s.heap.NoLimit:=e0.mod.nolimit.keeps fun b o e=>(e0.bs b o e).1
 have hkind:∀ y ∈ ps.zip us,scope.names.lookup y.1=some .local∨(scope.names.lookup y.1=some .cell/\((cellsFrom (s.heap.objs.size+1) scope.names []).lookup y.1).isSome=true):=fun⟨n,v⟩ hy=>by
  rcases S.par n (List.of_mem_zip hy).1 with q | q
  ·exact .inl q
  ·exact .inr ⟨q,PySem.W.cellsFrom_some _ _ _ (.inl q)⟩
 refine codeAny_call_function hr.depth (KX _ _ lk) rfl S.co S.gen rfl (PySem.W.codeRec_of KX hcd) (hb _ _ _ _ ?_)
 refine wpAny_newFunctionEnv_cells S.kind hkind fun env he s1 x=>?_
 subst he
 refine⟨lim.keeps x.toInCall.keep,codeAny_func ?_⟩
 obtain⟨t,ht,hq⟩:=hbody A outer s H vs Q E (hr.deeper _) hsp
 have I:Inv (eG CX P w K mg base N qual scope f cdv A outer s H E) [] (start N vs) H s1:=gB S hr.hd e0 hl r x
 refine wpAny_mono (ht [] s1 (start N vs) H _ I hq) (fun fl s' hs=>?_) fun e s' hs=>hs
 have fin:∀ {σ':St}{H':Hp}{v:V}{u:Value},Inv (eG CX P w K mg base N qual scope f cdv A outer s H E) [] σ' H' s'->RelV v u->Q v H'->CE outer P w H s Q u s' :=
  fun {σ' H' v u} J rv q=>⟨v,H',J.os,J.bare,J.base,J.hok,rv,q⟩
 cases fl with
 | ret u=>
  obtain⟨v,σ',H',J,rv,q⟩:=hs
  exact fin J rv q
 | next=>
  obtain⟨σ',H',J,q⟩:=hs
  exact fin (v:=V.non) (u:=Value.none) J rfl q
 | brk=>
  obtain⟨_,_,_,q⟩:=hs
  exact False.elim q
 | cont=>
  obtain⟨_,_,_,q⟩:=hs
  exact False.elim q
section
variable {X:Cx}{x:Str}{p pos:Pos}{e:Expr}{es:List Expr}{t:TA}{id T:String}{r:List V->Hp->VK->Prop}
def tCB (r:List V->Hp->VK->Prop) (t:TA):TE:=fun σ H Q=>t σ H fun vs H1=>r vs H1 Q
theorem ay (hc:cR X (.builtin id) r) (hg:Gl X x) (hm:X.mg x=none) (hv:bootBuiltins x=some (.builtin id)) (ha:PA X (e::es) t) (hn:x ≠ "__name__":=by decide) (hdb:(x == ("__debug__" : Str))=false:=by decide)
  (he:starEach (e::es) X.env=(false,eval e X.env)::starEach es X.env:=by rfl) (hpl:(backTo pos (starEach es X.env)).any (·.1)=false:=by rfl):PE X (.Call (.Name x p) (e::es) [] pos) (tCB r t):=by
 intro pins s σ H Q I h
 refine wpAny_Call_Name_kw (iB I hg hm hv ?_ hn hdb)
 exact PyProof.Rows.callWith_builtin1 (thn (ha pos pins s σ H _ I h) fun us s1 ⟨vs,H1,I1,r1,q1⟩=>hc pins s1 σ H1 vs us Q I1 r1 q1) he hpl
theorem aZ (hc:cR X (.type T) r) (hg:Gl X x) (hm:X.mg x=none) (hv:bootBuiltins x=some (.type T)) (ha:PA X (e::es) t) (hn:x ≠ "__name__":=by decide) (hdb:(x == ("__debug__" : Str))=false:=by decide)
  (he:starEach (e::es) X.env=(false,eval e X.env)::starEach es X.env:=by rfl) (hpl:(backTo pos (starEach es X.env)).any (·.1)=false:=by rfl):PE X (.Call (.Name x p) (e::es) [] pos) (tCB r t):=by
 intro pins s σ H Q I h
 refine wpAny_Call_Name_kw (iB I hg hm hv ?_ hn hdb)
 exact PyProof.Rows.callWith_type1 (thn (ha pos pins s σ H _ I h) fun us s1 ⟨vs,H1,I1,r1,q1⟩=>hc pins s1 σ H1 vs us Q I1 r1 q1) he hpl
end
end L2
namespace L2
open PySem PySem.Spec PyProof.Rows
variable{u:Value}
section
variable {κ:Type} [DecidableEq κ]
def az (kvs:List (κ×V)) (k:κ):Option V:=(kvs.find? fun kv=>decide (kv.1=k)).map (·.2)
def aG (kvs:List (κ×V)) (k:κ) (v:V):List (κ×V) :=
 if (kvs.any fun kv=>decide (kv.1=k))=true then kvs.map (fun kv=>if kv.1=k then(kv.1,v) else kv) else kvs++[(k,v)]
def ar (kvs:List (κ×V)) (k:κ):List (κ×V):=kvs.filter fun kv=>decide (kv.1≠k)
theorem bQ {p:κ×V}{r:List (κ×V)}{k:κ} (e:p.1=k):az (p::r) k=some p.2:=by simp[az,xf,e]
theorem bx {p:κ×V}{r:List (κ×V)}{k:κ} (e:¬ p.1=k):az (p::r) k=az r k:=by simp[az,xf,e]
theorem de (k:κ):∀ kvs:List (κ×V),(kvs.any fun kv=>decide (kv.1=k))=(az kvs k).isSome
 | []=>rfl
 | p::r=>by
  rw[List.any_cons]
  by_cases e:p.1=k
  ·simp only[bQ e,decide_eq_true e,Bool.true_or,Option.isSome_some]
  ·rw[bx e,decide_eq_false e,Bool.false_or]; exact de k r
theorem j7 (k j:κ) (y:V):∀ kvs:List (κ×V),az (kvs.map fun kv=>if kv.1=k then(kv.1,y) else kv) j=(az kvs j).map fun x=>if j=k then y else x
 | []=>rfl
 | p::r=>by
  have ih:=j7 k j y r
  rw[wN]
  by_cases h:p.1=k
  ·rw[if_pos h]
   by_cases e:p.1=j
   ·rw[bQ (p:=(p.1,y)) e,bQ e,Option.map_some,if_pos (e.symm.trans h)]
   ·rw[bx (p:=(p.1,y)) e,bx e,ih]
  ·rw[if_neg h]
   by_cases e:p.1=j
   ·rw[bQ (p:=p) e,bQ e,Option.map_some,if_neg (fun z=>h (e.trans z))]
   ·rw[bx (p:=p) e,bx e,ih]
theorem i7 (k j:κ) (y:V):∀ kvs:List (κ×V),az kvs k=none->az (kvs++[(k,y)]) j=if j=k then some y else az kvs j
 | [],_=>by
  by_cases e:k=j
  ·rw[if_pos e.symm]; exact bQ (p:=(k,y)) e
  ·rw[if_neg (fun z=>e z.symm)]; exact bx (p:=(k,y)) e
 | p::r,hn=>by
  rw[List.cons_append]
  have hk:¬ p.1=k:=fun z=>by rw[bQ z] at hn; cases hn
  rw[bx hk] at hn
  have ih:=i7 k j y r hn
  by_cases e:p.1=j
  ·rw[bQ e,bQ e,if_neg (fun z=>hk (e.trans z))]
  ·rw[bx e,bx e,ih]
theorem b7 (kvs:List (κ×V)) (k j:κ) (y:V):az (aG kvs k y) j=if j=k then some y else az kvs j:=by
 unfold aG
 by_cases a:(kvs.any fun kv=>decide (kv.1=k))=true
 ·rw[if_pos a,j7]
  rw[de] at a
  by_cases e:j=k
  ·obtain⟨x,hx⟩:=Option.isSome_iff_exists.mp a
   rw[if_pos e,e,hx,Option.map_some,if_pos rfl]
  ·rw[if_neg e]
   cases az kvs j with
   | none=>rfl
   | some x=>rw[Option.map_some,if_neg e]
 ·rw[if_neg a]
  refine i7 k j y kvs ?_
  rw[de] at a
  cases q:az kvs k with
  | none=>rfl
  | some x=>rw[q] at a; exact(a rfl).elim
theorem bF (kvs:List (κ×V)) (k:κ) (v:V):(aG kvs k v).length<=kvs.length+1:=by
 unfold aG
 split
 ·rw[wF]; omega
 ·rw[wK,wQ,List.length_nil]; omega
theorem hU {kvs:List (κ×V)}{k:κ} (v:V) (h:az kvs k=none):aG kvs k v=kvs++[(k,v)]:=by
 unfold aG
 rw[de,h]
 exact if_neg (by decide)
theorem RelO.isSome_eq {o:Option V}{u:Option Value} (r:RelO o u):o.isSome=u.isSome:=by
 cases o with
 | none=>cases u with
  | none=>rfl
  | some _=>exact(show False from r).elim
 | some _=>cases u with
  | none=>exact(show False from r).elim
  | some _=>rfl
theorem RelO.getD {o:Option V}{u:Option Value}{d:V}{d':Value} (r:RelO o u) (rd:RelV d d'):RelV (o.getD d) (u.getD d'):=by
 cases o with
 | none=>cases u with
  | none=>exact rd
  | some _=>exact(show False from r).elim
 | some _=>cases u with
  | none=>exact(show False from r).elim
  | some _=>exact r
theorem KV.val {kvs:List (κ×V)}{vs:List (κ×Value)} (r:KV kvs vs) (k:κ):RelO (az kvs k) (valueAt vs k):=by
 unfold KV at r
 induction r with
 | nil=>exact True.intro
 | @cons p q ps qs h t ih=>
  obtain⟨h1,h2⟩:=h
  by_cases e:p.1=k
  ·have e':q.1=k:=h1.symm.trans e
   have b:valueAt (q::qs) k=some q.2:=by simp[valueAt,xf,e']
   rw[bQ e,b]; exact h2
  ·have e':¬ q.1=k:=fun z=>e (h1.trans z)
   have b:valueAt (q::qs) k=valueAt qs k:=by simp[valueAt,xf,e']
   rw[bx e,b]; exact ih
theorem KV.any {kvs:List (κ×V)}{vs:List (κ×Value)} (r:KV kvs vs) (k:κ):(kvs.any fun kv=>decide (kv.1=k))=vs.any fun kv=>decide (kv.1=k):=by
 unfold KV at r
 induction r with
 | nil=>rfl
 | cons h t ih=>rw[List.any_cons,List.any_cons,ih,h.1]
theorem KV.repl {kvs:List (κ×V)}{vs:List (κ×Value)} (r:KV kvs vs) (k:κ) {y:V} (ry:RelV y u) :
  KV (kvs.map fun kv=>if kv.1=k then(kv.1,y) else kv) (vs.map fun kv=>if kv.1=k then(kv.1,u) else kv):=by
 unfold KV at r ⊢
 induction r with
 | nil=>exact .nil
 | @cons p q ps qs h t ih=>
  rw[wN,wN]
  refine .cons ?_ ih
  obtain⟨h1,h2⟩:=h
  by_cases e:p.1=k
  ·rw[if_pos e,if_pos (h1.symm.trans e)]; exact⟨h1,ry⟩
  ·rw[if_neg e,if_neg (fun z=>e (h1.trans z))]; exact⟨h1,h2⟩
theorem KV.put {kvs:List (κ×V)}{vs:List (κ×Value)} (r:KV kvs vs) (k:κ) {y:V} (ry:RelV y u):KV (aG kvs k y) (stored vs k u):=by
 unfold aG stored
 rw[r.any k]
 by_cases e:(vs.any fun kv=>decide (kv.1=k))=true
 ·rw[if_pos e,if_pos e]; exact r.repl k ry
 ·rw[if_neg e,if_neg e]; exact Paired.snoc r ⟨U,ry⟩
theorem KV.drop {kvs:List (κ×V)}{vs:List (κ×Value)} (r:KV kvs vs) (k:κ):KV (ar kvs k) (without vs k):=by
 unfold KV at r ⊢
 unfold ar without
 induction r with
 | nil=>exact .nil
 | @cons p q ps qs h t ih=>
  obtain⟨h1,h2⟩:=h
  rw[List.filter_cons,List.filter_cons]
  by_cases e:p.1=k
  ·have a:¬ decide (p.1≠k)=true:=by simp[e]
   have b:¬ decide (q.1≠k)=true:=by simp[h1.symm.trans e]
   rw[if_neg a,if_neg b]; exact ih
  ·have e':¬ q.1=k:=fun z=>e (h1.trans z)
   have a:decide (p.1≠k)=true:=by simp[e]
   have b:decide (q.1≠k)=true:=by simp[e']
   rw[if_pos a,if_pos b]; exact .cons ⟨h1,h2⟩ ih
theorem KV.keys {kvs:List (κ×V)}{vs:List (κ×Value)} (r:KV kvs vs):kvs.map (·.1)=vs.map (·.1):=by
 unfold KV at r
 induction r with
 | nil=>rfl
 | cons h t ih=>rw[wN,wN,ih,h.1]
theorem KV.length {kvs:List (κ×V)}{vs:List (κ×Value)} (r:KV kvs vs):kvs.length=vs.length:=Paired.length r
theorem fY (kvs:List (κ×V)) (k:κ):(ar kvs k).length<=kvs.length:=List.length_filter_le _ _
end
variable{P:Program}{w:World}
theorem fm {k:Key} (r:RelV (kV k) u):(aD P w).is k u=true:=by
 cases k with
 | inl i=>obtain⟨t,e⟩:=(show ∃ t,u=Value.int i t from r); subst e; exact kx P w i t
 | inr x=>obtain⟨t,e⟩:=(show ∃ t,u=Value.str x t from r); subst e; exact ku P w x t
theorem jm :∀ {ks:List Key}{us:List Value},Vals (ks.map kV) us->ItemsAre (aD P w) ks us
 | [],_,r=>by rw[List.map_nil] at r; cases r; exact .nil
 | k::ks,_,r=>by
  rw[wN] at r
  cases r with
  | cons h t=>exact .cons (fm h) (jm t)
abbrev KT (H:Hp):List (List Key×V)->List (List Key×Addr×Value)->Prop:=Paired fun p q=>p.1=q.1/\H q.2.1=some (.tup (p.1.map kV))/\RelV p.2 q.2.2
variable{kvs:List (List Key×V)}{xs:List (List Key×Addr×Value)}{H:Hp}
theorem KT.val (r:KT H kvs xs) (k:List Key):RelO (az kvs k) ((atKey xs k).map (·.2)):=by
 induction r with
 | nil=>exact True.intro
 | @cons p q ps qs h t ih=>
  obtain⟨h1,_,h2⟩:=h
  by_cases e:p.1=k
  ·have e':q.1=k:=h1.symm.trans e
   have b:atKey (q::qs) k=some q.2:=by simp[atKey,xf,e']
   rw[bQ e,b]; exact h2
  ·have e':¬ q.1=k:=fun z=>e (h1.trans z)
   have b:atKey (q::qs) k=atKey qs k:=by simp[atKey,xf,e']
   rw[bx e,b]; exact ih
theorem KT.repl (r:KT H kvs xs) (k:List Key) {y:V} (ry:RelV y u) :
  KT H (kvs.map fun kv=>if kv.1=k then(kv.1,y) else kv) (xs.map (putAt k u)):=by
 induction r with
 | nil=>exact .nil
 | @cons p q ps qs h t ih=>
  rw[wN,wN]
  refine .cons ?_ ih
  obtain⟨h1,h2,h3⟩:=h
  unfold putAt
  by_cases e:p.1=k
  ·rw[if_pos e,if_pos (h1.symm.trans e)]; exact⟨h1,h2,ry⟩
  ·rw[if_neg e,if_neg (fun z=>e (h1.trans z))]; exact⟨h1,h2,h3⟩
theorem KT.put (r:KT H kvs xs) (k:List Key) {b:Addr}{y:V} (hb:H b=some (.tup (k.map kV))) (ry:RelV y u) :
  KT H (aG kvs k y) (storedH xs k b u):=by
 have e:(kvs.any fun kv=>decide (kv.1=k))=(atKey xs k).isSome:=by
  rw[de,(r.val k).isSome_eq,Option.isSome_map]
 unfold aG storedH
 rw[e]
 by_cases q:(atKey xs k).isSome=true
 ·rw[if_pos q,if_pos q]; exact r.repl k ry
 ·rw[if_neg q,if_neg q]; exact Paired.snoc r ⟨U,hb,ry⟩
theorem KT.keeps {H H':Hp} (r:KT H kvs xs) (ht:∀ b ys,H b=some (.tup ys)->H' b=some (.tup ys)):KT H' kvs xs :=
 Paired.mapP r fun _ _ z=>⟨z.1,ht _ _ z.2.1,z.2.2⟩
section
variable {P:Program}{w:World}{H:Hp}{h:Heap}{a:Addr}
theorem sr {u:HO} (ok:HOk P w H h) (e:Rd H a u):ObjOk P w H h a u:=e.ok ok
theorem fZ {kvs:List (Key×V)} (ok:HOk P w H h) (e:Rd H a (.dK kvs)):kvs.length<=sizeLine/\(a == sysModules)=false/\∃ vs,KV kvs vs/\h.DictOf (aD P w) a vs :=
 show ObjOk P w H h a (.dK kvs) from sr ok e
theorem jp {kvs:List (Key×V)} (ok:HOk P w H h) (e:H a=some (.dK kvs)):kvs.length<=sizeLine/\(a == sysModules)=false/\∃ vs,KV kvs vs/\h.DictOf (aD P w) a vs:=fZ ok (.inl e)
theorem dF {ks:List Key} (ok:HOk P w H h) (e:H a=some (.tup (ks.map kV))):(tupleKind (aD P w)).is h ks a:=by
 obtain⟨_,its,r,o,h1,h2,n,h3⟩:=(show ObjOk P w H h a (.tup (ks.map kV)) from ok a _ e)
 exact⟨o,its.toArray,n,h1,h2,h3,by simpa using jm r⟩
theorem fW (ok:HOk P w H h) (e:Rd H a (.dT kvs)):kvs.length<=sizeLine/\(a == sysModules)=false /\
  ∃ xs,KT H kvs xs/\h.DictOfH (tupleKind (aD P w)) a xs:=by
 obtain⟨z,y,xs,r,o,es,ep,h1,h2,h3,h4,h5⟩:=(show ObjOk P w H h a (.dT kvs) from sr ok e)
 refine⟨z,y,xs,r,o,es,ep,h1,h2,h3,h4,fun x hx=>?_,h5⟩
 have all:∀ {l:List (List Key×V)}{m:List (List Key×Addr×Value)},KT H l m->∀ x ∈ m,(tupleKind (aD P w)).is h x.1 x.2.1:=by
  intro l m q
  induction q with
  | nil=>intro x hx; exact nomatch hx
  | @cons p q ps qs hq t ih=>
   intro x hx
   rcases wP.mp hx with e | hx
   ·subst e
    exact dF ok (by rw[<- hq.1]; exact hq.2.1)
   ·exact ih x hx
 exact all r x hx
theorem qf (ok:HOk P w H h) (e:H a=some (.dT kvs)):kvs.length<=sizeLine/\(a == sysModules)=false /\
  ∃ xs,KT H kvs xs/\h.DictOfH (tupleKind (aD P w)) a xs:=fW ok (.inl e)
end
def DGet (H:Hp) (a:Addr) (y:V) (r:Option V):Prop :=
 (∃ kvs k,Rd H a (.dK kvs)/\y=kV k/\r=az kvs k)∨∃ kvs k b,Rd H a (.dT kvs)/\y=.ref b/\H b=some (.tup (k.map kV))/\r=az kvs k
def DPut (H:Hp) (a:Addr) (y v:V) (H':Hp):Prop :=
 (∃ kvs k,H a=some (.dK kvs)/\y=kV k/\kvs.length<sizeLine/\H'=upd H a (.dK (aG kvs k v))) ∨
 ∃ kvs k b,H a=some (.dT kvs)/\y=.ref b/\H b=some (.tup (k.map kV))/\kvs.length<sizeLine/\H'=upd H a (.dT (aG kvs k v))
theorem DGet.k {a:Addr}{kvs:List (Key×V)}{k:Key} (e:H a=some (.dK kvs)):DGet H a (kV k) (az kvs k):=.inl ⟨kvs,k,.inl e,U,U⟩
theorem DGet.t {a b:Addr}{k:List Key} (e:H a=some (.dT kvs)) (eb:H b=some (.tup (k.map kV))):DGet H a (.ref b) (az kvs k):=.inr ⟨kvs,k,b,.inl e,U,eb,U⟩
theorem DPut.k {a:Addr}{kvs:List (Key×V)}{k:Key}{v:V} (e:H a=some (.dK kvs)) (hl:kvs.length<sizeLine):DPut H a (kV k) v (upd H a (.dK (aG kvs k v))):=.inl ⟨kvs,k,e,U,hl,U⟩
theorem DPut.t {a b:Addr}{k:List Key}{v:V} (e:H a=some (.dT kvs)) (eb:H b=some (.tup (k.map kV))) (hl:kvs.length<sizeLine) :
  DPut H a (.ref b) v (upd H a (.dT (aG kvs k v))):=.inr ⟨kvs,k,b,e,U,eb,hl,U⟩
variable{Q:Value->Shared->Prop}
section
variable {X:Cx}{pins:List (Addr×Obj)}{σ:St}{H:Hp}{s:Shared}{a:Addr}{y v:V}{u r:Value}{o:Option V}{A:Around}{E:Value->Shared->Prop}
theorem Inv.big (I:Inv X pins σ H s):sysModules<s.heap.objs.size:=by
 have h:mainGlobals<s.heap.objs.size:=(I.mod.glob.keeps I.bk).lt
 exact Nat.lt_trans (by decide) h
theorem nQ (hu:A.units+1<cLine) (I:Inv X pins σ H s) (g:DGet H a y (some v)) (ry:RelV y u) (h:∀ w' s',Inv X pins σ H s'->RelV v w'->Q w' s') :
  wpAny (model X.prog X.w) A (getItem (.ref a) u) Q E s:=by
 rcases g with ⟨kvs,k,e,ey,l⟩ | ⟨kvs,k,b,e,ey,eb,l⟩
 ·subst ey
  obtain⟨z,hd,vs,rel,dd⟩:=fZ I.hok e
  obtain⟨w',hw,rw'⟩:=RelO.some_of (v:=v) (o:=valueAt vs k) (by rw[l]; exact rel.val k)
  exact wpAny_getItem_of (fm ry) dd.mapOf hw (h w' _ (I.tok _) rw')
 ·subst ey
  cases (show u=Value.ref b from ry)
  obtain⟨z,hd,xs,rel,dd⟩:=fW I.hok e
  obtain⟨w',hw,rw'⟩:=RelO.some_of (v:=v) (o:=(atKey xs k).map (·.2)) (by rw[l]; exact rel.val k)
  obtain⟨p,hp,hp2⟩:=Option.map_eq_some_iff.mp hw
  refine wpAny_getItem_heap (tupleKind_room_in1 hu) (dF I.hok eb) dd hp ?_
  rw[hp2]
  exact h w' _ (I.tok _) rw'
theorem d_in (hu:A.units+1<cLine) (I:Inv X pins σ H s) (g:DGet H a y o) (ry:RelV y u) (h:∀ s',Inv X pins σ H s'->Q (.bool o.isSome) s') :
  wpAny (model X.prog X.w) A (compareOp .In u (.ref a)) Q E s:=by
 rcases g with ⟨kvs,k,e,ey,l⟩ | ⟨kvs,k,b,e,ey,eb,l⟩
 ·subst ey
  obtain⟨z,hd,vs,rel,dd⟩:=fZ I.hok e
  refine wpAny_in_of (fm ry) hd dd.mapOf ?_
  rw[<- (rel.val k).isSome_eq,<- l]
  exact h _ (I.tok _)
 ·subst ey
  cases (show u=Value.ref b from ry)
  obtain⟨z,hd,xs,rel,dd⟩:=fW I.hok e
  refine wpAny_in_heap (tupleKind_room_in1 hu) (dF I.hok eb) hd dd ?_
  have q:=(rel.val k).isSome_eq
  rw[Option.isSome_map] at q
  rw[<- q,<- l]
  exact h _ (I.tok _)
theorem mM (hu:A.units+1<cLine) (I:Inv X pins σ H s) (g:DGet H a y o) (ry:RelV y u) (h:∀ s',Inv X pins σ H s'->Q (.bool (!o.isSome)) s') :
  wpAny (model X.prog X.w) A (compareOp .NotIn u (.ref a)) Q E s:=by
 rcases g with ⟨kvs,k,e,ey,l⟩ | ⟨kvs,k,b,e,ey,eb,l⟩
 ·subst ey
  obtain⟨z,hd,vs,rel,dd⟩:=fZ I.hok e
  refine wpAny_notIn_of (fm ry) hd dd.mapOf ?_
  rw[<- (rel.val k).isSome_eq,<- l]
  exact h _ (I.tok _)
 ·subst ey
  cases (show u=Value.ref b from ry)
  obtain⟨z,hd,xs,rel,dd⟩:=fW I.hok e
  refine wpAny_notIn_heap (tupleKind_room_in1 hu) (dF I.hok eb) hd dd ?_
  have q:=(rel.val k).isSome_eq
  rw[Option.isSome_map] at q
  rw[<- q,<- l]
  exact h _ (I.tok _)
theorem dB {h':Heap}{t':Nat}{ob:HO} (I:Inv X pins σ H s) (mu:Mut (H a)) (hs:Heap.SameBut a s.heap h') (he:∃ q,h'.get? a=some q) (new:ObjOk X.prog X.w (upd H a ob) h' a ob) :
  Inv X pins σ (upd H a ob) { s with heap:=h',toks:=t' } :=
 I.write (x:=a) (e:=a) mu (.inl rfl) (fun b q hb z=>(hs.2 b hb).trans z) he new
theorem iL {H':Hp}{h':Heap}{kvs:List (Key×V)}{vs:List (Key×Value)} (z:kvs.length<=sizeLine) (hd:(a == sysModules)=false) (rel:KV kvs vs) (dd:h'.DictOf (aD P w) a vs) :
  ObjOk P w H' h' a (.dK kvs):=⟨z,hd,vs,rel,dd⟩
theorem nP {H':Hp}{Q:Unit->Shared->Prop} (hu:A.units+1<cLine) (I:Inv X pins σ H s) (g:DPut H a y v H') (ry:RelV y u) (rv:RelV v r) (h:∀ s',Inv X pins σ H' s'->Q () s') :
  wpAny (model X.prog X.w) A (setItem (.ref a) u r) Q E s:=by
 rcases g with ⟨kvs,k,e,ey,l,eH⟩ | ⟨kvs,k,b,e,ey,eb,l,eH⟩
 ·subst ey eH
  obtain⟨z,hd,vs,rel,dd⟩:=jp I.hok e
  have hz:vs.length<=sizeLine:=by rw[<- rel.length]; exact z
  have hl:(aG kvs k v).length<=sizeLine:=by have:=bF kvs k v; omega
  refine wpAny_setItem_pairs (hsz:=hz) (fm ry) dd fun h' dd' hs=>h _ ?_
  have he:∃ q,h'.get? a=some q:=let ⟨q,_,_,hq,_⟩:=dd'; ⟨q,hq⟩
  exact dB I (by rw[e]; exact True.intro) hs he (iL hl hd (rel.put k rv) dd')
 ·subst ey eH
  cases (show u=Value.ref b from ry)
  obtain⟨z,hd,xs,rel,dd⟩:=qf I.hok e
  have hz:xs.length<=sizeLine:=by rw[<- Paired.length rel]; exact z
  have hl:(aG kvs k v).length<=sizeLine:=by have:=bF kvs k v; omega
  refine wpAny_setItem_heap (hsz:=hz) (tupleKind_room_in1 hu) (dF I.hok eb) dd fun h' dd' hs=>h _ ?_
  obtain⟨q,es,ep,hq,h2,h3,h4,_,h5⟩:=dd'
  refine dB I (by rw[e]; exact True.intro) hs ⟨q,hq⟩ ⟨hl,hd,_,(rel.put k eb rv).keeps fun c ys ec=>?_,q,es,ep,hq,h2,h3,h4,h5⟩
  rw[aA (pJ ec e (fun z=>nomatch z))]
  exact ec
end
section
variable {X:Cx}{pins:List (Addr×Obj)}{σ:St}{H:Hp}{s:Shared}{a:Addr}{kvs:List (Key×V)}{k:Key}{u:Value}{A:Around}{E:Value->Shared->Prop}
theorem nR {Q:Unit->Shared->Prop} (I:Inv X pins σ H s) (e:H a=some (.dK kvs)) (ry:RelV (kV k) u) (l:(az kvs k).isSome=true) (h:∀ s',Inv X pins σ (upd H a (.dK (ar kvs k))) s'->Q () s') :
  wpAny (model X.prog X.w) A (delItem (.ref a) u) Q E s:=by
 obtain⟨z,hd,vs,rel,dd⟩:=jp I.hok e
 refine wpAny_delItem_slot dd.typeIs (by decide) PySem.F.slot_dict_delitem
  (call_meetsIn PySem.F.slot_dict_delitem dd.typeIs PySem.F.entry_dict_delitem (PySem.F.args_dict_delitem_2 _ _) (meets_dict_delitem_pairs (aD X.prog X.w) a (fm ry)) ⟨vs,dd,by rw[<- rel.length]; exact z,by rw[<- (rel.val k).isSome_eq]; exact l,fun h' dd' hs=>h _ ?_⟩)
 have he:∃ q,h'.get? a=some q:=let ⟨q,_,_,hq,_⟩:=dd'; ⟨q,hq⟩
 exact dB I (by rw[e]; exact True.intro) hs he (iL (Nat.le_trans (fY kvs k) z) hd (rel.drop k) dd')
theorem sU {v:V}{more:List Value} (I:Inv X pins σ H s) (e:H a=some (.dK kvs)) (ry:RelV (kV k) u) (l:az kvs k=some v) (hm:more=[]∨∃ x,more=[x])
  (h:∀ w' s',Inv X pins σ (upd H a (.dK (ar kvs k))) s'->RelV v w'->Q w' s'):wpAny (model X.prog X.w) A (call (.builtin "dict.pop") (.ref a::u::more)) Q E s:=by
 obtain⟨z,hd,vs,rel,dd⟩:=jp I.hok e
 obtain⟨w',hw,rw'⟩:=RelO.some_of (v:=v) (o:=valueAt vs k) (by rw[<- l]; exact rel.val k)
 have hp:(keyPart u).isSome=true:=by
  cases k with
  | inl i=>obtain⟨t,q⟩:=(show ∃ t,u=Value.int i t from ry); subst q; rfl
  | inr x=>obtain⟨t,q⟩:=(show ∃ t,u=Value.str x t from ry); subst q; rfl
 have ha:argsOk "dict.pop" ⟨.ref a::u::more,[]⟩:=by
  rcases hm with q | ⟨x,q⟩
  ·subst q; exact PySem.F.args_dict_pop_2 _ _
  ·subst q; exact PySem.F.args_dict_pop_3 _ _ _
 refine call_meetsIn PySem.F.slot_dict_pop dd.typeIs PySem.F.entry_dict_pop ha (meets_dict_pop_there (aD X.prog X.w) a (fm ry) more hm hp)
  ⟨vs,w',dd,by rw[<- rel.length]; exact z,hw,fun h' dd' hs=>h w' _ ?_ rw'⟩
 have he:∃ q,h'.get? a=some q:=let ⟨q,_,_,hq,_⟩:=dd'; ⟨q,hq⟩
 exact dB I (by rw[e]; exact True.intro) hs he (iL (Nat.le_trans (fY kvs k) z) hd (rel.drop k) dd')
theorem uW {r:Value} (I:Inv X pins σ H s) (e:H a=some (.dK kvs)) (ry:RelV (kV k) u) (l:az kvs k=none) (h:∀ s',Inv X pins σ H s'->Q r s') :
  wpAny (model X.prog X.w) A (call (.builtin "dict.pop") [.ref a,u,r]) Q E s:=by
 obtain⟨z,hd,vs,rel,dd⟩:=jp I.hok e
 have hn:valueAt vs k=none:=RelO.none_of (by rw[<- l]; exact rel.val k)
 have hp:(keyPart u).isSome=true:=by
  cases k with
  | inl i=>obtain⟨t,q⟩:=(show ∃ t,u=Value.int i t from ry); subst q; rfl
  | inr x=>obtain⟨t,q⟩:=(show ∃ t,u=Value.str x t from ry); subst q; rfl
 exact call_meetsIn PySem.F.slot_dict_pop dd.typeIs PySem.F.entry_dict_pop (PySem.F.args_dict_pop_3 _ _ _) (meets_dict_pop_default (aD X.prog X.w) a (fm ry) hd hp r) ⟨vs,dd,hn,h _ (I.tok _)⟩
end
def ve (i:Expr):Prop:=∀ ov iv,subscripted i false ov iv=operate [ov,iv] (getItem ov iv)
theorem lG {prog:Program}{A:Around}{E:Value->Shared->Prop}{s:Shared}{env:Env}{value slice:Expr}{pos:Pos}{T id:String}
  (hl:typeLookup (.type T) "__getitem__" = pure (some (.builtin id))) (hs:ve slice)
  (h:wpAny (model prog w) A (eval value env) (fun o s₁=>wpAny (model prog w) A (eval slice env) (fun i s₂=>s₂.TypeIs o T/\wpAny (model prog w) A (getItem o i) Q E s₂) E s₁) E s) :
  wpAny (model prog w) A (eval (.Subscript value slice pos) env) Q E s:=by
 refine Subscript_ (wpAny_mono h (fun o s₁ h₁=>wpAny_mono h₁ (fun i s₂ h₂=>?_) fun _ _ x=>x) fun _ _ x=>x)
 obtain⟨hT,h₂⟩:=h₂
 unfold subscriptTail
 refine wpAny_bind ?_
 rw[getitemInPython_of_ne hT.not_modules]
 refine wpAny_bind (wpAny_specialOf hT hl ?_)
 have fin:wpAny (model prog w) A (subscripted slice false o i) (fun r s₃=>wpAny (model prog w) A (letTemporaryGo value o r >>= fun _=>pure r) Q E s₃) E s₂:=by
  rw[hs o i]
  exact wpAny_operating (wpAny_mono h₂ (fun r s₃ h₃=>wpAny_bind (wpAny_letTemporaryGo (wpAny_pure h₃))) fun _ _ x=>x)
 first
  | exact wpAny_pure (wpAny_bind fin)
  | exact wpAny_bind (wpAny_pure (wpAny_bind fin))
  | exact wpAny_bind fin
theorem kI {X:Cx}{pins:List (Addr×Obj)}{σ:St}{s:Shared}{a:Addr}{y:V}{o:Option V} (I:Inv X pins σ H s) (g:DGet H a y o):s.TypeIs (.ref a) "dict":=by
 rcases g with ⟨kvs,k,e,_,_⟩ | ⟨kvs,k,b,e,_,_,_⟩
 ·obtain⟨_,_,vs,_,dd⟩:=fZ I.hok e
  exact dd.typeIs
 ·obtain⟨_,_,xs,_,dd⟩:=fW I.hok e
  exact dd.typeIs
inductive TD_ (x y:V) (H:Hp) (Q:VK):Prop
 | mk (a:Addr) (v:V) (h1:x=.ref a) (h2:DGet H a y (some v)) (q:Q v H):TD_ x y H Q
def rS (td ty:TE):TE:=fun σ H Q=>td σ H fun x H1=>ty σ H1 fun y H2=>TD_ x y H2 Q
def tDIn (ty td:TE):TE:=fun σ H Q=>ty σ H fun y H1=>td σ H1 fun x H2=>∃ a o,x=.ref a/\DGet H2 a y o/\Q (.bl o.isSome) H2
def qD (ty td:TE):TE:=fun σ H Q=>ty σ H fun y H1=>td σ H1 fun x H2=>∃ a o,x=.ref a/\DGet H2 a y o/\Q (.bl (!o.isSome)) H2
def sDPut (td ty tv:TE):TS:=fun D σ H=>tv σ H fun v H1=>td σ H1 fun x H2=>ty σ H2 fun y H3=>∃ a H4,x=.ref a/\DPut H3 a y v H4/\D.nx σ H4
def sDDel (td ty:TE):TS:=fun D σ H=>td σ H fun x H1=>ty σ H1 fun y H2=>∃ a kvs k,x=.ref a/\H2 a=some (.dK kvs)/\y=kV k/\(az kvs k).isSome=true/\D.nx σ (upd H2 a (.dK (ar kvs k)))
section
variable {X:Cx}{o i e value:Expr}{pos pos' tpos:Pos}{td ty tv:TE}
theorem aq (hu:X.A.units+1<cLine) (ho:PE X o td) (hi:PE X i ty) (hs:ve i:=by exact fun _ _=>rfl):PE X (.Subscript o i pos) (rS td ty):=by
 intro pins s σ H Q I h
 refine lG PySem.F.slot_dict_getitem.lookup hs (thn (ho pins s σ H _ I h) fun u s1 ⟨x,H1,I1,rx,q1⟩=>thn (hi pins s1 σ H1 _ I1 q1) fun iv s2 ⟨y,H2,I2,ry,a,v,ex,g,q2⟩=>?_)
 subst ex
 obtain rfl:u=Value.ref a:=rx
 exact⟨kI I2 g,nQ hu I2 g ry fun w' s3 I3 rw'=>⟨v,H2,I3,rw',q2⟩⟩
theorem cU (hu:X.A.units+1<cLine) (hi:PE X i ty) (ho:PE X o td):PC X .In i o (tDIn ty td):=by
 intro pins s σ H Q I h
 refine thn (hi pins s σ H _ I h) fun iv s1 ⟨y,H1,I1,ry,q1⟩=>thn (ho pins s1 σ H1 _ I1 q1) fun u s2 ⟨x,H2,I2,rx,a,ov,ex,g,q2⟩=>?_
 subst ex
 obtain rfl:u=Value.ref a:=rx
 exact d_in hu I2 g ry fun s3 I3=>⟨.bl ov.isSome,H2,I3,U,q2⟩
theorem cv (hu:X.A.units+1<cLine) (hi:PE X i ty) (ho:PE X o td):PC X .NotIn i o (qD ty td):=by
 intro pins s σ H Q I h
 refine thn (hi pins s σ H _ I h) fun iv s1 ⟨y,H1,I1,ry,q1⟩=>thn (ho pins s1 σ H1 _ I1 q1) fun u s2 ⟨x,H2,I2,rx,a,ov,ex,g,q2⟩=>?_
 subst ex
 obtain rfl:u=Value.ref a:=rx
 exact mM hu I2 g ry fun s3 I3=>⟨.bl (!ov.isSome),H2,I3,U,q2⟩
theorem aJ (hu:X.A.units+1<cLine) (ho:PE X o td) (hi:PE X i ty) (hv:PE X value tv) (hs:swapsWith value (some (.Subscript o i pos')) pos.line X.env=pure false) :
  PS X (.Assign [.Subscript o i pos'] value pos) (sDPut td ty tv):=by
 intro pins s σ H D I h
 refine wpAny_Assign_Subscript (thn (hv pins s σ H _ I h) fun r s1 ⟨v,H1,I1,rv,q1⟩=>thn (ho pins s1 σ H1 _ I1 q1) fun u s2 ⟨x,H2,I2,rx,q2⟩=>thn (hi pins s2 σ H2 _ I2 q2) fun iv s3 ⟨y,H3,I3,ry,a,H4,ex,g,q3⟩=>?_) hs
 subst ex
 obtain rfl:u=Value.ref a:=rx
 exact nP hu I3 g ry rv fun s4 I4=>⟨σ,H4,I4,q3⟩
theorem lR (ho:PE X o td) (hi:PE X i ty):PS X (.Delete [.Subscript o i tpos] pos) (sDDel td ty):=by
 intro pins s σ H D I h
 refine wpAny_Delete (wpAny_deleteEach_cons (wpAny_delete_Subscript (thn (ho pins s σ H _ I h) fun u s1 ⟨x,H1,I1,rx,q1⟩=>thn (hi pins s1 σ H1 _ I1 q1) fun iv s2 ⟨y,H2,I2,ry,a,kvs,k,ex,e,ey,l,q2⟩=>?_)))
 subst ex ey
 obtain rfl:u=Value.ref a:=rx
 exact nR I2 e ry l fun s3 I3=>wpAny_deleteEach_nil ⟨σ,_,I3,q2⟩
end
theorem kH (h:Heap) (hb:sysModules<h.objs.size):ObjOk P w H (h.push { cls:=.type "dict",data:=.dict #[] }) h.objs.size (.dK []) :=
 ⟨Nat.zero_le _,beq_eq_false_iff_ne.mpr (Ne.symm (Nat.ne_of_lt hb)),[],.nil,Heap.DictOf.new h⟩
theorem qg (h:Heap) (hb:sysModules<h.objs.size):ObjOk P w H (h.push { cls:=.type "dict",data:=.dict #[] }) h.objs.size (.dT []) :=
 ⟨Nat.zero_le _,beq_eq_false_iff_ne.mpr (Ne.symm (Nat.ne_of_lt hb)),[],.nil,_,#[],0,Heap.get?_push_size _ rfl,⟨U,U,U⟩,U,U,List.nodup_nil⟩
def tJ:TE:=fun _ H Q=>∀ p,H p=none->Q (.ref p) (upd H p (.dK []))
def tH:TE:=fun _ H Q=>∀ p,H p=none->Q (.ref p) (upd H p (.dT []))
section
variable {X:Cx}{pos:Pos}
theorem dQ:PE X (.Dict [] [] pos) tJ:=fun pins s σ H Q I h=>
 wpAny_Dict_empty ⟨.ref s.heap.objs.size,_,I.laid (a:=s.heap.objs.size) (o:=.dK []) (t':=s.toks) (fun _ _ q=>Heap.get?_push_of_some _ q) (Nat.le_refl _) (kH s.heap I.big),U,h _ (I.hok.fresh (Nat.le_refl _))⟩
theorem kj:PE X (.Dict [] [] pos) tH:=fun pins s σ H Q I h=>
 wpAny_Dict_empty ⟨.ref s.heap.objs.size,_,I.laid (a:=s.heap.objs.size) (o:=.dT []) (t':=s.toks) (fun _ _ q=>Heap.get?_push_of_some _ q) (Nat.le_refl _) (qg s.heap I.big),U,h _ (I.hok.fresh (Nat.le_refl _))⟩
end
def kX : List (TE×TE)->St->Hp->(List (V×V)->Hp->Prop)->Prop
  | [], _, H, Q=>Q [] H
  | (tk, tv) :: r, σ, H, Q => tk σ H fun x H1 => tv σ H1 fun y H2 => kX r σ H2 fun ps H3 => Q ((x, y) :: ps) H3
abbrev VV:List (V×V)->List (Value×Value)->Prop:=Paired fun p q=>RelV p.1 q.1/\RelV p.2 q.2
def PPs (X:Cx) (pos:Pos) (keys:List (Option Expr)) (values:List Expr) (trs:List (TE×TE)):Prop :=
 ∀ (pins:List (Addr×Obj)) (s:Shared) (σ:St) (H:Hp) (Q:List (V×V)->Hp->Prop),Inv X pins σ H s->kX trs σ H Q ->
  wpAny (model X.prog X.w) X.A (evalPairs (pairTrees keys values X.env pos)) (fun vs s'=>∃ ps H',Inv X pins σ H' s'/\VV ps vs/\Q ps H') X.xe s
theorem qN {X:Cx}{pos:Pos}:PPs X pos [] [] []:=fun pins s σ H Q I h=>pairTrees_nil_walk ⟨[],H,I,.nil,h⟩
theorem eM {X:Cx}{pos:Pos}{k v:Expr}{ks:List (Option Expr)}{vs:List Expr}{tk tv:TE}{trs:List (TE×TE)} (hk:PE X k tk) (hv:PE X v tv) (hr:PPs X pos ks vs trs) :
  PPs X pos (some k::ks) (v::vs) ((tk,tv)::trs):=fun pins s σ H Q I h=>
 pairTrees_cons_walk (thn (hk pins s σ H _ I h) fun u s1 ⟨x,H1,I1,rx,q1⟩=>thn (hv pins s1 σ H1 _ I1 q1) fun w2 s2 ⟨y,H2,I2,ry,q2⟩=>
  thn (hr pins s2 σ H2 _ I2 q2) fun ws s3 ⟨ps,H3,I3,rel,q3⟩=>⟨(x,y)::ps,H3,I3,.cons ⟨rx,ry⟩ rel,q3⟩)
def gw (kvs more:List (Key×V)):List (Key×V):=more.foldl (fun acc kv=>aG acc kv.1 kv.2) kvs
theorem KV.merge:∀ {more:List (Key×V)}{rs:List (Key×Value)}{kvs:List (Key×V)}{vs:List (Key×Value)},KV more rs->KV kvs vs->KV (gw kvs more) (merged vs rs):=by
 intro more rs kvs vs r
 unfold KV at r
 induction r generalizing kvs vs with
 | nil=>intro q; exact q
 | @cons p q ps qs h t ih=>
  intro r0
  have e:KV (aG kvs p.1 p.2) (stored vs q.1 q.2):=by
   have:=r0.put p.1 h.2
   rw[<- h.1]; exact this
  exact ih e
theorem fk:∀ (more kvs:List (Key×V)),(gw kvs more).length<=kvs.length+more.length
 | [],kvs=>by show kvs.length<=kvs.length+0; omega
 | p::r,kvs=>by
  have h1:=fk r (aG kvs p.1 p.2)
  have h2:=bF kvs p.1 p.2
  show(gw (aG kvs p.1 p.2) r).length<=_
  rw[wQ]; omega
theorem iP {P:Program}{w:World}:∀ {kvs:List (Key×V)}{ws:List (Value×Value)},VV (kvs.map fun kv=>(kV kv.1,kv.2)) ws->∃ rs,Carries (aD P w) ws rs/\KV kvs rs
 | [],_,r=>by rw[List.map_nil] at r; cases r; exact⟨[],True.intro,.nil⟩
 | p::kvs,_,r=>by
  rw[wN] at r
  cases r with
  | @cons a b as bs h t=>
   obtain⟨rs,c,q⟩:=iP (P:=P) (w:=w) t
   obtain⟨b1,b2⟩:=b
   exact⟨(p.1,b2)::rs,⟨fm h.1,U,c⟩,.cons ⟨U,h.2⟩ q⟩
def tDisp (trs:List (TE×TE)):TE:=fun σ H Q=>∀ p,H p=none->kX trs σ (upd H p (.dK [])) fun ps H2=>H2 p=some (.dK [])/\∃ kvs:List (Key×V),ps=kvs.map (fun kv=>(kV kv.1,kv.2))/\kvs.length<=15/\Q (.ref p) (upd H2 p (.dK (gw [] kvs)))
theorem qP {X:Cx}{pos:Pos}{keys:List (Option Expr)}{values:List Expr}{trs:List (TE×TE)} (h:PPs X pos keys values trs) (hall:keys.all (·.isSome)=true) (hl:keys.length=values.length) (h0:keys≠[])
  (h15:keys.length<=15):PE X (.Dict keys values pos) (tDisp trs):=by
 intro pins s σ H Q I q
 have hn:=I.hok.fresh (Nat.le_refl s.heap.objs.size)
 have I1:=I.laid (a:=s.heap.objs.size) (o:=.dK []) (h':=s.heap.push { cls:=.type "dict",data:=.dict #[] }) (t':=s.toks) (fun _ _ q=>Heap.get?_push_of_some _ q) (Nat.le_refl _) (kH s.heap I.big)
 refine wpAny_Dict_walk (knd:=aD X.prog X.w) hall hl h0 h15 (thn (h pins _ σ _ _ I1 (q _ hn)) fun ws s2 ⟨ps,H2,I2,rel,e,kvs,ep,lk,q2⟩=>?_)
 subst ep
 obtain⟨rs,c,rk⟩:=iP (P:=X.prog) (w:=X.w) rel
 obtain⟨z,hd,vs0,r0,dd⟩:=jp I2.hok e
 cases r0
 refine⟨rs,c,dd,fun h' dd' hs=>⟨.ref s.heap.objs.size,_,?_,U,q2⟩⟩
 have hz:(gw [] kvs).length<=sizeLine:=by
  have h1:=fk kvs []
  rw[List.length_nil] at h1
  rw[sizeLine_eq]; omega
 have he:∃ q,h'.get? s.heap.objs.size=some q:=let ⟨q,_,_,hq,_⟩:=dd'; ⟨q,hq⟩
 exact dB I2 (by rw[e]; exact True.intro) hs he (iL hz hd (rk.merge .nil) dd')
structure M1 (X:Cx) (o:Expr) (m:Str) (apos:Pos) (e:Expr) (cpos:Pos):Prop where
 base:attributeBase o m X.env (eval o X.env)=eval o X.env
 few:((backTo cpos (starEach [e] X.env)).all (fun x=>!x.1) && (backToKw cpos (keywordEach [] X.env)).all (fun x=>x.1.isSome)
  && decide (([e]:List Expr).length+([]:List Keyword).length+(if ([]:List Keyword).isEmpty then 0 else 1)<30))=true
 line:(apos.endLine == cpos.line)=true
 trees:backTo cpos (starEach [e] X.env)=[(false,eval e X.env)]
structure M2 (X:Cx) (o:Expr) (m:Str) (apos:Pos) (e f:Expr) (cpos:Pos):Prop where
 base:attributeBase o m X.env (eval o X.env)=eval o X.env
 few:((backTo cpos (starEach [e,f] X.env)).all (fun x=>!x.1) && (backToKw cpos (keywordEach [] X.env)).all (fun x=>x.1.isSome)
  && decide (([e,f]:List Expr).length+([]:List Keyword).length+(if ([]:List Keyword).isEmpty then 0 else 1)<30))=true
 line:(apos.endLine == cpos.line)=true
 trees:backTo cpos (starEach [e,f] X.env)=[(false,eval e X.env),(false,eval f X.env)]
def IsD (H:Hp) (a:Addr):Prop:=(∃ kvs,Rd H a (.dK kvs))∨∃ kvs,Rd H a (.dT kvs)
theorem jP {X:Cx}{pins:List (Addr×Obj)}{σ:St}{s:Shared}{a:Addr} (I:Inv X pins σ H s) (d:IsD H a) :
  s.TypeIs (.ref a) "dict" /\ (∀ b,Value.ref a=.ref b->∃ ob,s.heap.get? b=some ob/\ob.dict=none)/\(a == sysModules)=false:=by
 rcases d with ⟨kvs,e⟩ | ⟨kvs,e⟩
 ·obtain⟨_,hd,vs,_,dd⟩:=fZ I.hok e
  refine⟨dd.typeIs,fun b q=>?_,hd⟩
  cases q
  obtain⟨ob,_,_,h1,h2,_⟩:=dd
  exact⟨ob,h1,h2.2.1⟩
 ·obtain⟨_,hd,xs,_,dd⟩:=fW I.hok e
  refine⟨dd.typeIs,fun b q=>?_,hd⟩
  cases q
  obtain⟨ob,_,_,h1,h2,_⟩:=dd
  exact⟨ob,h1,h2.2.1⟩
section
variable {X:Cx}{pins:List (Addr×Obj)}{σ:St}{H:Hp}{s:Shared}{a:Addr}{y d:V}{u r:Value}{o:Option V}{A:Around}{E:Value->Shared->Prop}
theorem uX (hu:A.units+1<cLine) (I:Inv X pins σ H s) (g:DGet H a y o) (ry:RelV y u) (h:∀ w' s',Inv X pins σ H s'->RelV (o.getD .non) w'->Q w' s') :
  wpAny (model X.prog X.w) A (call (.builtin "dict.get") [.ref a,u]) Q E s:=by
 rcases g with ⟨kvs,k,e,ey,l⟩ | ⟨kvs,k,b,e,ey,eb,l⟩
 ·subst ey
  obtain⟨z,hd,vs,rel,dd⟩:=fZ I.hok e
  refine call_meetsIn PySem.F.slot_dict_get dd.typeIs PySem.F.entry_dict_get (PySem.F.args_dict_get_2 _ _) (meets_dict_get (aD X.prog X.w) a (fm ry) hd) ⟨_,dd.mapOf,h _ _ (I.tok _) ?_⟩
  rw[l]
  exact(rel.val k).getD rfl
 ·subst ey
  cases (show u=Value.ref b from ry)
  obtain⟨z,hd,xs,rel,dd⟩:=fW I.hok e
  refine call_meetsIn PySem.F.slot_dict_get dd.typeIs PySem.F.entry_dict_get (PySem.F.args_dict_get_2 _ _) (meetsH_dict_get (tupleKind (aD X.prog X.w)) a b hd) ⟨tupleKind_room_in1 hu,k,xs,dF I.hok eb,dd,h _ _ (I.tok _) ?_⟩
  rw[l]
  exact(rel.val k).getD rfl
end
def tL (td ty:TE):TE:=fun σ H Q=>td σ H fun x H1=>∃ a,x=.ref a/\IsD H1 a/\ty σ H1 fun y H2=>∃ o,DGet H2 a y o/\Q (o.getD .non) H2
def tG (td ty:TE):TE:=fun σ H Q=>td σ H fun x H1=>∃ a,x=.ref a/\IsD H1 a/\ty σ H1 fun y H2=>∃ kvs k v,H2 a=some (.dK kvs)/\y=kV k/\az kvs k=some v/\Q v (upd H2 a (.dK (ar kvs k)))
def tF (td ty tx:TE):TE:=fun σ H Q=>td σ H fun x H1=>∃ a,x=.ref a/\IsD H1 a/\ty σ H1 fun y H2=>tx σ H2 fun z H3=>∃ kvs k,H3 a=some (.dK kvs)/\y=kV k /\
 (∀ v,az kvs k=some v->Q v (upd H3 a (.dK (ar kvs k))))/\(az kvs k=none->Q z H3)
section
variable {X:Cx}{o e f:Expr}{apos cpos:Pos}{td ty tx:TE}
theorem ic (hu:X.A.units+1<cLine) (ho:PE X o td) (he:PE X e ty) (m:M1 X o "get" apos e cpos):PE X (.Call (.Attribute o "get" apos) [e] [] cpos) (tL td ty):=by
 intro pins s σ H Q I h
 refine wpAny_Call_method m.base m.few m.line PySem.F.plainAttrs_dict PySem.F.slot_dict_get PySem.F.type_dict_get (thn (ho pins s σ H _ I h) fun u s1 ⟨x,H1,I1,rx,a,ex,d,q1⟩=>?_)
 subst ex
 obtain rfl:u=Value.ref a:=rx
 obtain⟨t1,t2,_⟩:=jP I1 d
 refine⟨t1,t2,?_⟩
 rw[m.trees]
 refine Calls.callWith_builtin rfl (Calls.evalArgs_plain (Calls.spliced_cons (thn (he pins s1 σ H1 _ I1 q1) fun iv s2 ⟨y,H2,I2,ry,ov,g,q2⟩=>Calls.spliced_nil ?_)))
 exact uX hu I2 g ry fun w' s3 I3 rw'=>⟨_,H2,I3,rw',q2⟩
theorem o9 (ho:PE X o td) (he:PE X e ty) (m:M1 X o "pop" apos e cpos):PE X (.Call (.Attribute o "pop" apos) [e] [] cpos) (tG td ty):=by
 intro pins s σ H Q I h
 refine wpAny_Call_method m.base m.few m.line PySem.F.plainAttrs_dict PySem.F.slot_dict_pop PySem.F.type_dict_pop (thn (ho pins s σ H _ I h) fun u s1 ⟨x,H1,I1,rx,a,ex,d,q1⟩=>?_)
 subst ex
 obtain rfl:u=Value.ref a:=rx
 obtain⟨t1,t2,_⟩:=jP I1 d
 refine⟨t1,t2,?_⟩
 rw[m.trees]
 refine Calls.callWith_builtin rfl (Calls.evalArgs_plain (Calls.spliced_cons (thn (he pins s1 σ H1 _ I1 q1) fun iv s2 ⟨y,H2,I2,ry,kvs,k,v,ea,ey,l,q2⟩=>Calls.spliced_nil ?_)))
 subst ey
 exact sU I2 ea ry l (.inl rfl) fun w' s3 I3 rw'=>⟨v,_,I3,rw',q2⟩
theorem dP (ho:PE X o td) (he:PE X e ty) (hf:PE X f tx) (m:M2 X o "pop" apos e f cpos):PE X (.Call (.Attribute o "pop" apos) [e,f] [] cpos) (tF td ty tx):=by
 intro pins s σ H Q I h
 refine wpAny_Call_method m.base m.few m.line PySem.F.plainAttrs_dict PySem.F.slot_dict_pop PySem.F.type_dict_pop (thn (ho pins s σ H _ I h) fun u s1 ⟨x,H1,I1,rx,a,ex,d,q1⟩=>?_)
 subst ex
 obtain rfl:u=Value.ref a:=rx
 obtain⟨t1,t2,_⟩:=jP I1 d
 refine⟨t1,t2,?_⟩
 rw[m.trees]
 refine Calls.callWith_builtin rfl (Calls.evalArgs_plain (Calls.spliced_cons (thn (he pins s1 σ H1 _ I1 q1) fun iv s2 ⟨y,H2,I2,ry,q2⟩=>
  Calls.spliced_cons (thn (hf pins s2 σ H2 _ I2 q2) fun fv s3 ⟨z,H3,I3,rz,kvs,k,ea,ey,q3,q4⟩=>Calls.spliced_nil ?_))))
 subst ey
 cases l:az kvs k with
 | some v=>exact sU I3 ea ry l (.inr ⟨fv,U⟩) fun w' s4 I4 rw'=>⟨v,_,I4,rw',q3 v l⟩
 | none=>exact uW I3 ea ry l fun s4 I4=>⟨z,H3,I4,rz,q4 l⟩
end
section
variable {X:Cx}{pins:List (Addr×Obj)}{σ:St}{H:Hp}{s:Shared}{a:Addr}{kvs:List (Key×V)}{A:Around}{E:Value->Shared->Prop}
theorem ql (I:Inv X pins σ H s) (e:Rd H a (.dK kvs)) (h:∀ p s',H p=none->Inv X pins σ (upd H p (.dK kvs)) s'->Q (.ref p) s'):wpAny (model X.prog X.w) A (call (.type "dict") [.ref a]) Q E s:=by
 obtain⟨z,hd,vs,rel,dd⟩:=fZ I.hok e
 refine kt_call_dict hd dd (by rw[<- rel.length]; exact z) fun h' dd' hs=>?_
 refine h _ _ (I.hok.fresh (Nat.le_refl _)) (I.laid (a:=s.heap.objs.size) (o:=.dK kvs) (t':=s.toks) (fun b q hq=>?_) (Nat.le_refl _) (iL z (beq_eq_false_iff_ne.mpr (Ne.symm (Nat.ne_of_lt I.big))) rel dd'))
 exact(hs.2 b (Nat.ne_of_lt (Heap.lt_size hq))).trans (Heap.get?_push_of_some _ hq)
end
end L2
namespace HT
open PySem PyProof.Rows
section
open PySem.SeqAt
open PySem.AutoSeq1 (wpAny_loadPart')
open PySem.MeetsSeq PySem.MeetsSeq2 PySem.MeetsSeq3
end
section
variable {prog:Program}{w:World}{A:Around}{E:Value->Shared->Prop}{s:Shared}
def sIx (n d:Nat):Option Int->Nat
 | none=>d
 | some v=>if v<0 then(v+(n:Int)).toNat else min v.toNat n
end
end HT
namespace L2
open PySem PySem.Spec PyProof.Rows
abbrev TO:=St->Hp->(Option Int->Hp->Prop)->Prop
def PO (X:Cx) (e:Option Expr) (t:TO):Prop :=
 ∀ (pins:List (Addr×Obj)) (s:Shared) (σ:St) (H:Hp) (Q:Option Int->Hp->Prop),Inv X pins σ H s->t σ H Q ->
  wpAny (model X.prog X.w) X.A (evalPart e X.env) (fun u s'=>∃ o H',Inv X pins σ H' s'/\IsPart u o/\Q o H') X.xe s
def qC:TO:=fun _ H Q=>Q none H
def tPart (t:TE):TO:=fun σ H Q=>t σ H fun x H1=>∃ i,x=.int i/\Q (some i) H1
section
variable {X:Cx}{e:Expr}{te:TE}{lo hi:Option Expr}{tl th:TO}{pos p2:Pos}
theorem jF:PO X none qC:=by
 intro pins s σ H Q I h
 rw[evalPart_none]
 exact wpAny_pure ⟨none,H,I,.none,h⟩
theorem jE (h:PE X e te):PO X (some e) (tPart te):=by
 intro pins s σ H Q I hw
 rw[evalPart_some]
 refine thn (h pins s σ H _ I hw) fun u s1 ⟨x,H1,I1,r1,q1⟩=>?_
 obtain⟨i,rfl,q⟩:=q1
 obtain⟨t,rfl⟩:=r1
 exact⟨some i,H1,I1,.int i t,q⟩
def SlR (X:Cx) (r:V->Option Int->Option Int->Hp->VK->Prop):Prop :=
 ∀ (pins:List (Addr×Obj)) (s:Shared) (σ:St) (H:Hp) (x:V) (v vl vu:Value) (lo hi:Option Int) (sl:Addr) (Q:VK),Inv X pins σ H s->RelV x v->s.heap.IsSliceOf sl vl vu .none->IsPart vl lo->IsPart vu hi->r x lo hi H Q ->
  ∃ T id,typeLookup (.type T) "__getitem__" = pure (some (.builtin id))/\s.TypeIs v T/\wpAny (model X.prog X.w) X.A (getItem v (.ref sl)) (EP X pins σ Q) X.xe s
def tSl (r:V->Option Int->Option Int->Hp->VK->Prop) (te:TE) (tl th:TO):TE:=fun σ H Q=>te σ H fun x H1=>tl σ H1 fun l H2=>th σ H2 fun u H3=>r x l u H3 Q
theorem hZ {r:V->Option Int->Option Int->Hp->VK->Prop} (hr:SlR X r) (he:PE X e te) (hl:PO X lo tl) (hu:PO X hi th):PE X (.Subscript e (.Slice lo hi none p2) pos) (tSl r te tl th):=by
 intro pins s σ H Q I h
 refine Subscript_ (thn (he pins s σ H _ I h) fun v s1 ⟨x,H1,I1,r1,q1⟩=>?_)
 refine wpAny_Slice (thn (hl pins s1 σ H1 _ I1 q1) fun vl s2 ⟨l,H2,I2,pl,q2⟩=>thn (hu pins s2 σ H2 _ I2 q2) fun vu s3 ⟨u,H3,I3,pu,q3⟩=>?_)
 rw[evalPart_none]
 refine wpAny_pure ?_
 have I4:Inv X pins σ H3 { s3 with heap:=s3.heap.push { cls:=.type "slice",data:=.fields #[vl,vu,.none] } }:=I3.kept (t':=s3.toks) fun b ob q=>Heap.get?_push_of_some _ q
 obtain⟨T,id,hT,ht,hg⟩:=hr pins { s3 with heap:=s3.heap.push { cls:=.type "slice",data:=.fields #[vl,vu,.none] } } σ H3 x v vl vu l u s3.heap.objs.size Q I4 r1 (Heap.IsSliceOf.new ..) pl pu q3
 show wpAny (model X.prog X.w) X.A (subscriptTail e (.Slice lo hi none p2) v (.ref s3.heap.objs.size)) (EP X pins σ Q) X.xe { s3 with heap:=s3.heap.push { cls:=.type "slice",data:=.fields #[vl,vu,.none] } }
 exact tail_any (ops:=[.ref s3.heap.objs.size,v]) ht hT hg (by with_unfolding_all rfl)
def f7 (xs:List V) (lo hi:Option Int):List V:=(xs.drop (HT.sIx xs.length 0 lo)).take (HT.sIx xs.length xs.length hi - HT.sIx xs.length 0 lo)
theorem kK (xs:List V) (lo hi:Option Int):(f7 xs lo hi).length<=xs.length:=by
 unfold f7
 rw[wV,List.length_drop]
 omega
end
def ixN (n:Nat) (i:Int):Option Nat:=if 0<=i then(if i<n then some i.toNat else none) else if -(n:Int)<=i then some (i+n).toNat else none
def atI {α:Type} (xs:List α) (i:Int):Option α:=(ixN xs.length i).bind fun j=>xs[j]?
theorem mB {n:Nat}{i:Int}{j:Nat} (h:ixN n i=some j):seqIndex? i n=some j/\j<n/\-(n:Int)<=i/\i<n:=by
 unfold ixN at h
 by_cases h0:0<=i
 ·rw[if_pos h0] at h
  by_cases h1:i<n
  ·rw[if_pos h1] at h
   have e:i.toNat=j:=Option.some.inj h
   exact⟨by rw[seqIndex_of h0 h1,e],by omega,by omega,h1⟩
  ·rw[if_neg h1] at h; cases h
 ·rw[if_neg h0] at h
  by_cases h1:-(n:Int)<=i
  ·rw[if_pos h1] at h
   have e:(i+n).toNat=j:=Option.some.inj h
   exact⟨by rw[seqIndex_neg (by omega) h1,e],by omega,h1,by omega⟩
  ·rw[if_neg h1] at h; cases h
theorem mV {α:Type}{xs:List α}{i:Int}{v:α} (h:atI xs i=some v):∃ j,seqIndex? i xs.length=some j/\xs[j]?=some v/\j<xs.length/\-(xs.length:Int)<=i/\i<xs.length:=by
 unfold atI at h
 cases e:ixN xs.length i with
 | none=>rw[e] at h; cases h
 | some j=>
  rw[e] at h
  obtain⟨h1,h2,h3,h4⟩:=mB e
  exact⟨j,h1,h,h2,h3,h4⟩
theorem bh {α:Type}{xs:List α}{j:Nat}{v:α} (h:xs[j]?=some v):atI xs (j:Int)=some v:=by
 have hj:j<xs.length:=(List.getElem?_eq_some_iff.mp h).1
 have e:ixN xs.length (j:Int)=some j:=by
  unfold ixN
  rw[if_pos (by omega),if_pos (by omega)]; simp
 unfold atI; rw[e]; exact h
def rK (b:Expr):Prop:=∀ o i,subscripted b false o i=operate [o,i] (getItem o i)
def IxR (X:Cx) (r:R2):Prop :=
 ∀ (value slice:Expr) (pins:List (Addr×Obj)) (s:Shared) (σ:St) (H:Hp) (x y:V) (v u:Value) (Q:VK),Inv X pins σ H s->RelV x v->RelV y u->r x y H Q ->
  subscripted slice false v u=operate [v,u] (getItem v u)->wpAny (model X.prog X.w) X.A (subscriptTail value slice v u) (EP X pins σ Q) X.xe s
def MtR (X:Cx) (id:String) (r:V->List V->Hp->VK->Prop):Prop :=
 ∀ (pins:List (Addr×Obj)) (s:Shared) (σ:St) (H:Hp) (x:V) (xs:List V) (v:Value) (us:List Value) (Q:VK),Inv X pins σ H s->RelV x v->Vals xs us->r x xs H Q ->
  wpAny (model X.prog X.w) X.A (call (.builtin id) (v::us)) (EP X pins σ Q) X.xe s
section
variable {X:Cx}{a b:Expr}{ta tb:TE}{pos:Pos}
theorem aR {r:R2} (hr:IxR X r) (ha:PE X a ta) (hb:PE X b tb) (hs:rK b:=by exact fun _ _=>rfl):PE X (.Subscript a b pos) (tOp r ta tb):=by
 intro pins s σ H Q I h
 exact Subscript_ (uZ ha hb I h fun v u s2 x y H2 I2 rx ry q=>hr a b pins s2 σ H2 x y v u Q I2 rx ry q (hs _ _))
inductive RL_ (K:PySem.W.Frag) (x y:V) (H:Hp) (Q:VK):Prop
 | mk (p:Addr) (xs:List V) (i:Int) (v:V) (h1:x=.ref p) (h2:y=.int i) (h3:SqL K H p xs) (h4:atI xs i=some v) (q:Q v H):RL_ K x y H Q
def wa (K:PySem.W.Frag):R2:=fun x y H Q=>RL_ K x y H Q
inductive RT_ (K:PySem.W.Frag) (x y:V) (H:Hp) (Q:VK):Prop
 | mk (p:Addr) (xs:List V) (i:Int) (v:V) (h1:x=.ref p) (h2:y=.int i) (h3:SqT K H p xs) (h4:atI xs i=some v) (q:Q v H):RT_ K x y H Q
def rIxT (K:PySem.W.Frag):R2:=fun x y H Q=>RT_ K x y H Q
theorem bc:IxR X (wa X.K):=by
 intro value slice pins s σ H x y v u Q I rx ry h hs
 obtain⟨p,xs,i,z,rfl,rfl,hq,he,q⟩:=h
 cases rx
 obtain⟨t,rfl⟩:=ry
 obtain⟨its,r,pl,hz⟩:=I.list hq
 obtain⟨j,h1,h2,h3,h4,h5⟩:=mV he
 obtain⟨w,ew,rw'⟩:=r.get h2
 have hl:=r.length
 have hn:=jN
 have fin:EP X pins σ Q w s:=⟨z,H,I,rw',q⟩
 by_cases h0:0<=i
 ·have hj:i.toNat=j:=by
   rw[seqIndex_of h0 h5] at h1
   exact Option.some.inj h1
  exact item_listR pl.isList h0 (by omega) (by rw[hj]; simpa using ew) fin hs
 ·have hj:(i+(its.toArray.size:Int)).toNat=j:=by
   rw[seqIndex_neg (by omega) h4] at h1
   rw[wO,<- hl]
   exact Option.some.inj h1
  exact subscriptTail_builtinR (x:=w) pl.isList.typeIs slot_list_getitem.lookup
   (wpAny_getItem_list_neg (Q:=fun r s'=>r=w/\EP X pins σ Q r s') pl.isList (by omega) (by rw[wO] <;> omega) (by omega) (by rw[hj]; simpa using ew) ⟨U,fin⟩) hs
theorem bn:IxR X (rIxT X.K):=by
 intro value slice pins s σ H x y v u Q I rx ry h hs
 obtain⟨p,xs,i,z,rfl,rfl,hq,he,q⟩:=h
 cases rx
 obtain⟨t,rfl⟩:=ry
 obtain⟨its,r,pl,hz⟩:=I.tuple hq
 obtain⟨j,h1,h2,h3,h4,h5⟩:=mV he
 obtain⟨w,ew,rw'⟩:=r.get h2
 have hl:=r.length
 have hn:=jN
 have fin:EP X pins σ Q w s:=⟨z,H,I,rw',q⟩
 exact subscriptTail_builtinR (x:=w) pl.typeIs slot_tuple_getitem.lookup
  (getItem_tuple (j:=j) (Q:=fun r s'=>r=w/\EP X pins σ Q r s') pl (by omega) (by omega) (by rw[wO,<- hl]; exact h1) (by simpa using ew) ⟨U,fin⟩) hs
theorem lh (its:List Value) (n j:Nat) (u:Value):Obj.mapSeq (·.setIfInBounds j u) { cls:=.type "list",data:=.seq its.toArray n }={ cls:=.type "list",data:=.seq (its.set j u).toArray n }:=by
 simp[Obj.mapSeq]
theorem Inv.lst {pins:List (Addr×Obj)}{σ:St}{H:Hp}{s:Shared}{p:Addr}{xs:List V} (I:Inv X pins σ H s) (h:H p=some (.lst xs)) :
  ∃ (its:List Value) (n:Nat),Vals xs its/\s.heap.get? p=some { cls:=.type "list",data:=.seq its.toArray n }/\xs.length<=sizeLine:=by
 obtain⟨z,its,n,r,e⟩:=I.hok p _ h
 exact⟨its,n,r,e,z⟩
theorem Inv.lstUpd {pins:List (Addr×Obj)}{σ:St}{H:Hp}{s:Shared}{p:Addr}{xs ys:List V}{its its':List Value}{n n':Nat}{f:Obj->Obj} (I:Inv X pins σ H s) (h:H p=some (.lst xs))
  (ho:s.heap.get? p=some { cls:=.type "list",data:=.seq its.toArray n }) (hf:f { cls:=.type "list",data:=.seq its.toArray n }={ cls:=.type "list",data:=.seq its'.toArray n' }) (r:Vals ys its') (hz:ys.length<=sizeLine) (t:Nat) :
  Inv X pins σ (upd H p (.lst ys)) { s with heap:=s.heap.update p f,toks:=t }:=by
 have e:(s.heap.update p f).get? p=some { cls:=.type "list",data:=.seq its'.toArray n' }:=by
  rw[Heap.get?_update_self f ho (by rw[hf] <;> rfl),hf]
 refine I.write (x:=p) (e:=p) (by rw[h]; trivial) (.inl rfl) (fun b u hb q=>(Heap.get?_update_other _ _ (Ne.symm hb)).trans q) ⟨_,e⟩ ?_
 exact⟨hz,its',n',r,e⟩
def rSetL:V->V->V->Hp->(Hp->Prop)->Prop:=fun o i v H Q=>∃ p xs k j,o=.ref p/\i=.int k/\H p=some (.lst xs)/\ixN xs.length k=some j/\Q (upd H p (.lst (xs.set j v)))
theorem dN:wA X rSetL:=by
 intro pins s σ H o i v ov iv u Q I ro ri rv h
 obtain⟨p,xs,k,j,rfl,rfl,hp,hj,q⟩:=h
 cases ro
 obtain⟨t,rfl⟩:=ri
 obtain⟨its,n,r,ho,hz⟩:=I.lst hp
 obtain⟨h1,h2,h3,h4⟩:=mB hj
 have hl:=r.length
 have hn:=jN
 have I':Inv X pins σ (upd H p (.lst (xs.set j v))) { s with heap:=s.heap.update p (Obj.mapSeq (·.setIfInBounds j u)) } :=
  I.lstUpd hp ho (lh its n j u) (r.set rv j) (by rw[List.length_set]; exact hz) s.toks
 by_cases h0:0<=k
 ·have hk:k.toNat=j:=by
   rw[seqIndex_of h0 h4] at h1
   exact Option.some.inj h1
  exact PySem.W.ki_setAt ho h0 (by omega) (by rw[wO,<- hl]; exact h4) (by rw[hk]; exact⟨_,I',q⟩)
 ·have hk:(k+(its.toArray.size:Int)).toNat=j:=by
   rw[seqIndex_neg (by omega) h3] at h1
   rw[wO,<- hl]
   exact Option.some.inj h1
  exact PySem.W.ki_setBack ho (by omega) (by rw[wO,<- hl]; exact h3) (by omega) (by rw[hk]; exact⟨_,I',q⟩)
theorem jy (lo hi:Option Int) (n:Nat):(sliceBounds lo hi none n).1=((HT.sIx n 0 lo:Nat):Int)/\(sliceBounds lo hi none n).2.1=((HT.sIx n n hi:Nat):Int)/\(sliceBounds lo hi none n).2.2=1:=by
 refine⟨?_,?_,U⟩
 ·cases lo with
  | none=>simp[sliceBounds,HT.sIx]
  | some i=>
   simp only[sliceBounds,HT.sIx,Option.getD_none,show(1:Int) > 0 by decide,if_true]
   by_cases h:i<0
   ·simp only[h,if_true] <;> omega
   ·simp only[h,if_false] <;> omega
 ·cases hi with
  | none=>simp[sliceBounds,HT.sIx]
  | some i=>
   simp only[sliceBounds,HT.sIx,Option.getD_none,show(1:Int) > 0 by decide,if_true]
   by_cases h:i<0
   ·simp only[h,if_true] <;> omega
   ·simp only[h,if_false] <;> omega
theorem iV (its:List Value) (lo hi:Option Int):slicePick its.toArray lo hi none=((its.drop (HT.sIx its.length 0 lo)).take (HT.sIx its.length its.length hi - HT.sIx its.length 0 lo)).toArray:=by
 obtain⟨h1,h2,h3⟩:=jy lo hi its.toArray.size
 unfold slicePick
 rw[h1,h2,h3]
 simp only[sliceRange_one,pick_run,wO] <;> rfl
def rSlL (K:PySem.W.Frag):V->Option Int->Option Int->Hp->VK->Prop:=fun x lo hi H Q=>∃ a xs,x=.ref a/\SqL K H a xs/\∀ p,H p=none->Q (.ref p) (upd H p (.lst (f7 xs lo hi)))
theorem jA:SlR X (rSlL X.K):=by
 intro pins s σ H x v vl vu lo hi sl Q I rx hs pl pu h
 obtain⟨a,xs,rfl,hx,q⟩:=h
 cases rx
 obtain⟨its,r,ht,hz⟩:=I.list hx
 have hlen:=r.length
 refine⟨"list",_,slot_list_getitem.lookup,ht.isList.typeIs,?_⟩
 refine wpAny_getItem_list_slice ht.isList hs pl pu .none (by simp) ?_ (by rw[wO] <;> omega)
 rw[iV,<- hlen]
 refine⟨.ref s.heap.objs.size,_,I.laid (t':=s.toks) (o:=.lst (f7 xs lo hi)) (fun b ob q=>Heap.get?_push_of_some _ q) (Nat.le_refl _) ?_,U,q _ (I.hok.fresh (Nat.le_refl _))⟩
 exact⟨Nat.le_trans (kK xs lo hi) hz,_,0,(r.drop (HT.sIx xs.length 0 lo)).take (HT.sIx xs.length xs.length hi - HT.sIx xs.length 0 lo),Heap.get?_push_size _ rfl⟩
def gN:V->Bool
 | .non=>true
 | .bl _=>true
 | .int _=>true
 | .str _=>true
 | _=>false
def eqV:V->V->Bool
 | .non,.non=>true
 | .bl a,.bl b=>a == b
 | .bl a,.int b=>(if a then 1 else 0) == b
 | .int a,.bl b=>a == (if b then 1 else 0)
 | .int a,.int b=>a == b
 | .str a,.str b=>a == b
 | _,_=>false
theorem uU {A:Around}{s:Shared}{y x:V}{u v:Value} (ry:RelV y u) (rx:RelV x v) (fy:gN y=true) (fx:gN x=true):SeqAt.EqAt A s u v (eqV y x):=by
 cases y with
 | non=>
  cases ry
  cases x with
  | non=>cases rx; exact SeqAt.EqAt.same _
  | bl b=>cases rx; exact SeqAt.EqAt.none_bool b
  | int b=>obtain⟨t,rfl⟩:=rx; exact SeqAt.EqAt.none_int b t
  | str b=>obtain⟨t,rfl⟩:=rx; exact SeqAt.EqAt.none_str b t
  | _=>exact absurd (show false=true from fx) Bool.false_ne_true
 | bl a=>
  cases ry
  cases x with
  | non=>cases rx; exact SeqAt.EqAt.bool_none a
  | bl b=>cases rx; exact SeqAt.EqAt.bool_bool a b
  | int b=>obtain⟨t,rfl⟩:=rx; exact SeqAt.EqAt.bool_int a b t
  | str b=>obtain⟨t,rfl⟩:=rx; exact SeqAt.EqAt.bool_str a b t
  | _=>exact absurd (show false=true from fx) Bool.false_ne_true
 | int a=>
  obtain⟨t',rfl⟩:=ry
  cases x with
  | non=>cases rx; exact SeqAt.EqAt.int_none a t'
  | bl b=>cases rx; exact SeqAt.EqAt.int_bool a t' b
  | int b=>obtain⟨t,rfl⟩:=rx; exact SeqAt.EqAt.int_int a t' b t
  | str b=>obtain⟨t,rfl⟩:=rx; exact SeqAt.EqAt.int_str a t' b t
  | _=>exact absurd (show false=true from fx) Bool.false_ne_true
 | str a=>
  obtain⟨t',rfl⟩:=ry
  cases x with
  | non=>cases rx; exact SeqAt.EqAt.str_none a t'
  | bl b=>cases rx; exact SeqAt.EqAt.str_bool a t' b
  | int b=>obtain⟨t,rfl⟩:=rx; exact SeqAt.EqAt.str_int a t' b t
  | str b=>obtain⟨t,rfl⟩:=rx; exact SeqAt.EqAt.str_str a t' b t
  | _=>exact absurd (show false=true from fx) Bool.false_ne_true
 | _=>exact absurd (show false=true from fy) Bool.false_ne_true
def eqU (x:V) (u:Value):Bool:=match u with
 | .none=>eqV .non x
 | .bool b=>eqV (.bl b) x
 | .int i _=>eqV (.int i) x
 | .str z _=>eqV (.str z) x
 | _=>false
theorem qd {x y:V}{u:Value} (r:RelV y u) (f:gN y=true):eqU x u=eqV y x:=by
 cases y with
 | non=>cases r; rfl
 | bl b=>cases r; rfl
 | int i=>obtain⟨t,rfl⟩:=r; rfl
 | str z=>obtain⟨t,rfl⟩:=r; rfl
 | _=>exact absurd (show false=true from f) Bool.false_ne_true
theorem j4 {x:V}:∀ {xs:List V}{us:List Value},Vals xs us->xs.all gN=true->us.any (eqU x)=xs.any fun y=>eqV y x
 | _,_,.nil,_=>rfl
 | y::xs,u::us,.cons r t,f=>by
  rw[List.all_cons,Bool.and_eq_true] at f
  rw[List.any_cons,List.any_cons,qd r f.1,j4 t f.2]
theorem iz {A:Around}{s:Shared}{x:V}{v:Value} (rx:RelV x v) (fx:gN x=true):∀ {xs:List V}{us:List Value},Vals xs us->xs.all gN=true->∀ u ∈ us,SeqAt.EqAt A s u v (eqU x u)
 | _,_,.nil,_=>fun u hu=>by cases hu
 | y::xs,u::us,.cons r t,f=>fun u' hu=>by
  rw[List.all_cons,Bool.and_eq_true] at f
  rcases wP.mp hu with rfl | hu
  ·rw[qd r f.1]; exact uU r rx f.1 fx
  ·exact iz rx fx t f.2 u' hu
def inV (x:V) (xs:List V):Bool:=xs.any fun y=>eqV y x
def rIn (K:PySem.W.Frag) (neg:Bool):R2:=fun x y H Q=>∃ p xs,y=.ref p/\(SqL K H p xs∨SqT K H p xs)/\gN x=true/\xs.all gN=true/\Q (.bl (if neg then !inV x xs else inV x xs)) H
theorem jf:OpR X (compareOp .In) (rIn X.K false):=by
 intro pins s σ H x y v u Q I rx ry h
 obtain⟨p,xs,rfl,hq,fx,fs,q⟩:=h
 cases ry
 rcases hq with hq | hq
 ·obtain⟨its,r,pl,hz⟩:=I.list hq
  refine SeqAt.in_listAt (eqU x) pl.isList (fun w hw=>iz rx fx r fs w (by simpa using hw)) ⟨.bl _,H,I,U,?_⟩
  rw[show its.toArray.any (eqU x)=its.any (eqU x) by simp,j4 r fs]
  exact q
 ·obtain⟨its,r,pl,hz⟩:=I.tuple hq
  refine SeqAt.in_tupleAt (eqU x) pl (fun w hw=>iz rx fx r fs w (by simpa using hw)) ⟨.bl _,H,I,U,?_⟩
  rw[show its.toArray.any (eqU x)=its.any (eqU x) by simp,j4 r fs]
  exact q
theorem aL:cR X (.builtin "len") (fun xs H Q=>∃ p ys,xs=[.ref p]/\(SqL X.K H p ys∨SqT X.K H p ys)/\Q (.int ys.length) H):=by
 intro pins s σ H xs us Q I r h
 obtain⟨p,ys,rfl,hq,q⟩:=h
 obtain⟨u,rfl,rx⟩:=ef r
 cases rx
 have hn:=jN
 rcases hq with hq | hq
 ·obtain⟨its,r',pl,hz⟩:=I.list hq
  have hlen:=r'.length
  exact Calls.call_len_list pl.isList (by simp only[wO] <;> omega) ⟨.int ys.length,H,I.tok _,⟨s.toks+1,by rw[wO,hlen]⟩,q⟩
 ·obtain⟨its,r',pl,hz⟩:=I.tuple hq
  have hlen:=r'.length
  exact len_tuple pl (by simp only[wO] <;> omega) ⟨.int ys.length,H,I.tok _,⟨s.toks+1,by rw[wO,hlen]⟩,q⟩
theorem cx:cR X (.type "list") (fun xs H Q=>∃ p ys,xs=[.ref p]/\(SqL X.K H p ys∨SqT X.K H p ys)/\∀ l,H l=none->Q (.ref l) (upd H l (.lst ys))):=by
 intro pins s σ H xs us Q I r h
 obtain⟨p,ys,rfl,hq,q⟩:=h
 obtain⟨u,rfl,rx⟩:=ef r
 cases rx
 have fin:∀ (its:List Value),Vals ys its->ys.length<=sizeLine->∀ (h':Heap) (c':Nat),(∀ b o',s.heap.get? b=some o'->h'.get? b=some o') ->
   h'.get? s.heap.objs.size=some { cls:=.type "list",dict:=none,data:=.seq its.toArray c',slots:=#[] }->EP X pins σ Q (.ref s.heap.objs.size) { s with heap:=h' }:=fun its r' hz h' c' kp e=>
  ⟨.ref s.heap.objs.size,_,I.laid (t':=s.toks) kp (Nat.le_refl _) (show ObjOk X.prog X.w _ h' _ (.lst ys) from⟨hz,its,c',r',e⟩),U,q _ (I.hok.fresh (Nat.le_refl _))⟩
 rcases hq with hq | hq
 ·obtain⟨its,r',pl,hz⟩:=I.list hq
  have hlen:=r'.length
  obtain⟨o,ho,hc,n,hd⟩:=pl.isList
  exact call_list_seq p (.inl rfl) ho hc hd (fun h' c' kp e=>fin its r' hz h' c' kp e) (by simp only[wO] <;> omega)
 ·obtain⟨its,r',pl,hz⟩:=I.tuple hq
  have hlen:=r'.length
  obtain⟨o,ho,hc,n,hd⟩:=pl
  exact call_list_seq p (.inr rfl) ho hc hd (fun h' c' kp e=>fin its r' hz h' c' kp e) (by simp only[wO] <;> omega)
theorem iZ:cR X (.type "tuple") (fun xs H Q=>∃ p ys,xs=[.ref p]/\((SqL X.K H p ys/\∀ l,H l=none->Q (.ref l) (upd H l (.tup ys)))∨(SqT X.K H p ys/\Q (.ref p) H))):=by
 intro pins s σ H xs us Q I r h
 obtain⟨p,ys,rfl,h⟩:=h
 obtain⟨u,rfl,rx⟩:=ef r
 cases rx
 rcases h with ⟨hq,q⟩ | ⟨hq,q⟩
 ·obtain⟨its,r',pl,hz⟩:=I.list hq
  have hlen:=r'.length
  refine call_tuple_list pl.isList (fun h' kp=>?_) (by simp only[wO] <;> omega)
  have I1:Inv X pins σ H { s with heap:=h' }:=I.kept (t':=s.toks) kp
  have I2:Inv X pins σ (upd H h'.objs.size (.tup ys)) { s with heap:=h'.push { cls:=.type "tuple",data:=.seq its.toArray } } :=
   I1.laid (t':=s.toks) (fun b o e=>Heap.get?_push_of_some _ e) (Nat.le_refl _) (show ObjOk X.prog X.w _ _ _ (.tup ys) from⟨hz,its,r',IsTup.new _ _⟩)
  exact⟨.ref h'.objs.size,_,I2,U,q _ (I1.hok.fresh (Nat.le_refl _))⟩
 ·obtain⟨its,r',pl,hz⟩:=I.tuple hq
  exact call_tuple_same pl ⟨.ref p,H,I,U,q⟩
def tyV (K:PySem.W.Frag) (T:String) (x:V) (H:Hp):Prop:=match x with
 | .str _=>T = "str"
 | .int _=>T = "int"
 | .ref p=>(T = "list" /\ ∃ xs,SqL K H p xs)∨(T = "tuple" /\ ∃ o,K.lookup p=some o/\o.cls=.type "tuple" /\ o.dict=none) ∨
   (T = "dict" /\ ((∃ kvs,H p=some (.dK kvs))∨∃ kvs,H p=some (.dT kvs)))∨(T = "set" /\ ∃ S n,H p=some (.set S n))
 | _=>False
theorem nY {pins:List (Addr×Obj)}{σ:St}{H:Hp}{s:Shared}{T:String}{x:V}{v:Value} (I:Inv X pins σ H s) (r:RelV x v) (ty:tyV X.K T x H) :
  s.TypeIs v T/\∀ a,v=.ref a->∃ ob,s.heap.get? a=some ob/\ob.dict=none:=by
 cases x with
 | str z=>
  obtain⟨t,rfl⟩:=r
  cases (show T = "str" from ty)
  exact⟨typeIs_str s z t,fun _ e=>nomatch e⟩
 | int i=>
  obtain⟨t,rfl⟩:=r
  cases (show T = "int" from ty)
  exact⟨typeIs_int s i t,fun _ e=>nomatch e⟩
 | ref p=>
  cases r
  rcases ty with ⟨rfl,xs,hq⟩ | ⟨rfl,o,hk,hc,hd⟩ | ⟨rfl,hk⟩ | ⟨rfl,S,n,hk⟩
  ·obtain⟨its,_,pl,_⟩:=I.list hq
   refine⟨pl.isList.typeIs,fun a e=>?_⟩
   cases e
   obtain⟨o,n,e,c,hd,_⟩:=pl
   exact⟨o,e,hd⟩
  ·refine⟨⟨o,I.kIn p o hk,hc⟩,fun a e=>?_⟩
   cases e
   exact⟨o,I.kIn _ o hk,hd⟩
  ·have z:∃ o,s.heap.get? p=some o/\o.ExactDict:=by
    rcases hk with ⟨kvs,hk⟩ | ⟨kvs,hk⟩
    ·obtain⟨_,_,_,_,o,_,_,e,ex,_⟩:=I.hok p _ hk
     exact⟨o,e,ex⟩
    ·obtain⟨_,_,_,_,o,_,_,e,ex,_⟩:=I.hok p _ hk
     exact⟨o,e,ex⟩
   obtain⟨o,e,ex⟩:=z
   refine⟨⟨o,e,ex.1⟩,fun a e2=>?_⟩
   cases e2
   exact⟨o,e,ex.2.1⟩
  ·obtain⟨o,_,_,_,e,ex,_⟩:=I.hok p _ hk
   refine⟨⟨o,e,ex.1⟩,fun a e2=>?_⟩
   cases e2
   exact⟨o,e,ex.2.1⟩
 | _=>exact False.elim ty
def tBM0 (K:PySem.W.Frag) (T:String) (r:V->List V->Hp->VK->Prop) (to:TE):TE:=fun σ H Q=>to σ H fun x H1=>tyV K T x H1/\r x [] H1 Q
def tBM (K:PySem.W.Frag) (T:String) (r:V->List V->Hp->VK->Prop) (to:TE) (t:TA):TE:=fun σ H Q=>to σ H fun x H1=>tyV K T x H1/\t σ H1 fun xs H2=>r x xs H2 Q
variable {o e:Expr}{es:List Expr}{to:TE}{t:TA}{name:Str}{apos cpos:Pos}{T id:String}{r:V->List V->Hp->VK->Prop}
theorem k7 (pa:PlainAttrs T) (slot:Slot T name id) (hty:typeOf (.builtin id)=pure (.type "method_descriptor")) (hm:MtR X id r) (ho:PE X o to)
  (hbase:attributeBase o name X.env (eval o X.env)=eval o X.env:=by rfl) (hline:(apos.endLine == cpos.line)=true:=by rfl):PE X (.Call (.Attribute o name apos) [] [] cpos) (tBM0 X.K T r to):=by
 intro pins s σ H Q I h
 refine wpAny_Call_method0_late hbase hline (thn (ho pins s σ H _ I h) fun v s1 ⟨x,H1,I1,r1,ty,q1⟩=>?_)
 obtain⟨h1,h2⟩:=nY I1 r1 ty
 exact⟨T,id,pa,slot,hty,h1,h2,Calls.callWith_builtin rfl (PySem.evalArgs_none (hm pins s1 σ H1 x [] v [] Q I1 r1 .nil q1))⟩
theorem fi (pa:PlainAttrs T) (slot:Slot T name id) (hty:typeOf (.builtin id)=pure (.type "method_descriptor")) (hm:MtR X id r) (ho:PE X o to) (ha:PA X (e::es) t)
  (hbase:attributeBase o name X.env (eval o X.env)=eval o X.env:=by rfl)
  (hfew:((backTo cpos (starEach (e::es) X.env)).all (fun x=>!x.1) && (backToKw cpos (keywordEach [] X.env)).all (fun x=>x.1.isSome)
   && decide ((e::es).length+([]:List Keyword).length+(if ([]:List Keyword).isEmpty then 0 else 1)<30))=true:=by rfl)
  (hline:(apos.endLine == cpos.line)=true:=by rfl) (hs:starEach (e::es) X.env=(false,eval e X.env)::starEach es X.env:=by rfl) (hplain:(backTo cpos (starEach es X.env)).any (·.1)=false:=by rfl) :
  PE X (.Call (.Attribute o name apos) (e::es) [] cpos) (tBM X.K T r to t):=by
 intro pins s σ H Q I h
 refine wpAny_Call_method_late hbase hfew hline rfl (thn (ho pins s σ H _ I h) fun v s1 ⟨x,H1,I1,r1,ty,q1⟩=>?_)
 obtain⟨h1,h2⟩:=nY I1 r1 ty
 refine⟨T,id,pa,slot,hty,h1,h2,?_⟩
 have hA:=ha cpos pins s1 σ H1 _ I1 q1
 rw[hs] at hA ⊢
 refine Calls.callWith_builtin (by show (false || (backTo cpos (starEach es X.env)).any (·.1)) = false; rw [hplain] <;> rfl) (Calls.evalArgs_plain ?_)
 exact thn hA fun us s2 ⟨vs,H2,I2,r2,q2⟩=>hm pins s2 σ H2 x vs v us Q I2 r1 r2 q2
/- xs.append(e),list.index on a module's tuple .. are MtR facts of 06m -/
end
end L2
namespace L2
open PySem PySem.Spec PyProof.Rows
def MtM (X:Cx) (id:String) (r:V->List V->Hp->VK->Prop):Prop :=
 ∀ (pins:List (Addr×Obj)) (s:Shared) (σ:St) (H:Hp) (x:V) (xs:List V) (v:Value) (us:List Value) (Q:VK),Inv X pins σ H s->RelV x v->Vals xs us->r x xs H Q ->
  wpAny (model X.prog X.w) X.A (call (.builtin id) (v::us)) (EP X pins σ Q) X.xe s
theorem Vals.one {x:V}{us:List Value} (h:Vals [x] us):∃ u,us=[u]/\RelV x u:=by
 cases h with
 | cons r s=>cases s; exact⟨_,U,r⟩
theorem Vals.zero:∀ {us:List Value},Vals [] us->us=[]
 | _,.nil=>rfl
theorem Vals.dropLast {xs:List V}{us:List Value} (h:Vals xs us):Vals xs.dropLast us.dropLast:=by
 induction h with
 | nil=>exact .nil
 | cons r t ih=>
  cases t with
  | nil=>exact .nil
  | cons q t'=>exact .cons r ih
theorem lC {α:Type} (l:List α):l.eraseIdx (l.length - 1)=l.dropLast:=by
 induction l with
 | nil=>rfl
 | cons a r ih=>
  cases r with
  | nil=>rfl
  | cons b r=>
   have e:(a::b::r).length - 1=((b::r).length - 1)+1:=by
    have h1:(a::b::r).length=r.length+2:=rfl
    have h2:(b::r).length=r.length+1:=rfl
    omega
   rw[e,List.eraseIdx_cons_succ,ih]
   all_goals rfl
section
variable {X:Cx}{pins:List (Addr×Obj)}{σ:St}{H:Hp}{s:Shared}{l b:Addr}{xs ys zs:List V}
theorem Inv.lset {its its':List Value}{n:Nat}{f:Array Value->Array Value}{t':Nat} (I:Inv X pins σ H s) (hH:H l=some (.lst xs))
  (e:s.heap.get? l=some { cls:=.type "list",data:=.seq its.toArray n }) (hf:f its.toArray=its'.toArray) (hv:Vals ys its') (hz:ys.length<=sizeLine) :
  Inv X pins σ (upd H l (.lst ys)) { s with heap:=s.heap.update l (Obj.mapSeq f),toks:=t' }:=by
 have q:=PySem.IsL.update e f
 rw[hf] at q
 refine I.write (x:=l) (e:=l) (by rw[hH]; exact trivial) (.inl rfl) (fun b' u hb hu=>(Heap.get?_update_other s.heap (Obj.mapSeq f) (Ne.symm hb)).trans hu) ⟨_,q⟩ ?_
 exact⟨hz,its',_,hv,q⟩
theorem Inv.lstM (I:Inv X pins σ H s) (hH:H l=some (.lst xs)):xs.length<=sizeLine/\∃ (its:List Value) (n:Nat),Vals xs its/\xs.length=its.length/\s.heap.get? l=some { cls:=.type "list",data:=.seq its.toArray n }:=by
 obtain⟨z,its,n,r,e⟩:=I.hok l _ hH
 exact⟨z,its,n,r,r.length,e⟩
end
section
variable {X:Cx}
def qJ:V->List V->Hp->VK->Prop:=fun x vs H Q=>∃ l xs y,x=.ref l/\vs=[y]/\H l=some (.lst xs)/\xs.length<sizeLine/\Q .non (upd H l (.lst (xs++[y])))
theorem bW:MtM X "list.append" qJ:=by
 intro pins s σ H x vs v us Q I rx rv h
 obtain⟨l,xs,y,rfl,rfl,hH,hz,q⟩:=h
 cases rx
 obtain⟨u,rfl,ru⟩:=rv.one
 obtain⟨z,its,n,r,hl,e⟩:=I.lstM hH
 refine call_meets F.slot_list_append ⟨_,e,U⟩ F.entry_list_append (F.args_list_append_2 _ _) (PySem.list_append l its.toArray n u (by rw[wO]; omega)) ⟨e,?_⟩
 refine⟨.non,_,I.lset (its':=its++[u]) hH e (by simp) (r.append (.cons ru .nil)) ?_,U,q⟩
 rw[wK,wT]
 omega
def rPop:V->List V->Hp->VK->Prop:=fun x vs H Q=>∃ l xs y,x=.ref l/\vs=[]/\H l=some (.lst xs)/\xs[xs.length - 1]?=some y/\Q y (upd H l (.lst xs.dropLast))
theorem la:MtM X "list.pop" rPop:=by
 intro pins s σ H x vs v us Q I rx rv h
 obtain⟨l,xs,y,rfl,rfl,hH,hy,q⟩:=h
 cases rx
 have hus:=rv.zero
 subst hus
 obtain⟨z,its,n,r,hl,e⟩:=I.lstM hH
 obtain⟨u,hu,ru⟩:=r.get hy
 have hy':its.toArray[its.toArray.size - 1]?=some u:=by
  show its.toArray[its.length - 1]?=some u
  rw[<- Array.getElem?_toList,<- hl]
  exact hu
 refine call_meets F.slot_list_pop ⟨_,e,U⟩ F.entry_list_pop (F.args_list_pop_1 _) (MeetsSeq.list_pop_last l its.toArray n u hy' (by rw[wO]; omega)) ⟨e,?_⟩
 refine⟨y,_,I.lset (its':=its.dropLast) hH e ?_ r.dropLast ?_,ru,q⟩
 ·show its.toArray.eraseIdxIfInBounds (its.toArray.size - 1)=its.dropLast.toArray
  rw[wO,List.eraseIdxIfInBounds_toArray,lC]
 ·rw[List.length_dropLast]
  omega
end
end L2
namespace Att
open PySem PySem.W PySem.Calls PyProof.Rows
theorem gR {P:Params}{h:Heap}:∀ (ns:List Int) (vs:List Value),WellAll P h vs (ns.map WData.int)->IntsAre vs ns:=by
 intro ns
 induction ns with
 | nil=>
  intro vs w
  rw[List.map_nil] at w
  cases w
  exact .nil
 | cons n ns ih=>
  intro vs w
  rw[wN] at w
  cases w with
  | cons a b=>
   cases a
   exact .cons _ _ (ih _ b)
theorem ng {l : OpenLaw}{n : Nat} (hn : l.most=some n) {P : Params}{h : Heap}{args : List WData}{vals : List Value}
    (hpre : l.row.toRowW.claim.pre args=true) (hwl : WellAll P h vals args) :
    ∃ a vs ns, vals=[Value.ref a]/\args=[WData.list (ns.map WData.int)]/\h.get? a=some { cls := .type "list", data := .seq vs.toArray }/\IntsAre vs ns/\ns.length<=n := by
  have hsh : WShape.hasAll [] args [.list .int]=true := (pre_splitW hpre).1
  have hc : l.pre.holds [] { args := args }=true := (pre_splitW hpre).2
  obtain⟨d, r, rfl, h1, h2⟩ := hasAllW_cons hsh
  obtain rfl := hasAllW_nil h2
  obtain⟨xs, rfl, h3⟩ := hasW_list h1
  obtain⟨ns, rfl⟩ := items_int h3
  have hlen : ns.length<=n := by
    unfold OpenLaw.pre at hc
    have h4 : (WTm.not (.lt (.lit (.int (n : Int))) (.len (.arg 0)))).holds [] { args := [.list (ns.map .int)] }=true := by
      have h4 := (holds_andW hc).1
      rw[hn] at h4
      exact h4
    have h5 := condW_of h4 (w_not (w_lt w_lit (w_len_list (w_arg rfl))))
    rw[wF] at h5
    refine Nat.le_of_not_lt fun q=>?_
    have q' : (n : Int)<((ns.length : Nat) : Int) := by omega
    first
      | (rw [decide_eq_true q'] at h5; exact absurd h5 (by decide))
      | (simp at h5; omega)
  cases hwl with
  | cons w1 w2=>
    cases w2
    cases w1 with
    | list ho hall=>exact⟨_, _, ns, rfl, rfl, ho, gR ns _ hall, hlen⟩
theorem nh (l:OpenLaw) (args:List WData):l.row.toRowW.claim.post args (.bool true) args=true :=
 postW_of (r:=l.row.toRowW) (X:=(true == true))
  (show WShape.has [] (.bool true) .bool=true by first | rfl | decide | simp[WShape.has,WShape.arms,WShape.armsAll])
  (show(WTm.eq .res (.lit (.bool true))).value [] { args:=args,res:=some (.bool true),after:=args }=some (.bool (true == true)) from w_eq_bool (w_res rfl) w_lit) rfl
theorem attach_call {l:OpenLaw}{n:Nat}{q:Program}{loose:List Str}{XP:(Str->Option Value)->Heap->Prop}{YP:World->Heap->Prop}{d:DefRec}
  (hn:l.most=some n) (hdf:d.params.defaults=[])
  (call:∀ (w:World) (s₀ s₁:Shared) (mg mb:Str->Option Value) (fa:Addr) (o:Obj) (pm cd doc:Value) (a:Addr) (vs:List Value) (ns:List Int),
   Ground q loose [] XP w s₀ mg mb s₁.heap->YP w s₁.heap ->
   s₁.heap.get? fa=some o->o.data=.func (docDef d.name d.params d.body d.scope pm cd doc)->s₁.heap.CodeRec cd d.name->mg d.name=some (.ref fa) ->
   s₁.heap.get? a=some { cls:=.type "list",data:=.seq vs.toArray }->IntsAre vs ns->ns.length<=n->s₁.gens = #[] ->
   codeAny (model l.prog w) callerA (.call (.ref fa) ⟨[.ref a],[]⟩) (fun r s'=>r=.ok (.ret (.bool true))/\OldK s₁.heap s'.heap/\s'.os=s₁.os/\AllBare s'.gens) s₁) :
  WalkO q loose XP YP l.row.toRowW d [] (fun f vs=>PySem.call f vs):=by
 intro w s₀ s₁ mg mb G Y fa o pm cd doc dV kV ho hd hcd hD hmg hg args vals as hpre hlay hrd hwl hlo
 obtain rfl:dV=.none:=Dflts.none hD hdf
 obtain rfl:kV=.none:=Dflts.noKw hD
 obtain⟨a,vs,ns,rfl,rfl,hobj,hints,hlen⟩:=ng hn hpre hwl
 refine enter_call (codeAny_mono (call w s₀ s₁ mg mb fa o pm cd doc a vs ns G Y ho (fd_plain hd) hcd hmg hobj hints hlen hg) fun r s' hq=>?_)
 obtain⟨rfl,h2,h3,h4⟩:=hq
 exact⟨.inl ⟨.bool true,.bool true,[],rfl,fun _=>rfl,.bool true,nh l _,fun _=>⟨List.Pairwise.nil,fun _ hm=>(nomatch hm)⟩⟩,h2,h3,h4⟩
section
variable {prog:Program}{w:World}{A:Around}{E:Value->Shared->Prop}{s:Shared}{K:Frag}
def ledger (h:Heap) (L d:Addr):List (Addr×Obj):=(List.range h.objs.size).filterMap fun a=>if a=L∨a=d then none else(h.get? a).map fun o=>(a,o)
end
end Att
namespace L2
open PySem PySem.Spec PyProof.Rows
theorem i6:∀ {vs:List Value}{ns:List Int},IntsAre vs ns->Vals (ns.map V.int) vs
 | _,_,.nil=>.nil
 | _,_,.cons n t h=>.cons ⟨t,U⟩ (i6 h)
def bf (s:Stmt) (j:Nat):Stmt:=match s with
 | .ClassDef _ _ _ body _ _ _ _ _ _ _=>body.getD j (.Pass ⟨0,0,0,0⟩)
 | _=>.Pass ⟨0,0,0,0⟩
def cC (s:Stmt):Arguments:=match s with
 | .FunctionDef _ a _ _ _ _ _ _ _ _=>a
 | _=>{ posonlyargs:=[],args:=[],vararg:=none,kwonlyargs:=[],kw_defaults:=[],kwarg:=none,defaults:=[] }
def bK (s:Stmt):List Stmt:=match s with
 | .FunctionDef _ _ b _ _ _ _ _ _ _=>b
 | _=>[]
def aj (s:Stmt):Scope:=match s with
 | .FunctionDef _ _ _ _ _ _ sc _ _ _=>sc
 | _=>{ kind:=.function,names:=[],isGenerator:=false,isCoroutine:=false }
abbrev CX0:CXT:=fun _ _ _ _ _ _=>False
abbrev E0:XK:=fun _ _ _=>False
theorem aM {X:Cx}:dG CX0 X E0:=fun _ _ _ _ _ _ _ h=>h.elim
theorem pcl {X:Cx}{k n:Nat}{f:Addr}{fd:FuncData}{ps:List Str}{sp:Sp}{x:Str}{p pos:Pos}{e:Expr}{es:List Expr}{t:TA} (F:FnOk X.prog X.w X.K X.mg X.base CX0 k f fd ps sp) (hr:Room n X.A) (hm:X.mg x=some (.ref f)) (hk:PySem.W.keepIn X.K (.ref f)=true) (hb:Binds X.K fd ps []) (ha:PA X (e::es) t) (hg:Gl X x:=by rfl) (hj:k<=n:=by decide) (hdb:(x==("__debug__":Str))=false:=by decide) (he:starEach (e::es) X.env=(false,eval e X.env)::starEach es X.env:=by rfl) (hpl:(backTo pos (starEach es X.env)).any (·.1)=false:=by rfl):PE X (.Call (.Name x p) (e::es) [] pos) (g8 sp [] E0 t):=dy F (hr.mono hj) hg hm hk hb .nil aM ha hdb he hpl
structure Fun (K:PySem.W.Frag) (x qual:Str) (st:Stmt) (f:Addr) (fd:FuncData):Prop where
 ex:∃ (oc:Value) (od:Option Addr) (kV doc pm:Value) (an:Option Addr) (cdv ct:Value) (osl:Array (Option Value)),
  fd=W.fnOf x qual (cC st) (bK st) (aj st) .none kV doc pm an cdv ct/\K.lookup f=some ⟨oc,od,.func fd,osl⟩/\W.codeIn K cdv qual=true
 kp:W.keepIn K (.ref f)=true
theorem bi {A:Around}{k:Nat} (hr:Room k A):A.units+1<cLine:=Nat.lt_of_le_of_lt (Nat.add_le_add_left (by decide:1<=64) _) hr.units
section
variable {X:Cx}
theorem pv (i:Nat) {x:Str}{pos:Pos} (hN:X.N[i]?=some x:=by rfl) (hv:Vis X.env.scope x:=by first | exact Or.inl rfl | exact Or.inr (Or.inl rfl) | exact Or.inr (Or.inr rfl)) (hd:(x == ("__debug__" : Str))=false:=by decide)
  (hcd:(x == ("__classdict__" : Str))=false:=by decide):PE X (.Name x pos) (dg i):=tW hN hv hd hcd
end
theorem bL {A B:Prop} (h:B):if false=true then A else B:=by
 rw[if_neg Bool.false_ne_true]
 exact h
theorem cP {A B:Prop} (h:A):if true=true then A else B:=by
 rw[if_pos rfl]
 exact h
theorem kB {c A B:Prop} [Decidable c] (h1:c->A) (h2:¬ c->B):if c then A else B:=by
 by_cases h:c
 ·rw[if_pos h]
  exact h1 h
 ·rw[if_neg h]
  exact h2 h
def Same (H H':Hp):Prop:=∀ b o,H b=some o->H' b=some o
theorem Same.seq {K:PySem.W.Frag}{H H':Hp}{a:Addr}{xs:List V} (e:Same H H') (h:SqL K H a xs):SqL K H' a xs:=by
 rcases h with (h | ⟨o,h⟩) | h
 ·exact .inl (.inl (e _ _ h))
 ·exact .inl (.inr ⟨o,e _ _ h⟩)
 ·exact .inr h
section
variable {κ:Type} [DecidableEq κ]
theorem fe {p:κ×V}{r:List (κ×V)}{k:κ} (e:p.1=k):ar (p::r) k=ar r k:=by
 unfold ar
 rw[List.filter_cons,if_neg (by simp[e])]
theorem dX {p:κ×V}{r:List (κ×V)}{k:κ} (e:¬ p.1=k):ar (p::r) k=p::ar r k:=by
 unfold ar
 rw[List.filter_cons,if_pos (by simp[e])]
end
abbrev Kn:=List (Addr×HO)
structure Has (H:Hp) (L:Kn):Prop where
 nd:(L.map (·.1)).Nodup
 at_:∀ x ∈ L,H x.1=some x.2
namespace Has
variable {H H':Hp}{L L' X Y R:Kn}{a p:Addr}{o o':HO}{x y:Addr×HO}
theorem nil:Has H []:=⟨List.nodup_nil,fun _ h=>nomatch h⟩
theorem get (h:Has H L) (i:Nat) (e:L[i]?=some (a,o)):H a=some o:=h.at_ (a,o) (wI e)
theorem alloc (h:Has H L) (hp:H p=none) (o:HO):Has (upd H p o) ((p,o)::L):=by
 have ne:∀ x ∈ L,x.1≠p:=fun x hx e=>by
  have:=h.at_ x hx
  rw[e,hp] at this; cases this
 refine⟨?_,fun x hx=>?_⟩
 ·rw[wN,List.nodup_cons]
  refine⟨fun m=>?_,h.nd⟩
  obtain⟨x,hx,e⟩:=wX.mp m
  exact ne x hx e
 ·rcases wP.mp hx with rfl | hx
  ·exact bz
  ·rw[aA (ne x hx)]; exact h.at_ x hx
theorem sub (h:Has H L) (s:L'.Sublist L):Has H L':=⟨h.nd.sublist (s.map _),fun x hx=>h.at_ x (s.subset hx)⟩
theorem perm (h:Has H L) (s:L.Perm L'):Has H L':=⟨(s.map _).nodup_iff.mp h.nd,fun x hx=>h.at_ x (s.mem_iff.mpr hx)⟩
theorem tail (h:Has H (x::L)):Has H L:=h.sub (List.sublist_cons_self _ _)
theorem right (h:Has H (X++R)):Has H R:=h.sub (List.sublist_append_right _ _)
theorem swap2 (h:Has H (x::y::L)):Has H (y::x::L):=h.perm (List.Perm.swap _ _ _)
theorem comm (h:Has H (X++(Y++R))):Has H (Y++(X++R)):=h.perm (by rw[<- wG,<- wG]; exact List.perm_append_comm.append_right R)
theorem inn (h:Has H (x::(Y++R))):Has H (Y++(x::R)):=h.perm List.perm_middle.symm
theorem out (h:Has H (Y++(x::R))):Has H (x::(Y++R)):=h.perm List.perm_middle
theorem ne2 (h:Has H ((a,o)::R)) {b:Addr} (m:b ∈ R.map (·.1)):b≠a:=fun e=>by
 have:=List.nodup_cons.mp (show((a::R.map (·.1)).Nodup) from h.nd)
 exact this.1 (e ▸ m)
theorem put (h:Has H ((a,o)::R)) (o':HO):Has (upd H a o') ((a,o')::R):=by
 refine⟨h.nd,fun x hx=>?_⟩
 rcases wP.mp hx with rfl | hx
 ·exact bz
 ·rw[aA (h.ne2 (wW hx))]; exact h.at_ x (wE _ hx)
theorem gJ:∀ (L:Kn) (i:Nat),L[i]?=some (a,o)->(L.set i (a,o')).map (·.1)=L.map (·.1)
 | [],i,e=>by simp at e
 | x::L,0,e=>by simp at e; subst e; rfl
 | x::L,i+1,e=>by
  simp only[List.set_cons_succ,wN]
  rw[gJ L i (by simpa using e)]
theorem puti (h:Has H L) (i:Nat) (e:L[i]?=some (a,o)) (o':HO):Has (upd H a o') (L.set i (a,o')):=by
 have hi:i<L.length:=(List.getElem?_eq_some_iff.mp e).1
 refine⟨by rw[gJ (o':=o') L i e]; exact h.nd,fun x hx=>?_⟩
 obtain⟨j,hj⟩:=List.getElem?_of_mem hx
 by_cases hij:j=i
 ·subst hij
  rw[List.getElem?_set_self hi] at hj
  cases hj
  exact bz
 ·rw[List.getElem?_set_ne (Ne.symm hij)] at hj
  have hx':x ∈ L:=wI hj
  have:x.1≠a:=fun z=>by
   have e1:(L.map (·.1))[i]?=some a:=by rw[wM,e]; rfl
   have e2:(L.map (·.1))[j]?=some a:=by rw[wM,hj,<- z]; rfl
   obtain⟨l1,q1⟩:=List.getElem?_eq_some_iff.mp e1
   obtain⟨l2,q2⟩:=List.getElem?_eq_some_iff.mp e2
   exact hij ((List.getElem_inj h.nd).mp (q2.trans q1.symm))
  rw[aA this]
  exact h.at_ x hx'
end Has
section
variable {X:Cx}
theorem eV:cR X (.builtin "isinstance") (fun xs H Q=>∃ x T t b,xs=[x,.ty T]/\TyOf X.K H x t/\PySem.W.kitOne X.K t (.type T)=some b/\Q (.bl b) H):=by
 intro pins s σ H xs us Q I r h
 obtain⟨x,T,t,b,rfl,ty,e,q⟩:=h
 obtain⟨u1,u2,rfl,r1,r2⟩:=j5 r
 cases (show u2=Value.type T from r2)
 exact nE I r1 ty e fun tk=>⟨.bl b,H,I.tok _,U,q⟩
end
theorem SqL.alloc {K:PySem.W.Frag}{H:Hp}{a p:Addr}{xs:List V}{o:HO} (h:SqL K H a xs) (hp:H p=none):SqL K (upd H p o) a xs :=
 Same.seq (fun b u e=>by rw[aA (bI e hp)]; exact e) h
theorem eU (xs:List V) (n:Int) (h0:0<=n):f7 xs none (some n)=xs.take n.toNat:=by
 show((xs.drop 0).take ((if n<0 then(n+(xs.length:Int)).toNat else min n.toNat xs.length) - 0))=_
 rw[if_neg (by omega),List.drop_zero,Nat.sub_zero]
 by_cases hl:n.toNat<=xs.length
 ·rw[Nat.min_eq_left hl]
 ·rw[Nat.min_eq_right (by omega),List.take_of_length_le (Nat.le_refl _),List.take_of_length_le (by omega)]
theorem aS {n:Nat} (h:n<=1000000):n<sizeLine:=Nat.lt_of_le_of_lt h (by decide)
theorem aY {n:Nat} (h:n<=1000000):n<=sizeLine:=Nat.le_of_lt (aS h)
end L2
namespace L2
theorem ifF {b:Bool}{A B:Prop} (e:b=false) (h:B):if b=true then A else B:=by subst e; exact bL h
theorem ifT {b:Bool}{A B:Prop} (e:b=true) (h:A):if b=true then A else B:=by subst e; exact cP h
theorem if2 {b:Bool}{A B:Prop} (h1:b=true->A) (h2:b=false->B):if b=true then A else B:=by
 cases b
 ·exact bL (h2 rfl)
 ·exact cP (h1 rfl)
theorem ifd {c:Prop} [Decidable c] {A B:Prop} (h1:c->A) (h2:¬ c->B):if decide c=true then A else B:=by
 by_cases h:c
 ·exact ifT (decide_eq_true h) (h1 h)
 ·exact ifF (decide_eq_false h) (h2 h)
theorem re {c:Prop} [Decidable c] {A B:Prop} (h1:¬ c->A) (h2:c->B):if (!decide c)=true then A else B:=by
 by_cases h:c
 ·exact ifF (by simp[h]) (h2 h)
 ·exact ifT (by simp[h]) (h1 h)
end L2
set_option Elab.async false
set_option linter.all false
set_option maxRecDepth 100000
namespace L2
open PySem PySem.Spec PyProof.Rows
def eI (cells : List (Str×Addr)) : List (Str×NameKind)->List (Str×Addr)->List (Str×Addr)
  | [], acc=>acc
  | (n, k) :: r, acc => if k == .free then eI cells r ((n, (cells.lookup n).getD 0) :: acc) else eI cells r acc
theorem iM (scope : Scope) (env : Env) (h : ∀ y ∈ scope.names, y.2=.free->∃ c, env.cells.lookup y.1=some c) : closureFor scope env=pure (eI env.cells scope.names []) := by
  unfold closureFor
  have all : ∀ (l : List (Str×NameKind)) (acc : List (Str×Addr)), (∀ y ∈ l, y.2=.free->∃ c, env.cells.lookup y.1=some c) ->
      (forIn l acc fun x r=>match x with
        | (name, kind) => if (kind == .free) = true then do let a <- cellOf env name; pure (ForInStep.yield ((name, a) :: r)) else pure (ForInStep.yield r)) = (pure (eI env.cells l acc) : Sem _) := by
    intro l
    induction l with
    | nil=>intro acc _; rfl
    | cons y l ih=>
      obtain⟨n, k⟩ := y
      intro acc hl
      rw[List.forIn_cons]
      by_cases hk : (k == NameKind.free)=true
      · obtain⟨c, hc⟩ := hl (n, k) wJ (by simpa using hk)
        have e : cellOf env n=pure c := by unfold cellOf; rw[hc]
        simp only[hk, if_true, e, pure_bind, eI, hc, Option.getD_some]
        exact ih _ fun y hy=>hl y (wE _ hy)
      · simp only[hk, if_false, pure_bind, eI]
        exact ih _ fun y hy=>hl y (wE _ hy)
  have := all scope.names [] h
  simp only[this, pure_bind]
theorem f8 {cells : List (Str×Addr)}{x : Str}{c : Addr} : ∀ (l : List (Str×NameKind)) (acc : List (Str×Addr)), (∀ y ∈ l, y.2=.free->∃ c, cells.lookup y.1=some c) ->
    (∀ y d, acc.lookup y=some d->cells.lookup y=some d)->(eI cells l acc).lookup x=some c->cells.lookup x=some c
  | [], acc, _, ha, h=>ha x c h
  | (n, k) :: r, acc, hl, ha, h => by
    unfold eI at h
    split at h
    · rename_i hk
      obtain⟨d, hd⟩ := hl (n, k) wJ (by simpa using hk)
      refine f8 r _ (fun y hy=>hl y (wE _ hy)) (fun y e he=>?_) h
      rw[xc] at he
      split at he
      · rename_i hyn
        have : y=n := by simpa using hyn
        subst this
        cases he
        rw[hd]; rfl
      · exact ha y e he
    · exact f8 r _ (fun y hy=>hl y (wE _ hy)) ha h
theorem iN {cells : List (Str×Addr)}{x : Str} : ∀ (l : List (Str×NameKind)) (acc : List (Str×Addr)), (∃ c, acc.lookup x=some c)->∃ c, (eI cells l acc).lookup x=some c
  | [], acc, h=>h
  | (n, k) :: r, acc, h => by
    unfold eI
    split
    · refine iN r _ ?_
      rw[xc]
      split
      · exact⟨_, rfl⟩
      · exact h
    · exact iN r _ h
theorem dY {cells : List (Str×Addr)}{x : Str} : ∀ (l : List (Str×NameKind)) (acc : List (Str×Addr)), (x, NameKind.free) ∈ l->∃ c, (eI cells l acc).lookup x=some c
  | [], _, h=>nomatch h
  | (n, k) :: r, acc, h => by
    unfold eI
    rcases wP.mp h with e | h
    · cases e
      rw[if_pos (by rfl)]
      exact iN r _ ⟨(cells.lookup x).getD 0, by rw[xc]; simp⟩
    · split
      · exact dY r _ h
      · exact dY r _ h
theorem fu {env : Env}{x : Str} : ∀ (l : List (Str×NameKind)), (∀ y ∈ l, y.2≠.cell) ->
    ((l.map fun(n, k)=>if (k == NameKind.free && env.scope.kind == .function && env.kindOf n == some .cell) then(n, NameKind.cell) else(n, k)).lookup x=some .cell ∨
     (l.map fun(n, k)=>if (k == NameKind.free && env.scope.kind == .function && env.kindOf n == some .cell) then(n, NameKind.cell) else(n, k)).lookup x=some .free)->(x, NameKind.free) ∈ l
  | [], _, h=>by simp at h
  | (n, k) :: r, hl, h => by
    have ih := fu (env := env) (x := x) r fun y hy=>hl y (wE _ hy)
    by_cases hc : (k == NameKind.free && env.scope.kind == .function && env.kindOf n == some .cell)=true
    · have hkf : k=.free := by
        rw[Bool.and_eq_true, Bool.and_eq_true] at hc
        simpa using hc.1.1
      subst hkf
      simp only[wN, hc, if_true, xc] at h
      cases hx : x == n with
      | true=>
        have : x=n := by simpa using hx
        subst this
        exact wJ
      | false=>
        simp only[hx] at h
        exact wE _ (ih h)
    · simp only[wN, if_neg hc, xc] at h
      cases hx : x == n with
      | true=>
        have : x=n := by simpa using hx
        subst this
        simp only[hx] at h
        rcases h with h | h
        · cases h
          exact absurd rfl (hl (x, .cell) wJ)
        · cases h
          exact wJ
      | false=>
        simp only[hx] at h
        exact wE _ (ih h)
def PTs (X:Cx) (ifs:List Expr) (t:TT):Prop :=
 ∀ (pins:List (Addr×Obj)) (s:Shared) (σ:St) (H:Hp) (Q:Bool->Hp->Prop),Inv X pins σ H s->t σ H Q ->
  wpAny (model X.prog X.w) X.A (forIn ifs true fun c r=>if r=true then do let ok <- isTrue c X.env (eval c X.env); pure (ForInStep.yield ok) else pure (ForInStep.yield r)) (TP X pins σ Q) X.xe s
def rN:TT:=fun _ H Q=>Q true H
theorem lQ {X:Cx}:PTs X [] rN:=fun _ _ _ H _ I h=>wpAny_tests_nil ⟨H,I,h⟩
theorem qK {X:Cx}{c:Expr}{t:TT} (h:PT X c t):PTs X [c] t:=fun pins s σ H Q I q=>wpAny_tests_one (h pins s σ H Q I q)
theorem kL {prog:Program}{w:World}{A:Around}{R:Result->Shared->Prop}{s:Shared}{elt target iter:Expr}{ifs:List Expr}{scope:Scope}{pos:Pos}{it acc:Value}{env:Env} (I:Nat->Shared->Prop)
  (turn:∀ n s,I n s->wpAny (model prog w) A (pyNext it) (fun r s₁=>match r with
   | none=>R (.ok .next) s₁
   | some v=>wpAny (model prog w) A (letOwnedTupleGo target it v) (fun _ s₀=>wpAny (model prog w) A (assign target env v) (fun _ s₂=>
     wpAny (model prog w) A (forIn ifs true fun c r=>if r=true then do let ok <- isTrue c env (eval c env); pure (ForInStep.yield ok) else pure (ForInStep.yield r)) (fun ok s₃=>
      if ok=true then wpAny (model prog w) A (eval elt env) (fun x s₄=>
       wpAny (model prog w) A (call (.builtin "list.append") [acc,x]) (fun _ s₅=>∃ m,m<n/\I m s₅) (fun _ _=>False) s₄) (fun _ _=>False) s₃
      else ∃ m,m<n/\I m s₃) (fun _ _=>False) s₂) (fun _ _=>False) s₀) (fun _ _=>False) s₁) (fun _ _=>False) s)
  (n:Nat) (h:I n s) :
  codeAny (model prog w) A (.compLoop (.ListComp elt [⟨target,iter,ifs,0⟩] scope pos) 0 it acc env) R s:=by
 have no:∀ {α:Type}{t:Sem α}{Q:α->Shared->Prop}{s:Shared}{E:Value->Shared->Prop},wpAny (model prog w) A t Q (fun _ _=>False) s->wpAny (model prog w) A t Q E s:=fun h=>wpAny_mono h (fun _ _ q=>q) fun _ _ z=>False.elim z
 refine codeAny_loop rfl I (fun n s hI=>?_) n h
 show wpAny _ A ((compTurn (.ListComp elt [⟨target,iter,ifs,0⟩] scope pos) 0 it acc env).onRaise (fun x=>do noteFrame x env; theTreesLotGoes x)) _ _ s
 refine wpAny_noted ?_
 rw[compTurn_list]
 refine wpAny_bind (wpAny_standAt (wpAny_bind (wpAny_mono (no (turn n s hI)) (fun r s₁ h₁=>?_) fun _ _ h'=>h')))
 cases r with
 | none=>exact wpAny_pure h₁
 | some v=>
  refine wpAny_bind (wpAny_mono (no h₁) (fun _ s₀ h₀=>?_) fun _ _ h'=>h')
  refine wpAny_bind (wpAny_mono (no h₀) (fun _ s₂ h₂=>wpAny_bind (wpAny_mono (no h₂) (fun ok s₃ h₃=>?_) fun _ _ h'=>h')) fun _ _ h'=>h')
  cases ok with
  | false=>exact wpAny_pure ⟨U,h₃⟩
  | true=>
   exact wpAny_bind (wpAny_bind (wpAny_mono (no h₃) (fun x s₄ h₄=>wpAny_bind (wpAny_mono (no h₄) (fun _ s₅ h₅=>wpAny_pure (wpAny_pure ⟨U,h₅⟩)) fun _ _ h'=>h')) fun _ _ h'=>h'))
abbrev blk (X:Cx) (scope:Scope) (N':List Str) (C:Addr) (s₀:Shared) (H₀:Hp) (fp:List Addr) (pins:List (Addr×Obj)):Cx :=
 { X with N:=N',s₀:=s₀,H₀:=H₀,env:=compEnvC scope (eI X.env.cells scope.names []) C X.env,outer:=X.stack,stack:=X.stack,ex:=fp,fn:=fun _=>false,pn:=X.pn++pins,xe:=fun _ _=>False }
def tLC (wi:TI) (k:Nat) (g:TG) (tc:TT) (te:TE):TE:=fun σ H Q=>wi σ H fun J H1=>∀ D,H1 D=none->∃ W:Nat->Nat->List V->Hp->Prop,(∃ m,W 0 m [] (upd H1 D (.lst [])))/\∀ i m ys H,W i m ys H->H D=some (.lst ys) /\
 ((J.stop i H/\Q (.ref D) H)∨(J.go i H/\∀ x H',J.yld i H x H'->g x (List.replicate k none++σ) H' fun σ2 H2=>σ2.drop k=σ/\tc σ2 H2 fun b H3=>
  if b=true then te σ2 H3 fun y H4=>ys.length<sizeLine/\H4 D=some (.lst ys)/\∃ m',m'<m/\W (i+1) m' (ys++[y]) (upd H4 D (.lst (ys++[y]))) else ∃ m',m'<m/\W (i+1) m' ys H3))
section
variable {X:Cx}
theorem o8 {elt tg iter:Expr}{ifs:List Expr}{scope:Scope}{pos:Pos}{wi:TI}{k:Nat}{g:TG}{tc:TT}{te:TE} (N':List Str) (hc:X.calm=true) (hi:PI X tg iter wi)
  (hg:∀ C s₀ H₀ fp pins,PG (blk X scope N' C s₀ H₀ fp pins) tg g) (ht:∀ C s₀ H₀ fp pins,PTs (blk X scope N' C s₀ H₀ fp pins) ifs tc) (he:∀ C s₀ H₀ fp pins,PE (blk X scope N' C s₀ H₀ fp pins) elt te)
  (hk:scope.kind=.function) (hcell:∀ y ∈ scope.names,y.2≠.cell) (hnames:∀ y ∈ scope.names,y.2=.local->scope.names.lookup y.1=some .local)
  {esc:Scope} (hsc:X.env.scope=esc) (hfr':∀ y ∈ scope.names,y.2=.free->esc.names.lookup y.1=some .cell∨esc.names.lookup y.1=some .free)
  (hlen:N'.length=k+X.N.length)
  (hN:∀ (i:Nat) (x:Str),N'[i+k]?=some x->(x,NameKind.free) ∈ scope.names->X.N[i]?=some x)
  (hN2:∀ x ∈ N'.drop k,scope.names.lookup x≠some .local)
  (hs:∀ x,foldedSetIterable iter X.env x=pure x:=by intro _; rfl) :
  PE X (.ListComp elt [⟨tg,iter,ifs,0⟩] scope pos) (tLC wi k g tc te):=by
 intro pins s σ H Q I h
 have hfr:∀ y ∈ scope.names,y.2=.free->X.env.kindOf y.1=some .cell∨X.env.kindOf y.1=some .free:=fun y hy hf=>by
  show X.env.scope.names.lookup y.1=_∨X.env.scope.names.lookup y.1=_
  rw[hsc]; exact hfr' y hy hf
 have hcells:∀ y ∈ scope.names,y.2=.free->∃ c,X.env.cells.lookup y.1=some c:=fun y hy hf=>I.ok.has y.1 (hfr y hy hf)
 have hclos:=iM scope X.env hcells
 rw[eval_ListComp]
 refine wpAny_comprehension_free (use:=none) rfl hs hclos hk hnames (thn (hi pins s σ H _ I h) fun v s1 h1=>thn h1 fun itv s2 h2=>?_)
 obtain⟨it,fp,tn,J,H2,e,I2,T,st2,f2,R⟩:=h2
 subst e
 refine wpAny_newObj_type ?_
 have hD:H2 s2.heap.objs.size=none:=I2.hok.fresh (Nat.le_refl _)
 obtain⟨W,⟨m0,w0⟩,turn⟩:=R _ hD
 generalize eD:s2.heap.objs.size=D at *
 have I3:Inv X pins σ (upd H2 D (.lst [])) { s2 with heap:=s2.heap.push { cls:=.type "list",dict:=none,data:=.seq ([]:List Value).toArray } } :=
  I2.laid (a:=D) (o:=.lst []) (t':=s2.toks) (fun b u e=>Heap.get?_push_of_some _ e) (Nat.le_of_eq eD) ⟨Nat.zero_le _,[],0,.nil,by rw[<- eD]; exact Heap.get?_push_size _ rfl⟩
 generalize e3:({ s2 with heap:=s2.heap.push { cls:=.type "list",dict:=none,data:=.seq ([]:List Value).toArray } }:Shared)=s3 at *
 have st3:tn 0 s3.heap:=T.keep _ _ _ st2 fun b _ o e=>by rw[<- e3]; exact Heap.get?_push_of_some _ e
 have lt2:∀ b ∈ fp,b<s2.heap.objs.size:=fun b hb=>by
  obtain⟨o,e,_⟩:=T.obj _ _ st2 b hb
  exact Heap.lt_size e
 have neD:∀ b ∈ fp,b≠D:=fun b hb=>by
  have:=lt2 b hb
  rw[eD] at this
  exact Nat.ne_of_lt this
 have f3:∀ b ∈ fp,i3 X pins (upd H2 D (.lst [])) b:=fun b hb=>⟨by rw[aA (neD b hb)]; exact(f2 b hb).1,(f2 b hb).2⟩
 generalize upd H2 D (.lst [])=H3 at *
 refine wpAny_newFunctionEnv hcell (by intro y hy; simp at hy) (fun h₁ hns₁ hsb₁=>?_) hk
 try dsimp only at hns₁ hsb₁ ⊢
 have lt3:∀ b ∈ fp,b<s3.heap.objs.size:=fun b hb=>by
  obtain⟨o,e,_⟩:=T.obj _ _ st3 b hb
  exact Heap.lt_size e
 generalize eC:s3.heap.objs.size=C at *
 have kp:∀ b o,s3.heap.get? b=some o->h₁.get? b=some o:=fun b o e=>(hsb₁.2 b (by rw[<- eC]; exact Nat.ne_of_lt (Heap.lt_size e))).trans (Heap.get?_push_of_some _ e)
 have subC:∀ x c,(eI X.env.cells scope.names []).lookup x=some c->X.env.cells.lookup x=some c:=fun x c e=>f8 scope.names [] hcells (fun y d z=>by simp at z) e
 have hCnone:H3 C=none:=I3.hok.fresh (Nat.le_of_eq eC)
 have ok':(blk X scope N' C s3 H3 fp pins).Ok:={
  mod:=I3.ok.mod
  kind:=hk
  glob:=I3.ok.glob
  blt:=I3.ok.blt
  above:=Nat.le_of_eq eC
  inj:=fun x y c a b=>I3.ok.inj x y c (subC x c a) (subC y c b)
  has:=fun x hx=>dY scope.names [] (fu scope.names hcell hx)
  cab:=fun x c a _=>absurd a Bool.false_ne_true
  hd:=I3.ok.hd
  frames:=I3.ok.frames
  stk:=.inl rfl
  exf:=fun b hb=>⟨by have:=lt3 b hb; exact Nat.ne_of_lt this,fun x c e=>(f3 b hb).2.2.2.2.1 x c (subC x c e)⟩
  bs:=I3.bs
  bsz:=Nat.le_trans I3.ok.bsz I3.sz
  noex:=fun b o e hb=>by
   rcases (f3 b hb).2.2.2.1 with z | z
   ·exact I3.ok.noex b o e z
   ·exact absurd (Nat.lt_of_lt_of_le (Heap.lt_size e) (Nat.le_trans I3.ok.bsz z)) (Nat.lt_irrefl _)
  exfs:=fun b hb z=>by
   rcases wP.mp (I3.stkSub b z) with e | e
   ·exact(f3 b hb).2.1 e
   ·exact(f3 b hb).2.2.1 e
  funs:=I3.stack
  frf:=I3.stkFree }
 have s4os:({ s3 with heap:=h₁,toks:=s3.toks+([]:List (Str×Value)).length }:Shared).os=s3.os:=rfl
 generalize e4:({ s3 with heap:=h₁,toks:=s3.toks+([]:List (Str×Value)).length }:Shared)=s4 at *
 have h4:s4.heap=h₁:=by rw[<- e4]
 have J4:Inv (blk X scope N' C s3 H3 fp pins) [] (List.replicate k none++σ) H3 s4:=by
  refine⟨ok',s4os,by rw[<- e4]; exact I3.bare,?_,⟨_,by rw[h4]; exact hns₁,fun i x v e1 e2 e5=>?_⟩,fun x c e=>?_,hCnone,fun x c e=>I3.freeC x c (subC x c e),fun p hp=>?_,?_,?_⟩
  ·rw[h4]; exact Un.kept kp
  ·have hik:¬ i<k:=fun hlt=>by
    rw[xa (by rw[wS]; exact hlt),List.getElem?_replicate] at e2
    split at e2 <;> cases e2
   obtain⟨j,rfl⟩:∃ j,i=j+k:=⟨i - k,by omega⟩
   have e2':σ[j]?=some (some v):=by
    rw[wR (by rw[wS]; omega),wS] at e2
    have:j+k - k=j:=by omega
    rw[this] at e2; exact e2
   have nl:(relabel scope X.env).names.lookup x≠some .local:=fun z=>by
    have q:∀ (l:List (Str×NameKind)),(l.map fun(n,k)=>if (k == NameKind.free && X.env.scope.kind == .function && X.env.kindOf n == some .cell) then(n,NameKind.cell) else(n,k)).lookup x=some .local->l.lookup x=some .local:=by
     intro l
     induction l with
     | nil=>intro z; simp at z
     | cons y l ih=>
      obtain⟨n,kk⟩:=y
      intro z
      by_cases hcc:(kk == NameKind.free && X.env.scope.kind == .function && X.env.kindOf n == some .cell)=true
      ·simp only[wN,if_pos hcc,xc] at z ⊢
       cases hx:x == n with
       | true=>simp only[hx] at z; cases z
       | false=>simp only[hx] at z ⊢; exact ih z
      ·simp only[wN,if_neg hcc,xc] at z ⊢
       cases hx:x == n with
       | true=>simp only[hx] at z ⊢; exact z
       | false=>simp only[hx] at z ⊢; exact ih z
    exact hN2 x (wI (i:=j) (by rw[List.getElem?_drop,Nat.add_comm]; exact e1)) (q _ z)
   have hcf:(relabel scope X.env).names.lookup x=some .cell∨(relabel scope X.env).names.lookup x=some .free:=by
    rcases e5 with z | z | z
    ·exact absurd z nl
    ·exact .inl z
    ·exact .inr z
   have hmem:(x,NameKind.free) ∈ scope.names:=fu scope.names hcell hcf
   have hx:=hN j x e1 hmem
   obtain⟨mo,_,hl⟩:=I3.loc
   have hkx:=hfr (x,.free) hmem rfl
   obtain⟨u,ru,lk⟩:=hl j x v hx e2' (by
    rcases hkx with z | z
    ·exact .inr (.inl z)
    ·exact .inr (.inr z))
   refine⟨u,ru,.inr ⟨hcf,?_⟩⟩
   rcases lk with ⟨z,_⟩ | ⟨_,c,hc1,hc2⟩
   ·rcases hkx with q | q
    ·rw[q] at z; cases z
    ·rw[q] at z; cases z
   ·obtain⟨c',hc'⟩:=dY (cells:=X.env.cells) scope.names [] hmem
    have:=subC x c' hc'
    rw[hc1] at this; cases this
    obtain⟨oc,h5,h6⟩:=hc2
    exact⟨c,hc',oc,by rw[h4]; exact kp _ _ h5,h6⟩
  ·obtain⟨v,oc,h5,h6⟩:=I3.cell x c (subC x c e)
   exact⟨v,oc,by rw[h4]; exact kp _ _ h5,h6⟩
  ·have hp':p ∈ X.pn++pins:=by simpa using hp
   obtain⟨a1,a2,a3,a4,a5⟩:=I3.pin p hp'
   refine⟨by rw[h4]; exact kp _ _ a1,a2,?_,fun z=>?_,a5⟩
   ·have:=Heap.lt_size a1
    rw[eC] at this
    exact Nat.ne_of_lt this
   ·rcases wP.mp (I3.stkSub p.1 z) with q | q
    ·exact a3 q
    ·exact a4 q
  ·rw[h4]; exact I3.hok.kept kp
  ·rw[wK,wS,I3.len]; exact hlen.symm
 have stat:∀ {H':Hp},(∀ b ∈ fp,H' b=none)->∀ b ∈ fp,i3 (blk X scope N' C s3 H3 fp pins) [] H' b:=fun hn b hb=>
  ⟨hn b hb,(ok'.exf b hb).1,ok'.exfs b hb,.inl hb,fun x c e=>(ok'.exf b hb).2 x c e,fun p hp=>(f3 b hb).2.2.2.2.2 p (by simpa using hp)⟩
 have fr4:∀ b ∈ fp,H3 b=none:=fun b hb=>(f3 b hb).1
 have st4:tn 0 s4.heap:=T.keep _ _ _ st3 fun b _ o e=>by rw[h4]; exact kp _ _ e
 have loop:codeAny (model X.prog X.w) X.A (.compLoop (.ListComp elt [⟨tg,iter,ifs,0⟩] scope pos) 0 (.ref it) (.ref D) (compEnvC scope (eI X.env.cells scope.names []) C X.env))
   (compPost (model X.prog X.w) X.A X.xe none (EP X pins σ Q) (.ref D) C) s4:=by
  refine kL (fun n s'=>∃ i ys H',Inv (blk X scope N' C s3 H3 fp pins) [] (List.replicate k none++σ) H' s'/\tn i s'.heap/\(∀ b ∈ fp,H' b=none)/\W i n ys H') ?_ m0 ⟨0,[],H3,J4,st4,fr4,w0⟩
  rintro n s5 ⟨i,ys,H5,I5,st5,fr5,w5⟩
  obtain⟨hDl,stp⟩:=turn i n ys H5 w5
  rcases stp with ⟨stop,qn⟩ | ⟨go,step⟩
  ·refine thn (T.done (blk X scope N' C s3 H3 fp pins) rfl rfl rfl hc i [] s5 _ H5 (fun _ _=>False) I5 (stat fr5) st5 stop) fun r s6 ⟨hr,I6⟩=>?_
   subst hr
   obtain⟨m6,ns6,_⟩:=id I6.loc
   refine⟨m6,ns6,fun h' hsb=>⟨.ref D,H5,?_,U,qn⟩⟩
   have hC5:H5 C=none:=I6.free
   have un6:Un (frs X.stack) fp H3 H5 s3.heap s6.heap:=I6.base
   have neC:∀ b o,s3.heap.get? b=some o->b≠C:=fun b o e=>by
    have:=Heap.lt_size e
    rw[eC] at this
    exact Nat.ne_of_lt this
   refine I3.call' (s':={ s6 with heap:=h' }) (ch:=fp) I6.os ⟨fun b o e a1 a2 a3=>?_,fun b o e a1 a2 a3=>?_,un6.free,fun b o e a3=>?_,un6.tups,un6.frzs,un6.tbls⟩ ?_ I6.bare (fun b hb=>?_)
   ·exact(hsb.2 b (neC b o e)).trans (un6.keep b o e a1 a2 a3)
   ·obtain⟨sl,z⟩:=un6.slot b o e a1 a2 a3
    exact⟨sl,(hsb.2 b (neC b o e)).trans z⟩
   ·obtain⟨o',z⟩:=un6.there b o e a3
    exact⟨o',(hsb.2 b (neC b o e)).trans z⟩
   ·intro b u e
    refine(I6.hok b u e).stay (fun c w' hcc q=>(hsb.2 c ?_).trans q) (fun _ q=>q) fun _ _ q=>q
    rintro rfl
    rcases hcc with z | z
    ·rw[z,e] at hC5; cases hC5
    ·rw[z] at hC5; cases hC5
   ·exact⟨(f3 b hb).2.2.2.1,(f3 b hb).2.1,(f3 b hb).2.2.2.2.1,(f3 b hb).2.2.2.2.2⟩
  ·refine thn (T.item (blk X scope N' C s3 H3 fp pins) rfl rfl rfl hc i [] s5 _ H5 (fun _ _=>False) I5 (stat fr5) st5 go) fun r s6 ⟨u,hr,h6⟩=>?_
   subst hr
   refine thn h6 fun _ s7 ⟨x,H7,I7,r7,y7,st7,fr7⟩=>?_
   have I7':=I7.pinned (stat fr7) (T.obj _ _ st7)
   refine thn (hg C s3 H3 fp pins _ s7 _ H7 x u _ I7' r7 (step x H7 y7)) fun _ s8 ⟨σ8,H8,I8,d8,q8⟩=>?_
   refine thn (ht C s3 H3 fp pins _ s8 σ8 H8 _ I8 q8) fun b s9 ⟨H9,I9,q9⟩=>?_
   have kz:∀ (j:Nat) v,(List.replicate k none++σ)[j]?=some (some v)->σ8[j]?=some (some v):=fun j v e=>by
    have hik:¬ j<k:=fun hlt=>by
     rw[xa (by rw[wS]; exact hlt),List.getElem?_replicate] at e
     split at e <;> cases e
    rw[wR (by rw[wS]; omega),wS,<- d8,List.getElem?_drop] at e
    have:k+(j - k)=j:=by omega
    rw[this] at e; exact e
   have again:∀ {Hz:Hp}{sz:Shared}{zs:List V}{m':Nat},Inv (blk X scope N' C s3 H3 fp pins) ([]++hW fp s7.heap) σ8 Hz sz->m'<n->W (i+1) m' zs Hz ->
     ∃ m,m<n/\∃ i ys H',Inv (blk X scope N' C s3 H3 fp pins) [] (List.replicate k none++σ) H' sz/\tn i sz.heap/\(∀ b ∈ fp,H' b=none)/\W i m ys H':=fun {Hz sz zs m'} Iz hm wz=>by
    refine⟨m',hm,i+1,zs,Hz,(Iz.unpinned).weak ?_ kz,T.keep _ _ _ st7 fun b hb o e=>(Iz.pin (b,o) (wD _ (wD _ (d7 hb e)))).1,fun b hb=>?_,wz⟩
    ·rw[Iz.len]; exact I5.len
    ·obtain⟨o,e,d⟩:=T.obj _ _ st7 b hb
     exact(Iz.pin (b,o) (wD _ (wD _ (d7 hb e)))).2.1
   cases b with
   | false=>
    obtain⟨m',hm,w9⟩:=(show ∃ m',m'<n/\W (i+1) m' ys H9 by simpa using q9)
    rw[if_neg Bool.false_ne_true]
    exact again I9 hm w9
   | true=>
    rw[if_pos rfl] at q9 ⊢
    refine thn (he C s3 H3 fp pins _ s9 σ8 H9 _ I9 q9) fun u9 s10 ⟨y,H10,I10,r10,hz,hD10,m',hm,w10⟩=>?_
    refine thn (bW (X:=blk X scope N' C s3 H3 fp pins) _ s10 σ8 H10 (.ref D) [y] (.ref D) [u9] (fun _ H'=>H'=upd H10 D (.lst (ys++[y]))) I10 rfl (.cons r10 .nil) ⟨D,ys,y,U,U,hD10,hz,U⟩) fun _ s11 ⟨_,H11,I11,_,e11⟩=>?_
    subst e11
    exact again I11 hm w10
 exact codeAny_compStart_list loop (T.self _ 0 _ _ _ st4 loop)
end
section
variable {X:Cx}{pins:List (Addr×Obj)}{σ:St}{H:Hp}{s:Shared}{h':Heap}
theorem Inv.turnedL {t':Nat}{fp:List Addr} (I:Inv X pins σ H s) (k:∀ b o,b ∉ fp->s.heap.get? b=some o->h'.get? b=some o) (hf:∀ b ∈ fp,i3 X pins H b):Inv X pins σ H { s with heap:=h',toks:=t' }:=by
 have nit:∀ b u,H b=some u->b ∉ fp:=fun b u e z=>by rw[(hf b z).1] at e; cases e
 refine I.step (g':=s.gens) (d':=s.drawn) (ch:=fp) (fun b hb=>⟨(hf b hb).2.2.2.1,(hf b hb).2.1,(hf b hb).2.2.2.2.1,(hf b hb).2.2.2.2.2⟩) (fun b o _ _ hc e _=>k b o hc e) (fun b o _ _ hc e _=>⟨o.slots,k b o hc e⟩) (fun _ _ _ _ n=>n)
  (fun b o hc e=>⟨o,k b o hc e⟩) (fun _ _ e=>e) (fun _ _ _ e=>e) (fun b ps e=>⟨#[],by rw[e]; simp⟩) (fun m hm=>?_) (fun b u e=>?_) I.bare
 ·obtain⟨o,es,ep,ho,r⟩:=hm
  exact⟨o,es,ep,k _ o (fun z=>(hf _ z).2.1 rfl) ho,r⟩
 ·refine(I.hok b u e).stay (fun c v hc q=>k c v ?_ q) (fun _ q=>q) fun _ _ q=>q
  rcases hc with z | z
  ·rw[z]; exact nit b u e
  ·exact nit c _ z
theorem Inv.track {p:Addr}{o:HO} (I:Inv X pins σ H s) (hp:X.s₀.heap.objs.size<=p) (hL:p≠X.env.locals) (hc:∀ x c,X.env.cells.lookup x=some c->c≠p) (hpin:∀ q ∈ X.pn++pins,q.1≠p) (hn:H p=none)
  (new:ObjOk X.prog X.w (upd H p o) s.heap p o):Inv X pins σ (upd H p o) s:=by
 refine⟨I.ok,I.os,I.bare,⟨I.base.keep,I.base.slot,fun b ob e n hx=>?_,I.base.there,fun b xs e=>?_,fun b ob u e=>?_,fun b ps e=>?_⟩,I.loc,I.cell,by rw[aA (Ne.symm hL)]; exact I.free,fun x c e=>by rw[aA (hc x c e)]; exact I.freeC x c e,fun q hq=>?_,fun b u e=>?_,I.len⟩
 ·rw[aA (Nat.ne_of_lt (Nat.lt_of_lt_of_le (Heap.lt_size e) hp))]; exact I.base.free b ob e n hx
 ·have:=I.base.tups b xs e
  rw[aA (bI this hn)]; exact this
 ·have:=I.base.frzs b ob u e
  rw[aA (bI this hn)]; exact this
 ·obtain⟨more,e2⟩:=I.base.tbls b ps e
  exact⟨more,by rw[aA (bI e2 hn)]; exact e2⟩
 ·obtain⟨a1,a2,a3,a4,a5⟩:=I.pin q hq
  exact⟨a1,by rw[aA (hpin q hq)]; exact a2,a3,a4,a5⟩
 ·by_cases hb:b=p
  ·subst hb; rw[bz] at e; cases e; exact new
  ·rw[aA hb] at e
   exact(I.hok b u e).stay (fun _ _ _ q=>q) (fun c q=>by rw[aA (bI q hn)]; exact q) fun c xs q=>by rw[aA (bI q hn)]; exact q
end
def Itz (K:PySem.W.Frag) (a b:Addr):It :=
 ⟨fun i H=>∃ xs x ys y,SqL K H a xs/\xs[i]?=some x/\SqL K H b ys/\ys[i]?=some y,
  fun i H v H'=>∃ p x y,v=.ref p/\H p=none/\H'=upd H p (.tup [x,y])/\(∀ xs,SqL K H a xs->xs[i]?=some x)/\∀ ys,SqL K H b ys->ys[i]?=some y,
  fun i H=>∃ xs ys,SqL K H a xs/\SqL K H b ys/\(xs.length<=i∨ys.length<=i)⟩
theorem nZ {P:Program}{w:World}{K:PySem.W.Frag}{es:List Expr} {x1} {pos:Pos} (a b z TI TO i1 i2:Addr):Turn P w K (.Tuple es x1 pos) (Itz K a b) [z,TI,TO,i1,i2] z
  (fun i h=>IsZip h z TI TO .none/\IsPair h TI (.ref i1) (.ref i2)/\(∃ u v,IsPair h TO u v)/\h.IsListIter i1 a i/\h.IsListIter i2 b i/\TI≠TO/\i1≠i2) where
 mem:=by simp
 obj:=fun i h ⟨hz,hTI,⟨u,v,hTO⟩,h1,h2,_⟩ c hc=>by
  simp only[wP,wZ,or_false] at hc
  rcases hc with rfl | rfl | rfl | rfl | rfl
  ·exact⟨_,hz,fun v q=>by cases (show Data.fields _=Data.cell v from q)⟩
  ·exact⟨_,hTI,fun v q=>by cases (show Data.seq _ _=Data.cell v from q)⟩
  ·exact⟨_,hTO,fun v q=>by cases (show Data.seq _ _=Data.cell v from q)⟩
  ·obtain⟨o,e,_,d⟩:=h1
   exact⟨o,e,fun v q=>by rw[d] at q; cases q⟩
  ·obtain⟨o,e,_,d⟩:=h2
   exact⟨o,e,fun v q=>by rw[d] at q; cases q⟩
 keep:=fun i h h' ⟨hz,hTI,⟨u,v,hTO⟩,h1,h2,n1,n2⟩ k=>⟨k z (by simp) _ hz,k TI (by simp) _ hTI,⟨u,v,k TO (by simp) _ hTO⟩,h1.at fun o e=>k i1 (by simp) o e,h2.at fun o e=>k i2 (by simp) o e,n1,n2⟩
 item:=by
  intro X hP hw hK hc i pins s σ H E I hf ⟨hz,hTI,⟨u,v,hTO⟩,h1,h2,n1,n2⟩ hg
  subst hP hw hK
  obtain⟨xs,x,ys,y,hqa,hx,hqb,hy⟩:=hg
  obtain⟨its,rv,p,hsz⟩:=I.list hqa
  obtain⟨jts,rw',p',hsz'⟩:=I.list hqb
  obtain⟨ux,hux,rux⟩:=rv.get hx
  obtain⟨uy,huy,ruy⟩:=rw'.get hy
  have D:ZipApart z TI TO i1 i2 a b:=by
   obtain⟨oa,ea,ca,_,_⟩:=p.isList
   obtain⟨ob,eb,cb,_,_⟩:=p'.isList
   obtain⟨o1,e1,c1,_⟩:=h1
   obtain⟨o2,e2,c2,_⟩:=h2
   have dz:∀ {c:Addr}{o:Obj}{T:String},s.heap.get? c=some o->o.cls=.type T->T ≠ "zip" -> c≠z:=fun e q n r=>by
    rw[r,hz] at e; cases e; cases q; exact n rfl
   have dT:∀ {c d:Addr}{o q:Obj}{T U:String},s.heap.get? c=some o->o.cls=.type T->s.heap.get? d=some q->q.cls=.type U->T≠U->c≠d:=fun e1 c1 e2 c2 n r=>by
    subst r; rw[e1] at e2; cases e2; rw[c1] at c2; cases c2; exact n rfl
   exact⟨dz hTI rfl (by decide),dz hTO rfl (by decide),dz e1 c1 (by decide),dz e2 c2 (by decide),n1,dT hTI rfl e1 c1 (by decide),dT hTI rfl e2 c2 (by decide),dT hTO rfl e1 c1 (by decide),dT hTO rfl e2 c2 (by decide),n2,
    dz ea ca (by decide),dT ea ca hTO rfl (by decide),dT ea ca e1 c1 (by decide),dT ea ca e2 c2 (by decide),dz eb cb (by decide),dT eb cb hTO rfl (by decide),dT eb cb e1 c1 (by decide),dT eb cb e2 c2 (by decide)⟩
  refine wpAny_pyNext_zip_item D hz hTI hTO h1 h2 p.isList p'.isList (x:=ux) (y:=uy) (by simpa using hux) (by simpa using huy) fun h' a1 a2 a3 a4 a5 a6 hk=>?_
  refine⟨_,O,?_⟩
  refine wpAny_letOwnedTupleGo_zip (s:={ s with heap:=h' }) a1 fun h2' hz' hs'=>?_
  have lt:∀ b ∈ [z,TI,TO,i1,i2],b<s.heap.objs.size:=fun c hcm=>by
   simp only[wP,wZ,or_false] at hcm
   rcases hcm with rfl | rfl | rfl | rfl | rfl
   ·exact Heap.lt_size hz
   ·exact Heap.lt_size hTI
   ·exact Heap.lt_size hTO
   ·obtain⟨o,e,_⟩:=h1; exact Heap.lt_size e
   ·obtain⟨o,e,_⟩:=h2; exact Heap.lt_size e
  have hTI2:IsPair h2' TI (.ref i1) (.ref i2):=hs'.extBut _ _ D.TIz (hk _ _ D.TIz D.TITO D.TIi1 D.TIi2 hTI)
  have hTO2:IsPair h2' TO ux uy:=hs'.extBut _ _ D.TOz a2
  have h12:h2'.IsListIter i1 a (i+1):=a3.extBut hs'.extBut D.i1z
  have h22:h2'.IsListIter i2 b (i+1):=a4.extBut hs'.extBut D.i2z
  have pz:s.heap.objs.size≠z:=Nat.ne_of_gt (Heap.lt_size hz)
  have hp2:IsPair h2' s.heap.objs.size ux uy:=hs'.extBut _ _ pz a5
  have kk:∀ c o,c ∉ [z,TI,TO,i1,i2]->s.heap.get? c=some o->h2'.get? c=some o:=fun c o hcm e=>by
   simp only[wP,wZ,or_false,not_or] at hcm
   exact hs'.extBut _ _ hcm.1 (hk c o hcm.1 hcm.2.2.1 hcm.2.2.2.1 hcm.2.2.2.2 e)
  have I1:Inv X pins σ H { s with heap:=h2',toks:=s.toks }:=I.turnedL kk hf
  have fP:i3 X pins H s.heap.objs.size:=I.fpOk (Nat.le_refl _) (I.hok.fresh (Nat.le_refl _))
  have I2:Inv X pins σ (upd H s.heap.objs.size (.tup [x,y])) { s with heap:=h2',toks:=s.toks }:=by
   refine I1.track I.sz (fP.2.1) fP.2.2.2.2.1 fP.2.2.2.2.2 fP.1 ?_
   exact⟨(show 2<=sizeLine by decide),[ux,uy],.cons rux (.cons ruy .nil),⟨_,hp2,O,_,O⟩⟩
  refine⟨.ref s.heap.objs.size,_,I2,O,⟨_,x,y,O,fP.1,O,fun zs hzs=>by rw[I.list_inj hzs hqa]; exact hx,fun zs hzs=>by rw[I.list_inj hzs hqb]; exact hy⟩,⟨hz',hTI2,⟨_,_,hTO2⟩,h12,h22,n1,n2⟩,fun c hcm=>?_⟩
  rw[aA (Nat.ne_of_lt (lt c hcm))]
  exact(hf c hcm).1
 done:=by
  intro X hP hw hK hc i pins s σ H E I hf ⟨hz,hTI,⟨u,v,hTO⟩,h1,h2,n1,n2⟩ hg
  subst hP hw hK
  obtain⟨xs,ys,hqa,hqb,hend⟩:=hg
  obtain⟨its,rv,p,hsz⟩:=I.list hqa
  obtain⟨jts,rw',p',hsz'⟩:=I.list hqb
  have D:ZipApart z TI TO i1 i2 a b:=by
   obtain⟨oa,ea,ca,_,_⟩:=p.isList
   obtain⟨ob,eb,cb,_,_⟩:=p'.isList
   obtain⟨o1,e1,c1,_⟩:=h1
   obtain⟨o2,e2,c2,_⟩:=h2
   have dz:∀ {c:Addr}{o:Obj}{T:String},s.heap.get? c=some o->o.cls=.type T->T ≠ "zip" -> c≠z:=fun e q n r=>by
    rw[r,hz] at e; cases e; cases q; exact n rfl
   have dT:∀ {c d:Addr}{o q:Obj}{T U:String},s.heap.get? c=some o->o.cls=.type T->s.heap.get? d=some q->q.cls=.type U->T≠U->c≠d:=fun e1 c1 e2 c2 n r=>by
    subst r; rw[e1] at e2; cases e2; rw[c1] at c2; cases c2; exact n rfl
   exact⟨dz hTI rfl (by decide),dz hTO rfl (by decide),dz e1 c1 (by decide),dz e2 c2 (by decide),n1,dT hTI rfl e1 c1 (by decide),dT hTI rfl e2 c2 (by decide),dT hTO rfl e1 c1 (by decide),dT hTO rfl e2 c2 (by decide),n2,
    dz ea ca (by decide),dT ea ca hTO rfl (by decide),dT ea ca e1 c1 (by decide),dT ea ca e2 c2 (by decide),dz eb cb (by decide),dT eb cb hTO rfl (by decide),dT eb cb e1 c1 (by decide),dT eb cb e2 c2 (by decide)⟩
  have e1:=rv.length
  have e2:=rw'.length
  refine wpAny_pyNext_zip_end (I.ok.hd hc) D hz hTI hTO h1 h2 p.isList p'.isList (k1:=i) (k2:=i) (by
   rcases hend with h | h
   ·left; simp; omega
   ·right; simp; omega) fun h' hk=>⟨O,?_⟩
  exact I.turnedL (t':=s.toks) (fun c o hcm e=>by
   simp only[wP,wZ,or_false,not_or] at hcm
   exact hk c o hcm.1 hcm.2.2.1 hcm.2.2.2.1 hcm.2.2.2.2 e) hf
 self:=fun _ _ _ _ _ st h=>wpAny_pyIter_zip st.1 h
section
variable {X:Cx}
def iZip (K:PySem.W.Frag) (ta:TA):TI:=fun σ H R=>ta σ H fun vs H1=>∃ a b,vs=[.ref a,.ref b]/\(∃ xs,SqL K H1 a xs)/\(∃ ys,SqL K H1 b ys)/\R (Itz K a b) H1
theorem tV {es:List Expr} {x1} {tpos:Pos}{e1 e2:Expr}{ta:TA}{p pos:Pos} (hg:Gl X "zip") (hm:X.mg "zip" = none) (ha:PA X [e1,e2] ta) (hs:starEach [e1,e2] X.env=[(false,eval e1 X.env),(false,eval e2 X.env)]:=by rfl) (hs2:starEach [e2] X.env=[(false,eval e2 X.env)]:=by rfl) :
  PI X (.Tuple es x1 tpos) (.Call (.Name "zip" p) [e1,e2] [] pos) (iZip X.K ta):=by
 intro pins s σ H R I h
 refine Call_ (iB I hg hm (by rfl) (PyProof.Rows.callWith_type1 (thn (ha pos pins s σ H _ I h) fun us s1 ⟨vs,H1,I1,r1,q1⟩=>?_) (by rw[hs,hs2]) (by rw[hs2]; rfl)))
 obtain⟨a,b,rfl,⟨xs,hqa⟩,⟨ys,hqb⟩,q⟩:=q1
 obtain⟨u1,u2,rfl,ru1,ru2⟩:=j5 r1
 cases (show u1=Value.ref a from ru1)
 cases (show u2=Value.ref b from ru2)
 obtain⟨its,rv,pa,hsz⟩:=I1.list hqa
 obtain⟨jts,rw',pb,hsz'⟩:=I1.list hqb
 refine call_zip_2 pa.isList pb.isList fun h' hz hTI hTO h1 h2 hsize hk=>?_
 refine wpAny_pyIter_zip (s:={ s1 with heap:=h' }) hz ?_
 refine⟨_,_,_,_,H1,U,I1.kept (t':=s1.toks) hk,nZ a b (s1.heap.objs.size+4) (s1.heap.objs.size+2) (s1.heap.objs.size+3) s1.heap.objs.size (s1.heap.objs.size+1),⟨hz,hTI,⟨_,_,hTO⟩,h1,h2,(fun z=>by have:s1.heap.objs.size+2=s1.heap.objs.size+3:=z; omega),(fun z=>by have:s1.heap.objs.size=s1.heap.objs.size+1:=z; omega)⟩,fun c hc=>?_,q⟩
 have hge:s1.heap.objs.size<=c:=by
  simp only[wP,wZ,or_false] at hc
  rcases hc with h | h | h | h | h <;> (rw[h]; omega)
 exact I1.fpOk hge (I1.hok.fresh hge)
end
theorem fg {P:Nat->Value->Prop}{acc:List Value}{xs:List V} (hl:acc.length=xs.length) (h:∀ (j:Nat) (v:Value),acc[j]?=some v->P j v) (hP:∀ (j:Nat) v x,P j v->xs[j]?=some x->RelV x v):Vals xs acc:=by
 induction xs generalizing acc P with
 | nil=>
  cases acc with
  | nil=>exact .nil
  | cons _ _=>simp at hl
 | cons x xs ih=>
  cases acc with
  | nil=>simp at hl
  | cons u acc=>
   refine .cons (hP 0 u x (h 0 u rfl) rfl) (ih (P:=fun j=>P (j+1)) (by simpa using hl) (fun j v e=>h (j+1) v (by simpa using e)) fun j v y p e=>hP (j+1) v y p (by simpa using e))
section
variable {X:Cx}
theorem kO:∀ {bs:List Bool}{us:List Value},Vals (bs.map V.bl) us->LSm.BoolsAre us bs
 | [],_,.nil=>.nil
 | b::bs,_,.cons r t=>by
  obtain rfl:=(show _=Value.bool b from r)
  exact .cons b (kO t)
theorem qo (hc:X.calm=true):cR X (.builtin "all") (fun xs H Q=>∃ (a:Addr) (bs:List Bool),xs=[V.ref a]/\SqL X.K H a (bs.map V.bl)/\Q (.bl (bs.all id)) H):=by
 intro pins s σ H xs us Q I r h
 obtain⟨a,bs,rfl,hq,q⟩:=h
 obtain⟨u,rfl,ru⟩:=ef r
 cases (show u=Value.ref a from ru)
 obtain⟨its,rv,p,hz⟩:=I.list hq
 obtain⟨m,F⟩:=I.fr
 have hlt:a<s.heap.objs.size:=by obtain⟨_,e,_⟩:=p.isList; exact Heap.lt_size e
 have hb:=kO rv
 refine call_all_walk (wpAny_pyIter_list p.isList ?_)
 refine⟨s.heap.objs.size,[s.heap.objs.size,a],[s.heap.objs.size],its.toArray.size,_,_,fun i=>(bs[i]?).getD true,U,Walks.list (A:=X.A.in1) (I.ok.hd hc) _ a (Nat.ne_of_lt hlt) its.toArray,
  ⟨⟨_,Heap.get?_push_size _ rfl,U,U⟩,p.isList.push _⟩,fun i v s' Q' E' hP hQ=>?_,fun h' tk hk=>?_⟩
 ·obtain⟨b,e,rfl⟩:=hb.get i v (by simpa using hP)
  simp only[e,Option.getD_some] at hQ
  exact wpAny_truthy_bool hQ
 ·have e:((List.range its.toArray.size).all fun i=>(bs[i]?).getD true)=bs.all id:=by
   rw[wO,hb.length]; exact LSm.range_all bs
  rw[e]
  exact⟨.bl (bs.all id),H,I.kept (LSm.kept_iter hk),U,q⟩
theorem gP:cR X (.type "range") (fun xs H Q=>∃ j:Int,xs=[.int j]/\∀ p,H p=none->Q (.ref p) (upd H p (.rng 0 j))):=by
 intro pins s σ H xs us Q I r h
 obtain⟨j,rfl,q⟩:=h
 obtain⟨u,rfl,t,rfl⟩:=ef r
 refine call_range_1 ⟨.ref s.heap.objs.size,_,I.laid (fun b o e=>Heap.get?_push_of_some _ e) (Nat.le_refl _) ?_,U,q _ (I.hok.fresh (Nat.le_refl _))⟩
 exact⟨_,_,_,Heap.get?_push_size _ rfl⟩
def eO (n:Nat):List V:=(List.range n).map fun i=>V.int (i:Nat)
theorem c8 (n:Nat):(eO n).length=n:=by simp[eO]
theorem gC {n i:Nat} (h:i<n):(eO n)[i]?=some (.int i):=by simp[eO,h]
theorem fq (hc:X.calm=true):cR X (.type "list") (fun xs H Q=>∃ p j,xs=[.ref p]/\H p=some (.rng 0 j)/\0<=j/\j<=2 ^ 24/\∀ l,H l=none->Q (.ref l) (upd H l (.lst (eO j.toNat)))):=by
 intro pins s σ H xs us Q I r h
 obtain⟨p,j,rfl,hp,h0,h1,q⟩:=h
 obtain⟨u,rfl,ru⟩:=ef r
 cases (show u=Value.ref p from ru)
 obtain⟨t,u,v,e⟩:=(show ObjOk X.prog X.w H s.heap p (.rng 0 j) from I.hok p _ hp)
 have sz:(j.toNat:Nat)<=sizeLine:=by rw[sizeLine_eq]; omega
 refine call_list_range (n:=j.toNat) (I.ok.hd hc) e (small_one (by omega) (by omega) (by omega) (by omega)) (by rw[rangeSize_one]; split <;> omega) (by omega) fun h' tk acc c hk hS hi=>?_
 refine⟨.ref s.heap.objs.size,_,I.laid hk (Nat.le_refl _) ?_,U,q _ (I.hok.fresh (Nat.le_refl _))⟩
 refine⟨by rw[c8]; exact sz,acc.toList,c,fg (P:=fun i v=>∃ t,v=.int ((0:Int)+i*1) t) (by rw[c8,Array.length_toList]; exact hi.1) (fun i v e=>hi.2 i v (by simpa using e)) (fun i v x ⟨t,e⟩ ex=>?_),by simpa using hS⟩
 subst e
 have hlt:i<j.toNat:=by
  have:=(List.getElem?_eq_some_iff.mp ex).1
  rw[c8] at this; exact this
 rw[gC hlt] at ex
 cases ex
 exact⟨t,by congr 1; omega⟩
theorem f9 (hc:X.calm=true):cR X (.type "list") (fun xs H Q=>∃ p kvs,xs=[.ref p]/\Rd H p (.dK kvs)/\∀ l,H l=none->Q (.ref l) (upd H l (.lst (kvs.map fun kv=>kV kv.1)))):=by
 intro pins s σ H xs us Q I r h
 obtain⟨p,kvs,rfl,hp,q⟩:=h
 obtain⟨u,rfl,ru⟩:=ef r
 cases (show u=Value.ref p from ru)
 obtain⟨z,hd,vs,rel,o,es,ep,g1,g2,g3,g4,g5,g6⟩:=fZ I.hok hp
 refine PySem.W.kdl_call (PySem.W.kdl_dict (knd:=aD X.prog X.w) (kvs:=vs) (ep:=ep) hd) (I.ok.hd hc) ⟨o,es,g1,g2,g3,g4,g5,g6⟩ (by rw[<- rel.length]; exact z) fun h' tk acc c hk hS hi=>?_
 refine⟨.ref s.heap.objs.size,_,I.laid hk (Nat.le_refl _) ?_,U,q _ (I.hok.fresh (Nat.le_refl _))⟩
 refine⟨by rw[wF]; exact z,acc.toList,c,fg (P:=fun i v=>∃ k x,vs[i]?=some (k,x)/\(aD X.prog X.w).is k v=true) (by rw[wF,Array.length_toList,hi.1,rel.length]) (fun i v e=>hi.2 i v (by simpa using e)) (fun i v x ⟨k,y,e1,e2⟩ ex=>?_),by simpa using hS⟩
 have hk1:(kvs.map (·.1))[i]?=some k:=by
  have:=rel.keys
  rw[this,wM,e1]; rfl
 rw[wM] at ex hk1
 cases hkv:kvs[i]? with
 | none=>rw[hkv] at ex; cases ex
 | some kv=>
  rw[hkv] at ex hk1
  cases ex
  have:kv.1=k:=by simpa using hk1
  subst this
  rcases aX (k:=kv.1) (v:=v) e2 with ⟨i,t,e3,e4⟩ | ⟨x,t,e3,e4⟩
  ·show RelV (kV kv.1) v
   rw[e3,e4]; exact⟨t,U⟩
  ·show RelV (kV kv.1) v
   rw[e3,e4]; exact⟨t,U⟩
end
theorem iE (k:Str):∀ D:List (Str×PyData),KTD.inKeys k (D.map fun p=>(p.1,KTD.Dat.flat p.2))=(D.any fun p=>decide (k=p.1))
 | []=>rfl
 | p::D=>by rw[wN,List.any_cons,KTD.inKeys,iE k D]
section
variable {X:Cx}
abbrev rJ (K:PySem.W.Frag) (a:Addr) (D:List (Str×PyData)):Prop:=KTD.tabLook KTD.flatLooks (fun b=>K.lookup b) a D=true
theorem j8 {pins:List (Addr×Obj)}{σ:St}{H:Hp}{s:Shared}{a:Addr}{D:List (Str×PyData)} (I:Inv X pins σ H s) (T:rJ X.K a D):KTD.Here s.heap s.heap a (D.map fun p=>(p.1,KTD.Dat.flat p.2)) :=
 ⟨(KTD.tab_of_look (fun _ _ x=>KTD.flat_of_looks x) (fun b o e=>I.kIn b o e) T).text,fun _ _ e=>e⟩
theorem eZ:OpR X (compareOp .NotIn) (fun x y H Q=>∃ k a D,x=V.str k/\y=V.ref a/\rJ X.K a D/\Q (.bl (!(D.any fun p=>decide (k=p.1)))) H):=by
 intro pins s σ H x y v u Q I rx ry h
 obtain⟨k,a,D,rfl,rfl,T,q⟩:=h
 obtain⟨t,rfl⟩:=(show ∃ t,v=Value.str k t from rx)
 cases (show u=Value.ref a from ry)
 refine KTD.notin_text (j8 I T) ⟨.bl (!KTD.inKeys k (D.map fun(p:Str×PyData)=>(p.1,KTD.Dat.flat p.2))),H,I.tok _,U,?_⟩
 rw[iE]; exact q
theorem wg:IxR X (fun x y H Q=>∃ k a D i,x=V.ref a/\y=V.str k/\rJ X.K a D/\D.lookup k=some (PyData.int i)/\(D.all fun p=>match p.2 with | .int _=>true | _=>false)=true/\Q (.int i) H):=by
 intro value slice pins s σ H x y v u Q I rx ry h hs
 obtain⟨k,a,D,i,rfl,rfl,T,e,hp,q⟩:=h
 cases (show v=Value.ref a from rx)
 obtain⟨t,rfl⟩:=(show ∃ t,u=Value.str k t from ry)
 have e1:∀ D:List (Str×PyData),(D.all fun p=>match p.2 with | .int _=>true | _=>false)=true->((D.map fun p=>(p.1,KTD.Dat.flat p.2)).all fun p=>KTD.plain p.2)=true:=fun D hD=>by
  rw[List.all_map]
  refine List.all_eq_true.mpr fun p hp'=>?_
  have:=List.all_eq_true.mp hD p hp'
  cases hq:p.2 <;> simp[hq] at this <;> simp[Function.comp,hq,KTD.plain]
 have e2:∀ D:List (Str×PyData),KTD.datumAt k (D.map fun p=>(p.1,KTD.Dat.flat p.2))=(D.lookup k).map KTD.Dat.flat:=fun D=>by
  induction D with
  | nil=>rfl
  | cons p D ih=>
   obtain⟨x,d⟩:=p
   rw[wN,KTD.datumAt,xc,ih]
   by_cases hk:k=x
   ·subst hk; simp
   ·have:(k == x)=false:=beq_eq_false_iff_ne.mpr hk
    simp[hk,this]
 have hT:=j8 I T
 have hat:KTD.datumAt k (D.map fun p=>(p.1,KTD.Dat.flat p.2))=some (KTD.Dat.flat (.int i)):=by rw[e2 D,e]; rfl
 have hmem:KTD.inKeys k (D.map fun p=>(p.1,KTD.Dat.flat p.2))=true:=by rw[<- KTD.isSome_datumAt,hat]; rfl
 refine subscriptTail_builtin_flat hT.typeIs slot_dict_getitem.lookup ?_ hs
 unfold getItem
 try with_reducible refine wpAny_holding ?_
 refine wpAny_bind (wpAny_sequenceKey hT.typeIs (by decide) ?_)
 refine wpAny_bind (wpAny_callSpecial?_slot (name:=Str.ofString "__getitem__") hT.typeIs slot_dict_getitem
  (wpAny_call_entry slot_dict_getitem hT.typeIs entry_dict_getitem ?_ (args_dict_getitem _ _)))
 show wpAny _ _ (dictGet a (.str k t) >>= _) _ _ s
 refine wpAny_bind (KTD.dictGet_text hT (fun d v ha hv=>wpAny_pure ⟨v,U,wpAny_pure ⟨KTD.notRef_of_plain (KTD.plain_at (e1 D hp) ha) hv,?_⟩⟩) fun hn=>absurd hn (KTD.at_of_mem hmem))
 rw[hat] at ha
 cases ha
 obtain⟨t',rfl⟩:∃ t,v=Value.int i t:=by
  exact PyProof.V.Flat.int_inv (show PyProof.V.Flat v (PyData.int i) from hv)
 exact⟨.int i,H,I.tok _,⟨_,U⟩,q⟩
end
structure FunG (K:PySem.W.Frag) (x qual:Str) (st:Stmt) (dV:Value) (f:Addr) (fd:FuncData):Prop where
 ex:∃ (oc:Value) (od:Option Addr) (kV doc pm:Value) (an:Option Addr) (cdv ct:Value) (osl:Array (Option Value)),
  fd=W.fnOf x qual (cC st) (bK st) (aj st) dV kV doc pm an cdv ct/\K.lookup f=some ⟨oc,od,.func fd,osl⟩/\W.codeIn K cdv qual=true
 kp:W.keepIn K (.ref f)=true
section
variable {P:Program}{w:World}{K:PySem.W.Frag}{mg:Str->Option Value}{base:Heap}
theorem FunG.ok {x qual:Str}{st:Stmt}{dV:Value}{f:Addr}{fd:FuncData}{N ps:List Str}{k:Nat}{sp:Sp} (F:FunG K x qual st dV f fd) (S:FnScope N ps (aj st)) (len:∀ vs H Q E,sp vs H Q E->vs.length=ps.length)
  (hbody:∀ (cdv:Value) (A:Around) (outer:List Env) (s:Shared) (H:Hp) (vs:List V) (Q:VK) (E:XK),Room k (A.deeper (envOfC qual (aj st) s.heap.objs.size f cdv))->sp vs H Q E ->
   ∃ t,PSs (eG CX0 P w K mg base N qual (aj st) f cdv A outer s H E).nox (bK st) t/\t { nx:=fun _ H'=>Q .non H',rt:=Q } (start N vs) H):FnOk P w K mg base CX0 (k+1) f fd ps sp:=by
 obtain⟨oc,od,kV,doc,pm,an,cdv,ct,osl,rfl,lk,hcd⟩:=F.ex
 refine p9 lk hcd S len fun A outer s H vs Q E hr hsp=>?_
 obtain⟨t,h,q⟩:=hbody cdv A outer s H vs Q E hr hsp
 exact⟨t,h.nox,q⟩
theorem FunG.binds {x qual:Str}{st:Stmt}{dV:Value}{f:Addr}{fd:FuncData}{ps:List Str} (F:FunG K x qual st dV f fd)
  (h:∀ (kV doc pm:Value) (an:Option Addr) (cdv ct:Value) (us:List Value),us.length=ps.length->bindArgs (W.fnOf x qual (cC st) (bK st) (aj st) dV kV doc pm an cdv ct) ⟨us,[]⟩=pure (ps.zip us)):Binds K fd ps []:=by
 obtain⟨oc,od,kV,doc,pm,an,cdv,ct,osl,rfl,lk,hcd⟩:=F.ex
 exact .all (h kV doc pm an cdv ct)
theorem funG_mk {x qual:Str}{st:Stmt}{f:Addr}{oc:Value}{od an:Option Addr}{osl:Array (Option Value)}{dV kV doc pm cdv ct:Value} (l:K.lookup f=some ⟨oc,od,.func (W.fnOf x qual (cC st) (bK st) (aj st) dV kV doc pm an cdv ct),osl⟩)
  (c:W.codeIn K cdv qual=true) (k:W.keepIn K (.ref f)=true):FunG K x qual st dV f (W.fnOf x qual (cC st) (bK st) (aj st) dV kV doc pm an cdv ct):=⟨⟨oc,od,kV,doc,pm,an,cdv,ct,osl,U,l,c⟩,k⟩
end
section
variable {X:Cx}{K:PySem.W.Frag}
theorem lT (hK:X.K=K) {es:List Expr}{k:Nat}{t:TGs}{n:Nat}{pos:Pos} (hc:X.calm=true) (h:PGs X es t)
  (hn:(assignEach es X.env).length=n:=by rfl) (hst:(assignEach es X.env).findIdx? (·.1)=none:=by rfl):PG X (.Tuple es k pos) (wj K n t):=by
 subst hK; exact dC hc h hn hst
end
end L2
namespace L2
theorem oh {σ:St}{H:Hp}{A B:Hp->Prop} (h:A H):rN σ H (fun b H3=>if b=true then A H3 else B H3):=(cP h:if true=true then A H else B H)
end L2
namespace L2
open PySem PySem.Spec PyProof.Rows
section
variable {X:Cx}{CX:CXT}{k:Nat}{f C:Addr}{fd:FuncData}{ps ks:List Str}{sp:Sp}{E:XK}{x m:Str}{p pos apos kpos:Pos}{e o:Expr}{es:List Expr}{kws:List Keyword}{te ta:TE}{t tk:TA}
 {g:List Value->List Value->List Value}{gV:List V->List V->List V}
end
end L2
namespace L2
theorem ifJ {b:Bool}{A B:Prop} (hA:b=true->B->A) (g:B):if b=true then A else B:=by
 cases b
 ·exact bL g
 ·exact cP (hA rfl g)
end L2
set_option Elab.async false
set_option linter.all false
set_option maxRecDepth 100000
namespace L2
open PySem PySem.Spec PyProof.Rows
section
variable {prog:Program}{w:World}{K:Type} [DecidableEq K] {knd:HeapKind prog w K}{A:Around}{E:Value->Shared->Prop}{s:Shared}{d a:Addr}{k:K}{xs:List (K×Addr×Value)}
theorem eR {α:Type}:∀ {xs:List (K×α)}{k:K},k ∉ xs.map (·.1)->xs.filter (fun x=>decide (x.1≠k))=xs
 | [],_,_=>rfl
 | x::xs,k,h=>by
  rw[wN,wP,not_or] at h
  rw[List.filter_cons,if_pos (by simpa using fun e=>h.1 e.symm),eR h.2]
theorem fU {α:Type}:∀ {xs:List (K×α)}{j:Nat}{k:K}{p:α},(xs.map (·.1)).Nodup->xs[j]?=some (k,p)->xs.eraseIdx j=xs.filter (fun x=>decide (x.1≠k))
 | [],_,_,_,_,h=>by simp at h
 | x::xs,0,k,p,hn,h=>by
  rw[wN,List.nodup_cons] at hn
  simp only[List.getElem?_cons_zero,Option.some.injEq] at h
  subst h
  rw[List.eraseIdx_cons_zero,List.filter_cons,if_neg (by simp),eR hn.1]
 | x::xs,j+1,k,p,hn,h=>by
  rw[wN,List.nodup_cons] at hn
  simp only[List.getElem?_cons_succ] at h
  have hmem:k ∈ xs.map (·.1):=wX.mpr ⟨(k,p),wI h,U⟩
  have hne:¬ x.1=k:=fun e=>hn.1 (e ▸ hmem)
  rw[List.eraseIdx_cons_succ,fU hn.2 h,List.filter_cons,if_pos (by simpa using hne)]
theorem fV {α β:Type} (f:α->β):∀ (xs:List α) (j:Nat),(xs.map f).eraseIdx j=(xs.eraseIdx j).map f
 | [],_=>rfl
 | _::_,0=>rfl
 | x::xs,j+1=>by rw[wN,List.eraseIdx_cons_succ,List.eraseIdx_cons_succ,wN,fV f xs j]
theorem fK {Q:Option DictEntry->Shared->Prop}{p:Addr×Value} (hu:knd.room A) (hkey:knd.is s.heap k a) (hm:s.heap.DictOfH knd d xs) (hp:atKey xs k=some p)
  (hQ:∀ h',h'.DictOfH knd d (xs.filter fun x=>decide (x.1≠k))->Heap.SameBut d s.heap h'->Q (some ⟨knd.hash k,.ref p.1,p.2⟩) { s with heap:=h',toks:=s.toks+knd.draws k })
  (hsz:xs.length<=sizeLine):wpAny (model prog w) A (Builtin.Dict.takeOut d (.ref a)) Q E s:=by
 obtain⟨o,es,ep,ho,hc,hd,he,his,hn⟩:=hm
 have hes:es.size<=sizeLine:=by have e:=size_of_entries he; omega
 unfold Builtin.Dict.takeOut
 try with_reducible refine wpAny_holding ?_
 refine wpAny_bind (knd.pyHash hu hkey (wpAny_bind (wpAny_dictFind_heap (s:={ s with toks:=s.toks+knd.draws k }) hu hkey ho hd he his hn ?_ ?_)))
 ·intro hno
  rw[atKey_none_of_get hno] at hp
  cases hp
 ·intro j q hj
  rw[atKey_of_get hn hj] at hp
  cases hp
  refine wpAny_bind (wpAny_dictEntries (s:={ s with toks:=s.toks+knd.draws k }) ho hd ?_)
  rw[entry_at he j,hj]
  show wpAny _ _ (updateDictKeys d (·.eraseIdxIfInBounds j) (keyPart (.ref a)) >>= _) _ _ _
  refine wpAny_bind (wpAny_updateDictKeys (hz:=hes) (s:={ s with toks:=s.toks+knd.draws k }) ho hd (wpAny_pure (hQ _ ⟨_,_,ep+1,Heap.get?_update_self _ ho (Obj.isFreed_of_dict (Obj.data_mapDictKeys hd _)),
   hc.mapDictKeys _,Obj.data_mapDictKeys hd _,?_,?_,?_⟩ (Heap.SameBut.update ..))))
  ·rw[<- fU hn hj,<- fV,<- he]
   obtain⟨l⟩:=es
   simp
  ·intro x hx
   exact knd.keeps (his x (List.mem_filter.mp hx).1) ho hd (Heap.SameBut.update ..)
  ·exact hn.sublist ((List.filter_sublist).map _)
theorem ff :
  MeetsIn prog w (Builtin.«dict.__delitem__» ⟨[.ref d,.ref a],[]⟩) (fun A R s=>knd.room A.in1/\∃ k xs p,knd.is s.heap k a/\s.heap.DictOfH knd d xs/\xs.length<=sizeLine/\atKey xs k=some p /\
   ∀ h',h'.DictOfH knd d (xs.filter fun x=>decide (x.1≠k))->Heap.SameBut d s.heap h'->R (.ok (.ret .none)) { s with heap:=h',toks:=s.toks+knd.draws k }) :=
 .of_wp fun A R s ⟨hu,k,xs,p,hkey,hm,hsz,hp,h⟩=>by
  unfold Builtin.«dict.__delitem__»
  refine wpAny_bind ?_
  unfold Builtin.Dict.dictSlotArgs
  refine wpAny_bind (wpAny_notOrdered_dict hm.typeIs ?_)
  show wpAny _ _ (pure (Value.ref d,Value.ref a)) _ _ s
  refine wpAny_pure ?_
  show wpAny _ _ (Builtin.Dict.takeOut d (.ref a) >>= _) _ _ s
  refine wpAny_bind (fK (hsz:=hsz) hu hkey hm hp fun h' hm' hs'=>?_)
  exact wpAny_bind (wpAny_letGo (wpAny_pure ⟨.none,U,h h' hm' hs'⟩))
theorem gQ :
  MeetsIn prog w (Builtin.«dict.pop» ⟨[.ref d,.ref a],[]⟩) (fun A R s=>knd.room A.in1/\∃ k xs p,knd.is s.heap k a/\s.heap.DictOfH knd d xs/\xs.length<=sizeLine/\atKey xs k=some p /\
   ∀ h',h'.DictOfH knd d (xs.filter fun x=>decide (x.1≠k))->Heap.SameBut d s.heap h'->R (.ok (.ret p.2)) { s with heap:=h',toks:=s.toks+knd.draws k }) :=
 .of_wp fun A R s ⟨hu,k,xs,p,hkey,hm,hsz,hp,h⟩=>by
  unfold Builtin.«dict.pop»
  refine wpAny_bind ?_
  unfold Builtin.Dict.keyAndDefault
  refine wpAny_bind (wpAny_notOrdered_dict hm.typeIs ?_)
  show wpAny _ _ (pure (d,Value.ref a,none)) _ _ s
  refine wpAny_pure ?_
  obtain⟨o,es,ep,ho,hc,hd,he,his,hn⟩:=id hm
  have hne:es.isEmpty=false:=by
   cases xs with
   | nil=>simp[atKey] at hp
   | cons x xs=>
    have e:=size_of_entries he
    rw[Array.isEmpty_eq_false_iff]
    intro z
    rw[z] at e
    simp at e
  refine wpAny_bind ?_
  refine wpAny_dictEntries ho hd (wpAny_bind (wpAny_pure ?_))
  rw[hne]
  simp only[Bool.false_eq_true,if_false]
  refine wpAny_bind (fK (hsz:=hsz) hu hkey hm hp fun h' hm' hs'=>?_)
  simp only[Option.isNone_some,Bool.false_eq_true,if_false]
  exact wpAny_bind (wpAny_letGo (wpAny_pure ⟨p.2,U,h h' hm' hs'⟩))
end
theorem KT.drop {H:Hp}{kvs:List (List Key×V)}{xs:List (List Key×Addr×Value)} (r:KT H kvs xs) (k:List Key):KT H (ar kvs k) (xs.filter fun x=>decide (x.1≠k)):=by
 unfold ar
 induction r with
 | nil=>exact .nil
 | @cons p q ps qs hq t ih=>
  rw[List.filter_cons,List.filter_cons]
  have e:p.1=q.1:=hq.1
  by_cases c:q.1=k
  ·rw[if_neg (by simpa using e.trans c),if_neg (by simpa using c)]; exact ih
  ·rw[if_pos (by simpa using fun z=>c (e.symm.trans z)),if_pos (by simpa using c)]; exact .cons hq ih
variable{Q:Value->Shared->Prop}
section
variable {X:Cx}{pins:List (Addr×Obj)}{σ:St}{H:Hp}{s:Shared}{a b:Addr}{kvs:List (List Key×V)}{k:List Key}{u:Value}{A:Around}{E:Value->Shared->Prop}
theorem lD {v:V}{Q:Unit->Shared->Prop} (hu:A.units+1<cLine) (I:Inv X pins σ H s) (e:H a=some (.dT kvs)) (eb:H b=some (.tup (k.map kV))) (l:az kvs k=some v)
  (h:∀ s',Inv X pins σ (upd H a (.dT (ar kvs k))) s'->Q () s'):wpAny (model X.prog X.w) A (delItem (.ref a) (.ref b)) Q E s:=by
 obtain⟨z,hd,xs,rel,dd⟩:=qf I.hok e
 obtain⟨w',hw,rw'⟩:=RelO.some_of (v:=v) (o:=(atKey xs k).map (·.2)) (by rw[<- l]; exact rel.val k)
 obtain⟨p,hp,hp2⟩:=Option.map_eq_some_iff.mp hw
 have hz:xs.length<=sizeLine:=by rw[<- Paired.length rel]; exact z
 refine wpAny_delItem_slot dd.typeIs (by decide) PySem.F.slot_dict_delitem
  (call_meetsIn PySem.F.slot_dict_delitem dd.typeIs PySem.F.entry_dict_delitem (PySem.F.args_dict_delitem_2 _ _) ff ⟨tupleKind_room_in1 hu,k,xs,p,dF I.hok eb,dd,hz,hp,fun h' dd' hs=>h _ ?_⟩)
 obtain⟨q,es,ep,hq,h2,h3,h4,_,h5⟩:=dd'
 refine dB I (by rw[e]; exact True.intro) hs ⟨q,hq⟩ ⟨Nat.le_trans (fY kvs k) z,hd,_,(rel.drop k).keeps fun c ys ec=>?_,q,es,ep,hq,h2,h3,h4,h5⟩
 rw[aA (pJ ec e (fun z=>nomatch z))]
 exact ec
theorem uV {v:V} (hu:A.units+1<cLine) (I:Inv X pins σ H s) (e:H a=some (.dT kvs)) (eb:H b=some (.tup (k.map kV))) (l:az kvs k=some v)
  (h:∀ w' s',Inv X pins σ (upd H a (.dT (ar kvs k))) s'->RelV v w'->Q w' s'):wpAny (model X.prog X.w) A (call (.builtin "dict.pop") [.ref a,.ref b]) Q E s:=by
 obtain⟨z,hd,xs,rel,dd⟩:=qf I.hok e
 obtain⟨w',hw,rw'⟩:=RelO.some_of (v:=v) (o:=(atKey xs k).map (·.2)) (by rw[<- l]; exact rel.val k)
 obtain⟨p,hp,hp2⟩:=Option.map_eq_some_iff.mp hw
 have hz:xs.length<=sizeLine:=by rw[<- Paired.length rel]; exact z
 refine call_meetsIn PySem.F.slot_dict_pop dd.typeIs PySem.F.entry_dict_pop (PySem.F.args_dict_pop_2 _ _) gQ ⟨tupleKind_room_in1 hu,k,xs,p,dF I.hok eb,dd,hz,hp,fun h' dd' hs=>h _ _ ?_ (by rw[hp2]; exact rw')⟩
 obtain⟨q,es,ep,hq,h2,h3,h4,_,h5⟩:=dd'
 refine dB I (by rw[e]; exact True.intro) hs ⟨q,hq⟩ ⟨Nat.le_trans (fY kvs k) z,hd,_,(rel.drop k).keeps fun c ys ec=>?_,q,es,ep,hq,h2,h3,h4,h5⟩
 rw[aA (pJ ec e (fun z=>nomatch z))]
 exact ec
end
variable{pins:List (Addr×Obj)}
section
variable {X:Cx}{o i e:Expr}{td ty:TE}{tpos pos apos cpos:Pos}
def tR (td ty:TE):TS:=fun D σ H=>td σ H fun x H1=>ty σ H1 fun y H2=>∃ a b kvs k v,x=.ref a/\y=.ref b/\H2 a=some (.dT kvs)/\H2 b=some (.tup (k.map kV))/\az kvs k=some v/\D.nx σ (upd H2 a (.dT (ar kvs k)))
theorem fN (hu:X.A.units+1<cLine) (ho:PE X o td) (hi:PE X i ty):PS X (.Delete [.Subscript o i tpos] pos) (tR td ty):=by
 intro pins s σ H D I h
 refine wpAny_Delete (wpAny_deleteEach_cons (wpAny_delete_Subscript (thn (ho pins s σ H _ I h) fun u s1 ⟨x,H1,I1,rx,q1⟩=>thn (hi pins s1 σ H1 _ I1 q1) fun iv s2 ⟨y,H2,I2,ry,a,b,kvs,k,v,ex,ey,e,eb,l,q2⟩=>?_)))
 subst ex ey
 obtain rfl:u=Value.ref a:=rx
 obtain rfl:iv=Value.ref b:=ry
 exact lD hu I2 e eb l fun s3 I3=>wpAny_deleteEach_nil ⟨σ,_,I3,q2⟩
def tE (td ty:TE):TE:=fun σ H Q=>td σ H fun x H1=>∃ a,x=.ref a/\IsD H1 a/\ty σ H1 fun y H2=>∃ b kvs k v,y=.ref b/\H2 a=some (.dT kvs)/\H2 b=some (.tup (k.map kV))/\az kvs k=some v/\Q v (upd H2 a (.dT (ar kvs k)))
theorem ki (hu:X.A.units+1<cLine) (ho:PE X o td) (he:PE X e ty) (m:M1 X o "pop" apos e cpos):PE X (.Call (.Attribute o "pop" apos) [e] [] cpos) (tE td ty):=by
 intro pins s σ H Q I h
 refine wpAny_Call_method m.base m.few m.line PySem.F.plainAttrs_dict PySem.F.slot_dict_pop PySem.F.type_dict_pop (thn (ho pins s σ H _ I h) fun u s1 ⟨x,H1,I1,rx,a,ex,d,q1⟩=>?_)
 subst ex
 obtain rfl:u=Value.ref a:=rx
 obtain⟨t1,t2,_⟩:=jP I1 d
 refine⟨t1,t2,?_⟩
 rw[m.trees]
 refine Calls.callWith_builtin rfl (Calls.evalArgs_plain (Calls.spliced_cons (thn (he pins s1 σ H1 _ I1 q1) fun iv s2 ⟨y,H2,I2,ry,b,kvs,k,v,ey,ea,eb,l,q2⟩=>Calls.spliced_nil ?_)))
 subst ey
 obtain rfl:iv=Value.ref b:=ry
 exact uV hu I2 ea eb l fun w' s3 I3 rw'=>⟨v,_,I3,rw',q2⟩
theorem qR:OpR X (binaryOp .Add) (fun x y H Q=>∃ a b xs ys,x=.ref a/\y=.ref b/\SqL X.K H a xs/\SqL X.K H b ys/\xs.length+ys.length<=sizeLine/\∀ l,H l=none->Q (.ref l) (upd H l (.lst (xs++ys)))):=by
 intro pins s σ H x y u v Q I rx ry h
 obtain⟨a,b,xs,ys,rfl,rfl,ha,hb,hz,q⟩:=h
 cases (show u=Value.ref a from rx)
 cases (show v=Value.ref b from ry)
 obtain⟨ia,ra,⟨⟨cls,dd,data,sl⟩,n,ho,hc,_,hd⟩,_⟩:=I.list ha
 obtain⟨ib,rb,⟨⟨cls2,dd2,data2,sl2⟩,n2,ho2,hc2,_,hd2⟩,_⟩:=I.list hb
 simp only at hc hd hc2 hd2
 subst hc hd hc2 hd2
 have e:ia.toArray++ib.toArray=(ia++ib).toArray:=by simp
 have e1:=ra.length
 have e2:=rb.length
 refine concat_meets ⟨_,ho,U⟩ ⟨_,ho2,U⟩ noFill_list_add seq_list_add PySem.F.slot_list_add PySem.F.entry_list_add (PySem.F.args_list_add_2 _ _) (list_addW a b ia.toArray ib.toArray n n2 dd dd2 sl sl2 (by simp; omega)) ⟨ho,ho2,?_⟩
 rw[e]
 refine⟨.ref s.heap.objs.size,_,I.laid (a:=s.heap.objs.size) (o:=.lst (xs++ys)) (t':=s.toks) (fun _ _ q=>Heap.get?_push_of_some _ q) (Nat.le_refl _) ⟨by simpa using hz,ia++ib,0,ra.append rb,Heap.get?_push_size _ rfl⟩,U,q _ (I.hok.fresh (Nat.le_refl _))⟩
theorem fw {h:Heap}:∀ {ns:List Int}{vs:List Value},Vals (ns.map V.int) vs->ReadsAll h vs (ns.map PyData.int) []
 | [],_,r=>by cases r; exact .nil
 | n::ns,_,r=>by
  cases r with
  | cons r1 r2=>
   obtain⟨t,rfl⟩:=r1
   exact .cons (as:=[]) (.int _ t) (fw r2)
theorem gj {s:Shared}{σ:St}{H:Hp}{a:Addr}{ns:List Int} (I:Inv X pins σ H s) (h:H a=some (.tup (ns.map V.int))):Reads s.heap (.ref a) (.tuple (ns.map PyData.int)) []:=by
 obtain⟨_,its,r,o,h1,h2,n,h3⟩:=(show ObjOk X.prog X.w H s.heap a (.tup (ns.map V.int)) from I.hok a _ h)
 exact reads_tuple_at h1 h2 h3 (by simpa using fw r)
theorem g9 (ns:List Int):SeqAt.shaped (.tuple (ns.map PyData.int))=true:=by
 simp[SeqAt.shaped,PyData.canLay0,PyData.depth,PySem.W.ke_canLayAll0,PySem.W.ke_depthAll]
theorem oE (ns ms:List Int):PySem.Spec.same (.tuple (ns.map PyData.int)) (.tuple (ms.map PyData.int))=decide (ns=ms):=by
 simp only[PySem.Spec.same]; exact PySem.W.ke_sameAll ns ms
def rTup (neg:Bool):R2:=fun x y H Q=>∃ (a b:Addr) (ns ms:List Int),x=.ref a/\y=.ref b/\H a=some (.tup (ns.map V.int))/\H b=some (.tup (ms.map V.int))/\Q (.bl (if neg then !decide (ns=ms) else decide (ns=ms))) H
theorem lF (ns:List Int):(Shape.tuples .int).has (.tuple (ns.map PyData.int))=true:=by
 simp only[Shape.has]
 induction ns with
 | nil=>rfl
 | cons n ns ih=>simp[Shape.hasAll,Shape.has] at ih ⊢; try exact ih
theorem jH (hu:X.A.units+64<cLine):OpR X (compareOp .Eq) (rTup false):=by
 intro pins s σ H x y u v Q I rx ry h
 obtain⟨a,b,ns,ms,rfl,rfl,ha,hb,q⟩:=h
 cases (show u=Value.ref a from rx)
 cases (show v=Value.ref b from ry)
 exact eq_dataH_same (gj I ha) (gj I hb) (g9 _) (g9 _) hu (SeqAt.noMix_of_shape (.tuples .int) rfl _ _ (lF ns) (lF ms)) (by rw[oE]; exact aW I q (by simp))
end
abbrev iU:=Option Key
def ph:iU->Value->Bool
 | none,.none=>true
 | none,_=>false
 | some k,v=>iC k v
def okeyH (w:World):iU->Int
 | none=>reduceHash 0xFCA86420
 | some k=>wf w k
theorem cn {v:Value} (h:ph none v=true):v=.none:=by cases v <;> first | rfl | cases h
section
variable {prog:Program}{w:World}{A:Around}{E:Value->Shared->Prop}{s:Shared}
theorem fH {Q:Int->Shared->Prop} (h:Q (reduceHash 0xFCA86420) { s with toks:=s.toks+1 }):wpAny (model prog w) A (pyHash .none) Q E s :=
 PySem.W.pyHash_slot (T := "NoneType") rfl F.slot_NoneType_hash F.entry_NoneType_hash (F.args_NoneType_hash_1 _) (beq_builtin_none _) (.inl rfl) (wpAny_bind (wpAny_pure (wpAny_bind (wpAny_mkInt (wpAny_pure ⟨_,_,U,h⟩)))))
end
theorem qi (a b:Key):decide ((some a:iU)=some b)=decide (a=b):=by
 by_cases e:a=b
 ·subst e; simp
 ·rw[decide_eq_false e,decide_eq_false (fun q=>e (Option.some.inj q))]
def eX (prog:Program) (w:World):PySem.KeyKind prog w iU where
 is:=ph
 hash:=okeyH w
 inj:=fun v a b ha hb=>by
  cases a with
  | none=>
   cases b with
   | none=>rfl
   | some b=>rw[cn ha] at hb; rcases aX (k:=b) hb with ⟨_,_,_,e⟩ | ⟨_,_,_,e⟩ <;> cases e
  | some a=>
   cases b with
   | none=>rw[cn hb] at ha; rcases aX (k:=a) ha with ⟨_,_,_,e⟩ | ⟨_,_,_,e⟩ <;> cases e
   | some b=>exact congrArg some ((aD prog w).inj v a b ha hb)
 byValue:=fun k v h=>by
  cases k with
  | none=>rw[cn h]; rfl
  | some k=>exact(aD prog w).byValue k v h
 pyHash:=fun {A E s k v Q} hv h=>by
  cases k with
  | none=>rw[cn hv]; exact fH h
  | some k=>exact(aD prog w).pyHash hv h
 eqBool:=fun {A E s a b u v Q} hu hv h=>by
  cases a with
  | none=>
   have e1:=cn hu
   subst e1
   cases b with
   | none=>
    have e2:=cn hv
    subst e2
    exact SeqAt.EqAt.same _ _ _ _ _ h
   | some b=>
    rw[decide_eq_false (fun q=>nomatch q)] at h
    rcases aX (k:=b) hv with ⟨j,t,_,rfl⟩ | ⟨y,t,_,rfl⟩
    ·exact SeqAt.EqAt.none_int _ _ _ _ _ _ h
    ·exact SeqAt.EqAt.none_str _ _ _ _ _ _ h
  | some a=>
   cases b with
   | none=>
    have e2:=cn hv
    subst e2
    rw[decide_eq_false (fun q=>nomatch q)] at h
    rcases aX (k:=a) hu with ⟨j,t,_,rfl⟩ | ⟨y,t,_,rfl⟩
    ·exact SeqAt.EqAt.int_none _ _ _ _ _ _ h
    ·exact SeqAt.EqAt.str_none _ _ _ _ _ _ h
   | some b=>rw[qi] at h; exact(aD prog w).eqBool (a:=a) (b:=b) hu hv h
 «strs»:=fun k x t v h=>by
  cases k with
  | none=>cases h
  | some k=>exact(aD prog w).strs k x t v h
variable{P:Program}{w:World}
theorem lx {ks:List Key}{us:List Value} (h:ItemsAre (aD P w) ks us):ItemsAre (eX P w) (ks.map some) us:=by
 induction h with
 | nil=>exact .nil
 | cons a b ih=>exact .cons a ih
theorem jX {h:Heap}{a:Addr}{xs:List (List Key×Addr×Value)} (d:h.DictOfH (tupleKind (aD P w)) a xs) :
  h.DictOfH (tupleKind (eX P w)) a (xs.map fun x=>(x.1.map some,x.2)):=by
 obtain⟨o,es,ep,h1,h2,h3,h4,h5,h6⟩:=d
 refine⟨o,es,ep,h1,h2,h3,?_,?_,?_⟩
 ·rw[h4,xg]
  refine List.map_congr_left fun x _=>?_
  show entryOfKey _ x=entryOfKey _ (x.1.map some,x.2)
  unfold entryOfKey
  have e:(tupleKind (aD P w)).hash x.1=(tupleKind (eX P w)).hash (x.1.map some):=by
   show reduceHash _=reduceHash _
   rw[xg]
   rfl
  rw[e]
 ·intro x hx
  obtain⟨y,hy,rfl⟩:=wX.mp hx
  obtain⟨o,its,n,g1,g2,g3,g4⟩:=h5 y hy
  exact⟨o,its,n,g1,g2,g3,lx g4⟩
 ·rw[xg]
  have:(fun x:List Key×Addr×Value=>(x.1.map some,x.2).1)=(List.map some) ∘ fun x=>x.1:=rfl
  show List.Nodup (xs.map ((fun x=>x.1) ∘ fun x=>(x.1.map some,x.2)))
  have e:((fun x:List iU×Addr×Value=>x.1) ∘ fun x:List Key×Addr×Value=>(x.1.map some,x.2))=(List.map (some:Key->iU)) ∘ fun x=>x.1:=rfl
  rw[e,<- xg]
  have inj:Function.Injective (some:Key->iU):=fun _ _ h=>Option.some.inj h
  refine List.Pairwise.map _ (fun a b hab hc=>hab ?_) h6
  exact List.map_inj_right (fun _ _ h=>Option.some.inj h) |>.mp hc
def qz (H:Hp) (a:Addr) (y:V) (r:Option V):Prop :=
 DGet H a y r∨∃ (kvs:List (List Key×V)) (n:Int) (b:Addr),Rd H a (.dT kvs)/\y=.ref b/\H b=some (.tup [.int n,.non])/\r=none
section
variable {X:Cx}{pins:List (Addr×Obj)}{σ:St}{H:Hp}{s:Shared}{a:Addr}{y v:V}{u r:Value}{o:Option V}{A:Around}{E:Value->Shared->Prop}
theorem rc {h:Heap}{n:Int}{b:Addr} (ok:HOk P w H h) (e:H b=some (.tup [.int n,.non])):(tupleKind (eX P w)).is h [some (Sum.inl n),none] b:=by
 obtain⟨_,its,r,o,h1,h2,m,h3⟩:=(show ObjOk P w H h b (.tup [.int n,.non]) from ok b _ e)
 refine⟨o,its.toArray,m,h1,h2,h3,?_⟩
 cases r with
 | cons r1 r2=>
  cases r2 with
  | cons r2 r3=>
   cases r3
   obtain⟨t,rfl⟩:=(show ∃ t,_=Value.int n t from r1)
   obtain rfl:=(show _=Value.none from r2)
   refine .cons ?_ (.cons rfl .nil)
   exact jl n t
theorem kP (xs:List (List Key×Addr×Value)) (n:Int):atKey (xs.map fun x=>(x.1.map (some:Key->iU),x.2)) [some (Sum.inl n),none]=none:=by
 unfold atKey
 rw[Option.map_eq_none_iff,List.find?_eq_none]
 intro x hx
 obtain⟨y,hy,rfl⟩:=wX.mp hx
 intro h
 have h:=of_decide_eq_true h
 have:(none:iU) ∈ y.1.map (some:Key->iU):=by
  rw[show y.1.map (some:Key->iU)=[some (Sum.inl n),none] from h]
  exact .tail _ (.head _)
 obtain⟨z,_,hz⟩:=wX.mp this
 cases hz
theorem qk (hu:A.units+1<cLine) (I:Inv X pins σ H s) (g:qz H a y o) (ry:RelV y u) (h:∀ s',Inv X pins σ H s'->Q (.bool (!o.isSome)) s') :
  wpAny (model X.prog X.w) A (compareOp .NotIn u (.ref a)) Q E s:=by
 rcases g with g | ⟨kvs,n,b,e,ey,eb,rfl⟩
 ·exact mM hu I g ry h
 ·subst ey
  cases (show u=Value.ref b from ry)
  obtain⟨z,hd,xs,rel,dd⟩:=fW I.hok e
  refine wpAny_notIn_heap (tupleKind_room_in1 hu) (rc I.hok eb) hd (jX dd) ?_
  rw[kP]
  exact h _ (I.tok _)
end
def oj (ty td:TE):TE:=fun σ H Q=>ty σ H fun y H1=>td σ H1 fun x H2=>∃ a o,x=.ref a/\qz H2 a y o/\Q (.bl (!o.isSome)) H2
theorem k8 {X:Cx}{i o:Expr}{ty td:TE} (hu:X.A.units+1<cLine) (hi:PE X i ty) (ho:PE X o td):PC X .NotIn i o (oj ty td):=by
 intro pins s σ H Q I h
 refine thn (hi pins s σ H _ I h) fun iv s1 ⟨y,H1,I1,ry,q1⟩=>thn (ho pins s1 σ H1 _ I1 q1) fun u s2 ⟨x,H2,I2,rx,a,ov,ex,g,q2⟩=>?_
 subst ex
 obtain rfl:u=Value.ref a:=rx
 exact qk hu I2 g ry fun s3 I3=>⟨.bl (!ov.isSome),H2,I3,U,q2⟩
theorem sR {α:Type} (f:α->Int):∀ (L:List α) (y:α),(L.map f).Nodup->y ∈ L->(L.filter fun x=>f x == f y).length=1
 | [],y,_,h=>nomatch h
 | x::L,y,n,h=>by
  rw[wN,List.nodup_cons] at n
  rw[List.filter_cons]
  rcases wP.mp h with rfl | h
  ·rw[if_pos (by simp),wQ,List.filter_eq_nil_iff.mpr (fun a ha e=>n.1 (wX.mpr ⟨a,ha,by simpa using e⟩))]
   rfl
  ·rw[if_neg (fun e=>n.1 (wX.mpr ⟨y,h,(show f y=f x by rw[(show f x=f y by simpa using e)])⟩)),sR f L y n.2 h]
section
variable {prog:Program}{w:World}{A:Around}{E:Value->Shared->Prop}{s:Shared}{K:Type} [DecidableEq K] {knd:PySem.KeyKind prog w K}
theorem mX {nm:String}{d o:Addr}{xs:List (List K×Addr×Value)}{Q:Unit->Shared->Prop} (hne:d≠o) (hs:(o == sysModules)=false) (dd:s.heap.DictOfH (tupleKind knd) d []) (od:s.heap.DictOfH (tupleKind knd) o xs)
  (nd:(xs.map fun x=>(tupleKind knd).hash x.1).Nodup) (hz:xs.length<=sizeLine) (h:∀ h',h'.DictOfH (tupleKind knd) d xs->Heap.SameBut d s.heap h'->Q () { s with heap:=h' }) :
  wpAny (model prog w) A (Builtin.Dict.mergeDict nm d o) Q E s:=by
 obtain⟨o1,es1,ep1,g1,x1,d1,l1,_,_⟩:=id dd
 obtain⟨o2,es2,ep2,g2,x2,d2,l2,i2,n2⟩:=id od
 unfold Builtin.Dict.mergeDict
 rw[if_neg (by simpa using hne)]
 refine wpAny_bind ?_
 unfold Builtin.Dict.showsAll
 rw[if_neg (by rw[hs]; exact Bool.false_ne_true)]
 refine wpAny_pure (wpAny_bind (wpAny_dictEntries g2 d2 ?_))
 dsimp only
 have z1:es1 = #[]:=by apply Array.ext'; rw[l1]; rfl
 subst z1
 cases xs with
 | nil=>
  have z2:es2 = #[]:=by apply Array.ext'; rw[l2]; rfl
  subst z2
  rw[if_neg (by simp)]
  refine wpAny_bind (wpAny_dictEpoch g2 d2 ?_)
  refine wpAny_bind (wpAny_dictEntries g2 d2 ?_)
  refine wpAny_bind (wpAny_of_eq (a:=PUnit.unit) (by simp[Std.Legacy.Range.forIn_eq_forIn_range']) ?_)
  exact wpAny_pure (h _ dd (Heap.SameBut.refl _ _))
 | cons x xs=>
  have hfew:(decide (es2.size<=8) && es2.all fun e=>(keyPart e.key).isSome)=false:=by
   rw[Bool.and_eq_false_iff]; right
   rw[<- Array.all_toList,l2]
   rfl
  rw[hfew,if_pos (show(!false)=true from rfl)]
  refine wpAny_bind (wpAny_dictEntries g1 d1 ?_)
  rw[if_pos (show(#[]:Array DictEntry).isEmpty=true from rfl)]
  refine wpAny_bind ?_
  unfold Builtin.Dict.entriesForEmpty
  refine wpAny_bind (wpAny_dictEntries g2 d2 ?_)
  refine wpAny_bind ?_
  rw[<- Array.forIn_toList]
  refine wpAny_forIn_list _ (fun rest b s'=>s'=s/\∀ e ∈ rest,e ∈ es2.toList) _ ?_ ?_ _ _ ⟨U,fun e he=>he⟩
  ·rintro e rest b s' ⟨rfl,hr⟩
   have he:=hr e (wJ ..)
   rw[l2] at he
   obtain⟨y,hy,rfl⟩:=wX.mp he
   obtain⟨o3,its,n3,q1,q2,q3,q4⟩:=(show IsTupleKey knd s'.heap y.1 y.2.1 from i2 y hy)
   refine wpAny_bind ?_
   show wpAny _ _ (Builtin.Dict.quietEq (.ref y.2.1)) _ _ _
   unfold Builtin.Dict.quietEq
   refine wpAny_bind (wpAny_specialOf (T := "tuple") ⟨o3,q1,q2⟩ F.slot_tuple_eq.lookup (wpAny_pure ?_))
   rw[if_pos (by decide +kernel)]
   have hone:(es2.filter fun x=>x.hash == (entryOfKey (tupleKind knd) y).hash).size=1:=by
    rw[<- Array.length_toList,Array.toList_filter,l2,List.filter_map,wF]
    exact sR (fun x:List K×Addr×Value=>(tupleKind knd).hash x.1) _ y nd hy
   rw[if_neg (by rw[hone]; decide)]
   exact wpAny_pure ⟨U,fun e he=>hr e (wE _ he)⟩
  ·rintro b s' ⟨rfl,_⟩
   refine wpAny_pure ?_
   have hes:es2.isEmpty=false:=by
    cases hh:es2.isEmpty with
    | false=>rfl
    | true=>
     rw[Array.isEmpty_iff] at hh
     rw[hh] at l2; cases l2
   rw[hes,if_pos (show(!false)=true from rfl)]
   refine wpAny_bind (wpAny_updateDictKeysTo g1 d1 ?_ ?_)
   ·refine wpAny_pure (h _ ⟨_,es2,ep1+1,Heap.get?_update_self _ g1 (Obj.isFreed_of_dict (Obj.data_mapDictKeys d1 _)),x1.mapDictKeys _,Obj.data_mapDictKeys d1 _,l2,fun y hy=>?_,n2⟩ (Heap.SameBut.update _ _ _))
    obtain⟨o3,its,n3,q1,q2,q3,q4⟩:=(show IsTupleKey knd s'.heap y.1 y.2.1 from i2 y hy)
    have ne:y.2.1≠d:=fun e=>by rw[e,g1] at q1; cases q1; rw[x1.1] at q2; exact absurd q2 (by decide +kernel)
    exact⟨o3,its,n3,((Heap.SameBut.update s'.heap d _).2 _ ne).trans q1,q2,q3,q4⟩
   ·show es2.size<=_
    rw[<- Array.length_toList,l2,wF]
    omega
theorem nW {o:Addr}{xs:List (List K×Addr×Value)} (hs:(o == sysModules)=false) (od:s.heap.DictOfH (tupleKind knd) o xs)
  (nd:(xs.map fun x=>(tupleKind knd).hash x.1).Nodup) (hz:xs.length<=sizeLine) (h:∀ h',h'.DictOfH (tupleKind knd) s.heap.objs.size xs->Heap.SameBut s.heap.objs.size (s.heap.push { cls:=.type "dict",data:=.dict #[] }) h'->Q (.ref s.heap.objs.size) { s with heap:=h' }) :
  wpAny (model prog w) A (call (.type "dict") [.ref o]) Q E s:=by
 refine callType_codes F.kt_called_dict (F.kt_typeCall_dict_1 _) F.entry_dict_init (kt_code_dict_new (Q₁:=fun obj s₁=>obj=.ref s.heap.objs.size/\s₁={ s with heap:=s.heap.push { cls:=.type "dict",data:=.dict #[] } }) _ ⟨U,U⟩) ?_
 rintro obj s₁ ⟨rfl,rfl⟩
 have hne:s.heap.objs.size≠o:=by
  obtain⟨o2,es2,ep2,g2,_⟩:=od
  exact Nat.ne_of_gt (Heap.lt_size g2)
 have keep:∀ b ob,s.heap.get? b=some ob->(s.heap.push { cls:=.type "dict",data:=.dict #[] }).get? b=some ob:=fun b ob e=>Heap.get?_push_of_some _ e
 have dd:(s.heap.push { cls:=.type "dict",data:=.dict #[] }).DictOfH (tupleKind knd) s.heap.objs.size []:=⟨_,#[],0,Heap.get?_push_size _ rfl,⟨U,U,U⟩,U,U,fun _ h=>(nomatch h),List.nodup_nil⟩
 have od':(s.heap.push { cls:=.type "dict",data:=.dict #[] }).DictOfH (tupleKind knd) o xs:=by
  obtain⟨o2,es2,ep2,g2,x2,d2,l2,i2,n2⟩:=od
  refine⟨o2,es2,ep2,keep _ _ g2,x2,d2,l2,fun y hy=>?_,n2⟩
  obtain⟨o3,its,n3,q1,q⟩:=(show IsTupleKey knd s.heap y.1 y.2.1 from i2 y hy)
  exact⟨o3,its,n3,keep _ _ q1,q⟩
 have td:Shared.TypeIs { s with heap:=s.heap.push { cls:=.type "dict",data:=.dict #[] } } (.ref s.heap.objs.size) "dict":=⟨_,Heap.get?_push_size _ rfl,U⟩
 have to:Shared.TypeIs { s with heap:=s.heap.push { cls:=.type "dict",data:=.dict #[] } } (.ref o) "dict":=by
  obtain⟨o2,es2,ep2,g2,x2,_⟩:=od'
  exact⟨o2,g2,x2.1⟩
 refine⟨td,F.args_dict_init_2 _ _,?_⟩
 unfold Builtin.«dict.__init__»
 refine wpAny_bind ?_
 unfold Builtin.Dict.selfAndRest
 refine wpAny_bind (wpAny_notOrdered_dict td ?_)
 show wpAny _ _ (Builtin.Dict.addrOf (.ref s.heap.objs.size) >>= _) _ _ _
 refine wpAny_bind (wpAny_of_eq (a:=s.heap.objs.size) rfl (wpAny_pure ?_))
 show wpAny _ _ (Builtin.Dict.updateFrom "dict.__init__" s.heap.objs.size (.ref o) [] .none) _ _ _
 unfold Builtin.Dict.updateFrom
 refine wpAny_bind (wpAny_typeOf to ?_)
 rw[if_neg (by decide +kernel)]
 refine wpAny_bind ?_
 unfold Builtin.Dict.merge
 refine wpAny_bind ?_
 unfold Builtin.Dict.readDirectly
 refine wpAny_bind (wpAny_isInstance to isSubtype_dict_dict ?_)
 rw[if_neg (by decide)]
 refine wpAny_bind (wpAny_specialOf to F.slot_dict_iter.lookup (wpAny_pure ?_))
 rw[if_pos (by decide +kernel)]
 refine wpAny_bind (wpAny_of_eq (a:=o) rfl ?_)
 refine mX (knd:=knd) hne hs dd od' nd hz fun h' dd' sb=>?_
 refine wpAny_bind (wpAny_of_eq (a:=()) rfl ?_)
 exact wpAny_pure ⟨U,h h' dd' sb⟩
end
theorem fj {α β:Type} (f:α->β):∀ {l:List α},l.Nodup->(∀ a ∈ l,∀ b ∈ l,f a=f b->a=b)->(l.map f).Nodup
 | [],_,_=>List.nodup_nil
 | x::l,n,h=>by
  rw[List.nodup_cons] at n
  rw[wN,List.nodup_cons]
  refine⟨fun m=>?_,fj f n.2 (fun a ha b hb=>h a (wE _ ha) b (wE _ hb))⟩
  obtain⟨y,hy,e⟩:=wX.mp m
  exact n.1 (h y (wE _ hy) x (wJ ..) e ▸ hy)
abbrev iF (P:Program) (w:World) (k:List Key):Int:=(tupleKind (aD P w)).hash k
section
variable {X:Cx}
theorem ee:cR X (.type "dict") (fun xs H Q=>∃ p kvs,xs=[.ref p]/\Rd H p (.dK kvs)/\∀ l,H l=none->Q (.ref l) (upd H l (.dK kvs))):=by
 intro pins s σ H xs us Q I r h
 obtain⟨p,kvs,rfl,hp,q⟩:=h
 obtain⟨u,rfl,ru⟩:=ef r
 cases (show u=Value.ref p from ru)
 exact ql I hp fun l s' hl I'=>⟨.ref l,_,I',U,q l hl⟩
theorem iQ:cR X (.type "dict") (fun xs H Q=>∃ p kvs,xs=[.ref p]/\Rd H p (.dT kvs)/\(∀ k1 ∈ kvs.map (·.1),∀ k2 ∈ kvs.map (·.1),iF X.prog X.w k1=iF X.prog X.w k2->k1=k2)/\∀ l,H l=none->Q (.ref l) (upd H l (.dT kvs))):=by
 intro pins s σ H xs us Q I r h
 obtain⟨p,kvs,rfl,hp,hi,q⟩:=h
 obtain⟨u,rfl,ru⟩:=ef r
 cases (show u=Value.ref p from ru)
 obtain⟨z,hd,xs,rel,dd⟩:=fW I.hok hp
 have ek:xs.map (·.1)=kvs.map (·.1):=by
  clear dd z hi hp q
  induction rel with
  | nil=>rfl
  | cons a b ih=>rw[wN,wN,ih,a.1]
 have el:xs.length=kvs.length:=by have:=congrArg List.length ek; rwa [wF,wF] at this
 have nd:(xs.map fun x=>(tupleKind (aD X.prog X.w)).hash x.1).Nodup:=by
  obtain⟨_,_,_,_,_,_,_,_,n2⟩:=id dd
  have e:(xs.map fun x=>(tupleKind (aD X.prog X.w)).hash x.1)=(xs.map (·.1)).map (iF X.prog X.w):=by rw[xg]; rfl
  rw[e]
  rw[ek] at n2 ⊢
  exact fj _ n2 hi
 refine nW (knd:=aD X.prog X.w) hd dd nd (by omega) fun h' dd' sb=>?_
 obtain⟨o,es,ep,g1,g2,g3,g4,g5,g6⟩:=dd'
 refine⟨.ref s.heap.objs.size,_,I.laid (a:=s.heap.objs.size) (o:=.dT kvs) (t':=s.toks) (fun b q hq=>?_) (Nat.le_refl _) ?_,U,q _ (I.hok.fresh (Nat.le_refl _))⟩
 ·exact(sb.2 b (Nat.ne_of_lt (Heap.lt_size hq))).trans (Heap.get?_push_of_some _ hq)
 ·refine⟨z,beq_eq_false_iff_ne.mpr (Ne.symm (Nat.ne_of_lt I.big)),xs,?_,o,es,ep,g1,g2,g3,g4,g6⟩
  refine rel.keeps fun b ys hb=>?_
  rw[aA (fun e=>by rw[e,I.hok.fresh (Nat.le_refl _)] at hb; cases hb)]
  exact hb
end
section
variable {X:Cx}
theorem ja {s:Shared}{σ:St}{H:Hp}{a:Addr}{ns:List Int} (I:Inv X pins σ H s) (h:SqL X.K H a (ns.map V.int)):Reads s.heap (.ref a) (.list (ns.map PyData.int)) [a]:=by
 obtain⟨its,r,⟨o,n,e,c,d,dd⟩,hz⟩:=I.list h
 exact reads_list_at e c dd (by simpa using fw r)
theorem hG (ns:List Int):SeqAt.shaped (.list (ns.map PyData.int))=true:=by
 simp[SeqAt.shaped,PyData.canLay0,PyData.depth,PySem.W.ke_canLayAll0,PySem.W.ke_depthAll]
theorem oF (ns ms:List Int):PySem.Spec.same (.list (ns.map PyData.int)) (.list (ms.map PyData.int))=decide (ns=ms):=by
 simp only[PySem.Spec.same]; exact PySem.W.ke_sameAll ns ms
theorem my (ns:List Int):(Shape.list .int).has (.list (ns.map PyData.int))=true:=by
 simp only[Shape.has]
 induction ns with
 | nil=>rfl
 | cons n ns ih=>simp[Shape.hasAll,Shape.has] at ih ⊢; try exact ih
def rLst (K:PySem.W.Frag) (neg:Bool):R2:=fun x y H Q=>∃ (a b:Addr) (ns ms:List Int),x=.ref a/\y=.ref b/\SqL K H a (ns.map V.int)/\SqL K H b (ms.map V.int)/\Q (.bl (if neg then !decide (ns=ms) else decide (ns=ms))) H
theorem tZ (hu:X.A.units+64<cLine):OpR X (compareOp .Eq) (rLst X.K false):=by
 intro pins s σ H x y u v Q I rx ry h
 obtain⟨a,b,ns,ms,rfl,rfl,ha,hb,q⟩:=h
 cases (show u=Value.ref a from rx)
 cases (show v=Value.ref b from ry)
 exact eq_dataH_same (ja I ha) (ja I hb) (hG _) (hG _) hu (SeqAt.noMix_of_shape (.list .int) rfl _ _ (my ns) (my ms)) (by rw[oF]; exact aW I q (by simp))
def tAsg2 (te:TE) (g1 g2:TG):TS:=fun D σ H=>te σ H fun x H1=>g1 x σ H1 fun σ2 H2=>g2 x σ2 H2 D.nx
theorem qM {t1 t2 e:Expr}{te:TE}{g1 g2:TG}{pos:Pos} (he:PE X e te) (h1:PG X t1 g1) (h2:PG X t2 g2) (hs:swapsWithSole [t1,t2] e pos.line X.env=pure false:=by rfl) (hw:swappedStores [t1,t2] e X.env=pure none:=by rfl)
  (ha:(assignEach [t1,t2] X.env).map (·.2)=[assign t1 X.env,assign t2 X.env]:=by rfl):PS X (.Assign [t1,t2] e pos) (tAsg2 te g1 g2):=by
 intro pins s σ H D I h
 refine wpAny_Assign_stores (thn (he pins s σ H _ I h) fun v s1 ⟨x,H1,I1,r1,q1⟩=>?_) hs hw
 rw[ha]
 unfold assignAll
 refine wpAny_bind (wpAny_holding (thn (h1 pins s1 σ H1 x v _ I1 r1 q1) fun _ s2 ⟨σ2,H2,I2,q2⟩=>?_))
 unfold assignAll
 exact thn (h2 pins s2 σ2 H2 x v _ I2 r1 q2) fun _ s3 q=>q
end
mutual
def DV (K:PySem.W.Frag) (H:Hp):PyData->V->Prop
 | .none,v=>v=.non
 | .bool b,v=>v=.bl b
 | .int i,v=>v=.int i
 | .str x,v=>v=.str x
 | .list ds,v=>∃ (a:Addr) (xs:List V),v=.ref a/\SqL K H a xs/\DVs K H ds xs
 | .tuple ds,v=>∃ (a:Addr) (xs:List V),v=.ref a/\SqT K H a xs/\DVs K H ds xs
 | .dict _,_=>False
def DVs (K:PySem.W.Frag) (H:Hp):List PyData->List V->Prop
 | [],xs=>xs=[]
 | d::ds,xs=>∃ v r,xs=v::r/\DV K H d v/\DVs K H ds r
end
section
variable {X:Cx}{pins:List (Addr×Obj)}{s:Shared}{σ:St}{H:Hp}
mutual
theorem DV.reads (I:Inv X pins σ H s):∀ (d:PyData) (v:V) (u:Value),DV X.K H d v->RelV v u->∃ as,Reads s.heap u d as
 | .none,v,u,h,r=>by
  unfold DV at h; subst h; cases (show u=Value.none from r); exact⟨[],.none⟩
 | .bool b,v,u,h,r=>by
  unfold DV at h; subst h; cases (show u=Value.bool b from r); exact⟨[],.bool b⟩
 | .int i,v,u,h,r=>by
  unfold DV at h; subst h; obtain⟨t,e⟩:=(show ∃ t,u=Value.int i t from r); subst e; exact⟨[],.int i t⟩
 | .str x,v,u,h,r=>by
  unfold DV at h; subst h; obtain⟨t,e⟩:=(show ∃ t,u=Value.str x t from r); subst e; exact⟨[],.str x t⟩
 | .list ds,v,u,h,r=>by
  unfold DV at h
  obtain⟨a,xs,rfl,hs,hd⟩:=h
  cases (show u=Value.ref a from r)
  obtain⟨its,r2,⟨o,n,e,c,d,dd⟩,hz⟩:=I.list hs
  obtain⟨as,ra⟩:=DVs.reads I ds xs its hd r2
  exact⟨a::as,.list e c dd (by simpa using ra)⟩
 | .tuple ds,v,u,h,r=>by
  unfold DV at h
  obtain⟨a,xs,rfl,hs,hd⟩:=h
  cases (show u=Value.ref a from r)
  obtain⟨its,r2,⟨o,e,c,n,dd⟩,hz⟩:=I.tuple hs
  obtain⟨as,ra⟩:=DVs.reads I ds xs its hd r2
  exact⟨as,.tuple e c dd (by simpa using ra)⟩
 | .dict _,v,u,h,r=>by unfold DV at h; exact h.elim
theorem DVs.reads (I:Inv X pins σ H s):∀ (ds:List PyData) (xs:List V) (us:List Value),DVs X.K H ds xs->Vals xs us->∃ as,ReadsAll s.heap us ds as
 | [],xs,us,h,r=>by
  unfold DVs at h; subst h; cases r; exact⟨[],.nil⟩
 | d::ds,xs,us,h,r=>by
  unfold DVs at h
  obtain⟨v,r',rfl,h1,h2⟩:=h
  cases r with
  | cons ru rs=>
   obtain⟨as,ra⟩:=DV.reads I d v _ h1 ru
   obtain⟨bs,rb⟩:=DVs.reads I ds r' _ h2 rs
   exact⟨as++bs,.cons ra rb⟩
end
def oW (K:PySem.W.Frag) (neg:Bool):R2:=fun x y H Q=>∃ (d e:PyData),DV K H d x/\DV K H e y/\SeqAt.shaped d=true/\SeqAt.shaped e=true/\Q (.bl (if neg then !PyData.eqv d e else PyData.eqv d e)) H
theorem dE {X:Cx} (hu:X.A.units+64<cLine):OpR X (compareOp .Eq) (oW X.K false):=by
 intro pins s σ H x y u v Q I rx ry h
 obtain⟨d,e,hd,he,sd,se,q⟩:=h
 obtain⟨as,ra⟩:=DV.reads I d x u hd rx
 obtain⟨bs,rb⟩:=DV.reads I e y v he ry
 exact eq_dataH ra rb sd se hu (aW I q (by simp))
theorem eN {X:Cx} (hu:X.A.units+64<cLine):OpR X (compareOp .NotEq) (oW X.K true):=by
 intro pins s σ H x y u v Q I rx ry h
 obtain⟨d,e,hd,he,sd,se,q⟩:=h
 obtain⟨as,ra⟩:=DV.reads I d x u hd rx
 obtain⟨bs,rb⟩:=DV.reads I e y v he ry
 exact ne_dataH ra rb sd se hu (aW I q (by simp))
end
theorem fo {α:Type} (f:α->PyData):∀ (l:List α),(∀ x ∈ l,(f x).canLay0=true)->PyData.canLayAll0 (l.map f)=true
 | [],_=>rfl
 | x::l,h=>by
  rw[wN,PyData.canLayAll0,h x wJ,fo f l fun y hy=>h y (wE _ hy)]; rfl
theorem f6 {α:Type} (f:α->PyData) (n:Nat):∀ (l:List α),(∀ x ∈ l,(f x).depth<=n)->PyData.depthAll (l.map f)<=n
 | [],_=>Nat.zero_le _
 | x::l,h=>by
  rw[wN,PyData.depthAll]
  exact Nat.max_le.mpr ⟨h x wJ,f6 f n l fun y hy=>h y (wE _ hy)⟩
theorem DVs.map {α:Type}{K:PySem.W.Frag}{H:Hp} (f:α->PyData) (g:α->V):∀ (l:List α),(∀ x ∈ l,DV K H (f x) (g x))->DVs K H (l.map f) (l.map g)
 | [],_=>by show DVs K H [] []; unfold DVs; rfl
 | x::l,h=>by
  show DVs K H (f x::l.map f) (g x::l.map g)
  unfold DVs
  exact⟨_,_,U,h x wJ,DVs.map f g l fun y hy=>h y (wE _ hy)⟩
theorem i8 {d:PyData} (h1:d.canLay0=true) (h2:d.depth<=64):SeqAt.shaped d=true:=by unfold SeqAt.shaped; rw[h1,decide_eq_true h2]; rfl
def Asc (n:Nat) (y:Str):Prop:=y.length<=n/\∀ c ∈ y.cps.toList,c<128
def CXr (P:Program) (w:World):CXT:=fun outer H s E e s'=>∃ (a:Addr) (C a0:Value) (H':Hp) (B:Heap),e=.ref a/\Heap.FlyingW B outer a C a0 s'.heap/\s'.os=s.os/\AllBare s'.gens/\Un (frs outer) [] H H' s.heap s'.heap /\
 (∀ b o,s.heap.get? b=some o->H b=none->b ∉ frs outer->B.get? b=some o)/\(∀ b o,s.heap.get? b=some o->b ∉ frs outer->∃ o',B.get? b=some o')/\HOk P w H' B/\E C (some a) H'
theorem eQ {h base:Heap}:∀ {l:List Env}{m:List Addr},h.FunFrames base l->(∀ b ∈ frs l,b ∈ m)->h.FunFrames (PySem.W.hideAll h m) l
 | [],_,_,_=>trivial
 | env::r,m,⟨hk,⟨L,o,hf,hn,ho,hd⟩,hr⟩,hs=>⟨hk,⟨L,o,hf,PySem.W.hideAll_none m (hs L (by unfold frs; rw[List.filterMap_cons,hf]; exact wJ)),ho,hd⟩,eQ hr fun b hb=>hs b (by unfold frs; rw[List.filterMap_cons,hf]; exact wE _ hb)⟩
theorem pV {H:Hp}{h:Heap}{m:List Addr} (ok:HOk P w H h) (hm:∀ b ∈ m,H b=none):HOk P w H (PySem.W.hideAll h m):=fun a o e=>
 (ok a o e).stay (fun b u hb q=>PySem.W.hideAll_get m q fun z=>by
  have n:=hm b z
  rcases hb with hb | hb
  ·rw[hb,e] at n; cases n
  ·rw[hb] at n; cases n) (fun _ q=>q) fun _ _ q=>q
section
variable {P:Program}{w:World}{K:PySem.W.Frag}{mg:Str->Option Value}{base:Heap}{N:List Str}{qual:Str}{scope:Scope}{f:Addr}{cd:Value}{A:Around}{outer:List Env}{s₀:Shared}{H₀:Hp}{E:XK}
theorem jD {σ:St}{H:Hp}{s:Shared}{h1:Heap}{e:Addr}{C:Value}{args:List Value}
  (I:Inv (eG (CXr P w) P w K mg base N qual scope f cd A outer s₀ H₀ E) pins σ H s) (hm:Heap.MadeExcOf s.heap h1 e C args) (hE:E C (some e) H) :
  (eG (CXr P w) P w K mg base N qual scope f cd A outer s₀ H₀ E).xe (.ref e) { s with heap:=h1 }:=by
 have nox:∀ b:Addr,b ∉ ([]:List Addr):=fun b z=>nomatch z
 have hst:∀ b ∈ frs (envOfC qual scope s₀.heap.objs.size f cd::outer),H b=none:=fun b hb=>I.stkFree b hb
 have nfr:∀ b o,s₀.heap.get? b=some o->b ∉ frs outer->b ∉ frs (envOfC qual scope s₀.heap.objs.size f cd::outer):=fun b o eb hb z=>by
  rcases wP.mp (show b ∈ s₀.heap.objs.size::frs outer from z) with z | z
  ·exact absurd (Heap.lt_size eb) (by rw[z]; exact Nat.lt_irrefl _)
  ·exact hb z
 refine wpAny_leaves_madeW (base:=PySem.W.hideAll s.heap (frs (envOfC qual scope s₀.heap.objs.size f cd::outer))) (h:=s.heap) I.ok.frames rfl (fun b o q=>PySem.W.of_hideAll _ q) (eQ I.stack fun _ hb=>hb) hm fun h' t fl _ _ ups=>?_
 refine⟨e,C,.ref t,H,_,U,fl,I.os,I.bare,⟨fun b o q n hb _=>?_,fun b o q n hb hx=>?_,fun b o q n hx=>I.base.free b o q n (nox b),fun b o q hx=>?_,I.base.tups,I.base.frzs,I.base.tbls⟩,fun b o q n hb=>?_,fun b o q hb=>?_,pV I.hok hst,hE⟩
 ·exact fl.1 b o (PySem.W.hideAll_get _ (I.base.keep b o q n hb (nox b)) (nfr b o q hb))
 ·obtain⟨sl,e1⟩:=I.base.slot b o q n hb (nox b)
  obtain⟨_,o2,ho2,hnf⟩:=I.stack.mem (show b ∈ frs (envOfC qual scope s₀.heap.objs.size f cd::outer) from wE _ hb)
  rw[e1] at ho2
  cases ho2
  obtain⟨sl2,e2⟩:=ups b _ (hm.keeps b _ e1) hnf
  exact⟨sl2,e2⟩
 ·obtain⟨o',e1⟩:=I.base.there b o q (nox b)
  by_cases hb:b ∈ frs (envOfC qual scope s₀.heap.objs.size f cd::outer)
  ·obtain⟨_,o2,ho2,hnf⟩:=I.stack.mem hb
   obtain⟨sl2,e2⟩:=ups b _ (hm.keeps b _ ho2) hnf
   exact⟨_,e2⟩
  ·exact⟨o',fl.1 b o' (PySem.W.hideAll_get _ e1 hb)⟩
 ·exact PySem.W.hideAll_get _ (I.base.keep b o q n hb (nox b)) (nfr b o q hb)
 ·obtain⟨o',e1⟩:=I.base.there b o q (nox b)
  exact⟨o',PySem.W.hideAll_get _ e1 (nfr b o q hb)⟩
theorem cY:dG (CXr P w) (eG (CXr P w) P w K mg base N qual scope f cd A outer s₀ H₀ E) E:=by
 intro pins σ H s e s' I h
 obtain⟨a,C,a0,H',B,rfl,fl,os,bare,un,kb,tb,hok,hE⟩:=h
 have nox:∀ b:Addr,b ∉ ([]:List Addr):=fun b z=>nomatch z
 have nfr:∀ b o,s₀.heap.get? b=some o->b ∉ frs outer->b ∉ frs (envOfC qual scope s₀.heap.objs.size f cd::outer):=fun b o eb hb z=>by
  rcases wP.mp (show b ∈ s₀.heap.objs.size::frs outer from z) with z | z
  ·exact absurd (Heap.lt_size eb) (by rw[z]; exact Nat.lt_irrefl _)
  ·exact hb z
 refine wpAny_leaves_onW I.ok.frames rfl fl fun h' fl' ups=>?_
 refine⟨a,C,a0,H',B,U,fl',os.trans I.os,bare,⟨fun b o q n hb _=>?_,fun b o q n hb hx=>?_,fun b o q n hx=>?_,fun b o q hx=>?_,fun b xs q=>un.tups b xs (I.base.tups b xs q),fun b o u q=>un.frzs b o u (I.base.frzs b o u q),fun b ps q=>?_⟩,fun b o q n hb=>?_,fun b o q hb=>?_,hok,hE⟩
 ·exact fl'.1 b o (kb b o (I.base.keep b o q n hb (nox b)) (I.base.free b o q n (nox b)) (nfr b o q hb))
 ·obtain⟨sl,e1⟩:=I.base.slot b o q n hb (nox b)
  obtain⟨sl2,e2⟩:=un.slot b _ e1 (I.base.free b o q n (nox b)) (wE _ hb) (nox b)
  obtain⟨_,o2,ho2,hnf⟩:=fl.2.2.1.mem (show b ∈ frs (envOfC qual scope s₀.heap.objs.size f cd::outer) from wE _ hb)
  rw[e2] at ho2
  cases ho2
  obtain⟨sl3,e3⟩:=ups b _ e2 hnf
  exact⟨sl3,e3⟩
 ·obtain⟨sl,e1⟩:=I.base.any q n (nox b)
  exact un.free b _ e1 (I.base.free b o q n (nox b)) (nox b)
 ·obtain⟨o1,e1⟩:=I.base.there b o q (nox b)
  by_cases hb:b ∈ frs (envOfC qual scope s₀.heap.objs.size f cd::outer)
  ·obtain⟨_,o2,ho2,hnf⟩:=fl.2.2.1.mem hb
   obtain⟨sl2,e2⟩:=ups b _ ho2 hnf
   exact⟨_,e2⟩
  ·obtain⟨o2,e2⟩:=tb b o1 e1 hb
   exact⟨o2,fl'.1 b o2 e2⟩
 ·obtain⟨more,e1⟩:=I.base.tbls b ps q
  obtain⟨more2,e2⟩:=un.tbls b _ e1
  exact⟨more++more2,by rw[<- Array.append_assoc]; exact e2⟩
 ·exact kb b o (I.base.keep b o q n hb (nox b)) (I.base.free b o q n (nox b)) (nfr b o q hb)
 ·obtain⟨o1,e1⟩:=I.base.there b o q (nox b)
  exact tb b o1 e1 (nfr b o q hb)
end
theorem uS {K:PySem.W.Frag}{hp:Heap}{C:Addr}{tail:List Value}{mk:String} (inn:K.In hp) (isx:PySem.W.excIn K C tail mk=true) :
  ∃ up ns nm qn bs hd sn sub ab col dd x0 x1 x2 x3 x5 names,hp.get? C=some (excClassObj nm qn C ns bs up hd sn sub ab col dd x0 x1 x2 x3 x5 mk)/\hp.Ns ns names/\names "__init__" = none/\OwnTail hp tail up:=by
 unfold PySem.W.excIn at isx
 split at isx
 case h_2=>exact absurd isx Bool.false_ne_true
 rename_i dd cls slots found
 split at isx
 case h_2=>exact absurd isx Bool.false_ne_true
 rename_i C2 up x0 x1 x2 x3 nw x5 mroIs slotsIs
 rw[Bool.and_eq_true,Bool.and_eq_true,Bool.and_eq_true,Bool.and_eq_true,Bool.and_eq_true] at isx
 have p1:C2=C:=eq_of_beq isx.1.1.1.1.1
 have p2:nw=mk:=eq_of_beq isx.1.1.1.1.2
 have p3:cls.hasDel=false:=by simpa using isx.1.1.1.2
 have p6:W.nsIn K cls.ns "__init__" = some none:=eq_of_beq isx.2
 have ob:=inn _ _ found
 have sl:slots = #[x0,x1,x2,x3,some (.builtin nw),x5]:=by rw[<- slotsIs]
 cases cls
 simp only at mroIs p3
 rw[mroIs,p3,sl,p1,p2] at ob
 exact⟨up,_,_,_,_,_,_,_,_,_,_,x0,x1,x2,x3,x5,_,ob,.of_isNs (PySem.W.isNs_of_in inn isx.1.2),PySem.W.nsMap_none_of_in inn isx.1.2 p6,PySem.W.tail_of_in inn isx.1.1.2⟩
def qy (X:Cx) (E:XK):Prop:=∀ (pins:List (Addr×Obj)) (σ:St) (H:Hp) (s:Shared) (h1:Heap) (e:Addr) (C:Value) (args:List Value),Inv X pins σ H s->Heap.MadeExcOf s.heap h1 e C args->E C (some e) H->X.xe (.ref e) { s with heap:=h1 }
theorem cA {K:PySem.W.Frag}{mg:Str->Option Value}{base:Heap}{N:List Str}{qual:Str}{scope:Scope}{f:Addr}{cd:Value}{A:Around}{outer:List Env}{s₀:Shared}{H₀:Hp}{E:XK} :
  qy (eG (CXr P w) P w K mg base N qual scope f cd A outer s₀ H₀ E) E:=fun _ _ _ _ _ _ _ _ I hm hE=>jD I hm hE
def gi (E:XK) (C:Addr) (t:TE):TS:=fun D σ H=>t σ H fun _ H1=>∀ e,E (.ref C) (some e) H1
abbrev kR:List Value:=[.type "ValueError",.type "Exception",.type "BaseException",.type "object"]
section
variable {X:Cx}{E:XK}{C:Addr}{x:Str}{np cpos pos:Pos}{e₀:Expr}{t:TE}
theorem b8 (hx:qy X E) (hc:X.calm=true) (hg:Gl X x) (hm:X.mg x=some (.ref C)) (isx:PySem.W.excIn X.K C kR "ValueError.__new__" = true) (ha:PE X e₀ t) (hdb:(x == ("__debug__" : Str))=false:=by decide)
  (he:starEach [e₀] X.env=[(false,eval e₀ X.env)]:=by rfl):PS X (.Raise (some (.Call (.Name x np) [e₀] [] cpos)) none pos) (gi E C t):=by
 intro pins s σ H D I h
 obtain⟨up,ns,nm,qn,bs,hd,sn,sub,ab,col,dd,x0,x1,x2,x3,x5,names,hC,hN,hni,T⟩:=uS I.mod.kin isx
 refine wpAny_Raise_call_subT (C:=C) (nm:=nm) (q:=qn) (N:=ns) (bs:=bs) (bm:=up) (hdct:=hd) (sn:=sn) (sub:=sub) (ab:=ab) (col:=col) (dd:=dd) (k0:=x0) (k1:=x1) (k2:=x2) (k3:=x3) (k5:=x5) (mN:=names)
  PySem.F.excBase_ValueError (T.hasType PySem.F.excBase_ValueError.hasBase) (I.ok.hd hc) (by rw[he]; rfl) hni (dA I hg hm ⟨U,?_⟩ hdb)
 rw[he]
 refine Calls.evalArgs_plain (Calls.spliced_cons (thn (ha pins s σ H _ I h) fun u s1 ⟨v,H1,I1,r,q⟩=>Calls.spliced_nil ?_))
 exact⟨U,(show 1<=sizeLine by decide),I1.bk _ _ hC,hN.keeps I1.bk,T.keeps I1.bk,fun h' e hm=>hx pins σ H1 s1 h' e _ _ I1 hm (q e)⟩
end
abbrev TJ:=Str->St->Hp->VK->Prop
section
variable {X:Cx}{e v1 v2:Expr}{es:List Expr}{te:TE}{tr:TJ}{pos:Pos}
def PJ (X:Cx) (es:List Expr) (t:TJ):Prop:=∀ (pins:List (Addr×Obj)) (s:Shared) (σ:St) (H:Hp) (acc:Str) (Q:VK),Inv X pins σ H s->t acc σ H Q ->
 Joins (model X.prog X.w) X.A X.xe (evalEach es X.env) acc (fun out s1=>out.length<=sizeLine/\EP X pins σ Q (.str out s1.toks) { s1 with toks:=s1.toks+1 }) s
def tJ0:TJ:=fun acc σ H Q=>acc.length<=sizeLine/\Q (.str acc) H
def tJ1 (te:TE) (tr:TJ):TJ:=fun acc σ H Q=>te σ H fun v H1=>∃ y,v=.str y/\(acc++y).length<=sizeLine/\tr (acc++y) σ H1 Q
theorem cW:PJ X [] tJ0:=fun pins s σ H acc Q I h=>⟨h.1,.str acc,H,I.tok _,⟨_,U⟩,h.2⟩
theorem aV (h1:PE X e te) (h2:PJ X es tr):PJ X (e::es) (tJ1 te tr):=fun pins s σ H acc Q I h=>by
 refine thn (h1 pins s σ H _ I h) fun u s1 ⟨v,H1,I1,r,y,ey,hz,q⟩=>?_
 subst ey
 obtain⟨t,rfl⟩:=r
 exact⟨y,t,U,hz,h2 pins s1 σ H1 _ Q I1 q⟩
theorem bN (h:PJ X (v1::v2::es) tr):PE X (.JoinedStr (v1::v2::es) pos) (fun σ H Q=>tr Str.empty σ H Q):=fun pins s σ H Q I hh=>wpAny_JoinedStr (h pins s σ H _ Q I hh)
def m8 (te:TE):TE:=fun σ H Q=>te σ H fun v H1=>(∃ y,v=.str y/\y.length<=sizeLine/\Q (.str y) H1)∨∃ i:Int,v=.int i/\i.natAbs.log2<1920/\Q (.str (toString i)) H1
theorem dZ (h:PE X e te):PE X (.FormattedValue e (-1) none pos) (m8 te):=fun pins s σ H Q I hh=>by
 refine wpAny_FormattedValue_plain (thn (h pins s σ H _ I hh) fun u s1 ⟨v,H1,I1,r,q⟩=>?_)
 rcases q with ⟨y,rfl,hz,q⟩ | ⟨i,rfl,hz,q⟩
 ·obtain⟨t,rfl⟩:=r
  exact wpAny_formatField_str ⟨.str y,H1,I1,⟨_,U⟩,q⟩ ⟨.str y,H1,I1.tok _,⟨_,U⟩,q⟩ hz
 ·obtain⟨t,rfl⟩:=r
  exact wpAny_formatField_int hz ⟨.str (toString i),H1,(I1.tok _).tok _,⟨_,U⟩,q⟩
def rQ (te:TE):TE:=fun σ H Q=>te σ H fun v H1=>∃ y,v=.str y/\(reprText y).length<=sizeLine/\Q (.str (reprText y)) H1
theorem lU (h:PE X e te):PE X (.FormattedValue e 114 none pos) (rQ te):=fun pins s σ H Q I hh=>by
 refine wpAny_FormattedValue_repr (thn (h pins s σ H _ I hh) fun u s1 ⟨v,H1,I1,r,y,ey,hz,q⟩=>?_)
 subst ey
 obtain⟨t,rfl⟩:=r
 refine wpAny_pyReprObj_gives (T := "str") rfl PySem.F.slot_str_repr PySem.F.entry_str_repr (PySem.F.args_str_repr_1 _) (gives_str_repr y t) ?_ rfl hz
 exact wpAny_formatField_str ⟨.str (reprText y),H1,I1.tok _,⟨_,U⟩,q⟩ ⟨.str (reprText y),H1,(I1.tok _).tok _,⟨_,U⟩,q⟩ hz
end
end L2
set_option Elab.async false
set_option linter.all false
set_option maxRecDepth 100000
namespace L2
open PySem PySem.Spec PyProof.Rows PySem.Calls
def ExcAt (x D:Addr) (h:Heap):Prop:=∃ o vs,h.get? x=some o/\o.cls=.ref D/\o.data=.fields vs
theorem ExcAt.ty {M:Model}{x D:Addr}{h:Heap} (p:ExcAt x D h):PySem.W.Looks M h (typeOf (.ref x)) (.ref D):=by
 obtain⟨o,vs,h1,h2,_⟩:=p
 exact h2 ▸ (PySem.W.Looks.ld h1).andThen .now
structure ExcCls (K:PySem.W.Frag) (D:Addr):Prop where
 ga:W.findIn K (.ref D) "__getattribute__" = some (some (.builtin "BaseException.__getattribute__"))
 gh:W.findIn K (.ref D) "__getattr__" = some none
 be:PySem.W.mroIn K D (.type "BaseException")=some true
 hd:W.hasDictIn K D=true
 at_:W.findIn K (.ref D) "__class__" = some (some (.builtin "object.__class__"))
 gt:PySem.W.specialIn K (.builtin "object.__class__") "__get__" = some (some (.builtin "getset_descriptor.__get__"))
 tk:PySem.W.takesIn K (.builtin "object.__class__")=some true
 ob:PySem.W.mroIn K D (.type "object")=some true
section
variable {K:PySem.W.Frag}{x D:Addr}
open PySem.W Builtin Builtin.ObjectAttr in
theorem qb {M:Model}{h:Heap} (c:ExcCls K D) (X:K.In h):Looks M h (find (.ref x) (.ref D) "__class__") (Found.bind (.builtin "getset_descriptor.__get__") (.builtin "object.__class__")):=by
 have l1:=looks_findIn (M:=M) X c.at_
 have l2:Looks M h (getOf (some (.builtin "object.__class__"))) (some (.builtin "getset_descriptor.__get__")):=looks_specialIn X c.gt
 have l3:=looks_takesIn (M:=M) X c.tk
 have l4:Looks M h (dataDescriptor? (some (.builtin "object.__class__")) (some (.builtin "getset_descriptor.__get__"))) (some (.builtin "getset_descriptor.__get__",.builtin "object.__class__")):=l3.andThen .now
 exact l1.andThen (l2.andThen (l4.andThen (Looks.tag .now)))
open PySem.W Builtin Builtin.ObjectAttr Builtin.Getset_descriptor in
theorem nK {prog:Program}{w:World}{A:Around}{R:Result->Shared->Prop}{s:Shared}{tp:Value} (c:ExcCls K D) (X:K.In s.heap) (p:ExcAt x D s.heap) (h:R (.ok (.ret (.ref D))) s) :
  codeAny (model prog w) A (.call (.builtin "getset_descriptor.__get__") ⟨[.builtin "object.__class__",.ref x,tp],[]⟩) R s:=by
 obtain⟨hp,ge,dw,tt,oo⟩:=s
 have l0:=p.ty (M:=model prog w)
 have l1:=looks_mroIn (M:=model prog w) X c.ob
 refine codeAny_call_builtin KF.slot_gs.plain KF.entry_gs ?_
 refine KF.slot_gs.check _ _ _ _ _ _ _ _ KF.type_class (KF.args_gs _ _ _) ?_
 unfold Builtin.«getset_descriptor.__get__»; unfold descrGet
 rw[dga_obj]; refine wpAny_bind (wpAny_pure ?_)
 unfold descrGetter descrCheckInstance; unfold descrNameAndClass isInstance
 simp only[KF.owner_class]; repeat lk
 refine⟨Code.quiet_builtin _ (by decide +kernel),?_⟩
 refine codeAny_builtin KF.entry_class ?_
 unfold Builtin.«object.__class__»; unfold shownTypeOf
 repeat lk
 exact h
open PySem.W Builtin Builtin.ObjectAttr in
theorem nJ {prog:Program}{w:World}{A:Around}{E:Value->Shared->Prop}{s:Shared}{tk:Tok}{Q:Fin->Shared->Prop} (c:ExcCls K D) (X:K.In s.heap) (p:ExcAt x D s.heap) (h:Q (.done (.ret (.ref D))) s) :
  wpAny (model prog w) A (Builtin.«object.__getattribute__» ⟨[.ref x,.str "__class__" tk],[]⟩) Q E s:=by
 obtain⟨hp,ge,dw,tt,oo⟩:=s
 have l0:=p.ty (M:=model prog w)
 have l2:=qb (x:=x) (M:=model prog w) c X
 unfold Builtin.«object.__getattribute__»
 repeat (any_goals (first | assumption | lk | wp_step))
 show wpAny _ _ (run _ none) _ _ _
 refine wpAny_run (nK c X p ?_)
 exact wpAny_pure (wpAny_pure h)
open PySem.W Builtin Builtin.ObjectAttr in
theorem uR {prog:Program}{w:World}{A:Around}{R:Result->Shared->Prop}{s:Shared}{tk:Tok} (c:ExcCls K D) (X:K.In s.heap) (p:ExcAt x D s.heap) (h:R (.ok (.ret (.ref D))) s) :
  codeAny (model prog w) A (.call (.builtin "BaseException.__getattribute__") ⟨[.ref x,.str "__class__" tk],[]⟩) R s:=by
 obtain⟨hp,ge,dw,tt,oo⟩:=s
 have l0:=p.ty (M:=model prog w)
 have l1:=looks_mroIn (M:=model prog w) X c.be
 refine codeAny_call_builtin PySem.F.excAttr_ValueError.ga.plain PySem.F.entry_bexc_ga ?_
 have hk:builtinKind "BaseException.__getattribute__" = some .slot:=by decide +kernel
 have hs:splitId "BaseException.__getattribute__" = some ("BaseException","__getattribute__"):=by decide +kernel
 have ha:=PySem.F.args_bexc_ga (.ref x) (.str "__class__" tk)
 simp only[checkBuiltinCall,hk,hs]
 refine wpAny_bind ?_
 unfold isInstance
 refine wpAny_bind (l0.at (l1.at ?_))
 rw[if_neg (by decide)]
 unfold argsOk at ha
 have fin:=nJ (prog:=prog) (w:=w) (A:=A.in1) (E:=fun e s'=>R (.error e) s') (s:=⟨hp,ge,dw,tt,oo⟩) (tk:=tk) (Q:=fun fin s'=>match fin with | .done f=>R (.ok f) s' | .again c'=>c'.quiet=true/\codeAny (model prog w) A c' R s') c X p h
 generalize Manifest.signature? "BaseException.__getattribute__" = sg at ha ⊢
 cases sg with
 | none=>exact wpAny_pure fin
 | some sig=>
  dsimp only at ha ⊢
  rw[ha]
  exact wpAny_pure fin
open PySem.W Builtin Builtin.ObjectAttr in
theorem qc {prog:Program}{w:World}{A:Around}{E:Value->Shared->Prop}{s:Shared}{Q:Option Value->Shared->Prop} (c:ExcCls K D) (X:K.In s.heap) (p:ExcAt x D s.heap) (h:Q (some (.ref D)) { s with toks:=s.toks+1 }) :
  wpAny (model prog w) A (getAttr? (.ref x) "__class__") Q E s:=by
 obtain⟨hp,ge,dw,tt,oo⟩:=s
 have l0:=p.ty (M:=model prog w)
 have l1:=looks_findIn (M:=model prog w) X c.ga
 have l3:=looks_findIn (M:=model prog w) X c.gh
 have f3:=PySem.F.excAttr_ValueError.ga.bind (.ref x)
 have hx2:(Value.builtin "BaseException.__getattribute__" == Value.builtin "object.__getattribute__")=false:=by decide +kernel
 have hx1:(onTheHeap (Value.ref D) && Value.builtin "BaseException.__getattribute__" == Value.builtin "object.__getattribute__")=false:=by rw[hx2]; rfl
 unfold getAttr? getAttrBy?; unfold getAttrBy
 refine wpAny_bind (wpAny_mkText (wpAny_bind (wpAny_attempt (wpAny_holding ?_))))
 refine wpAny_bind (l0.at (wpAny_bind (l1.at ?_)))
 simp only[hx1]
 show wpAny _ _ (getAttrByItsOwn _ _ _ _ _ _) _ _ _
 unfold getAttrByItsOwn hookBefore
 refine wpAny_bind ?_
 show wpAny _ _ (typeLookup (.ref D) "__getattr__") _ _ _
 refine l3.at ?_
 unfold callGetattribute boundAndCalled
 refine wpAny_bind (wpAny_attempt (wpAny_holding ?_))
 show wpAny _ _ (bindSpecial _ _ >>= _) _ _ _
 rw[f3]
 refine wpAny_bind (wpAny_pure ?_)
 refine wpAny_call (uR (s:=⟨hp,ge,dw,tt+1,oo⟩) c X p ?_)
 exact handed_on rfl (wpAny_pure h)
theorem pR (c:ExcCls K D):PySem.W.KitX K (.ref x) (.ref D) (ExcAt x D) where
 ty:=fun _ _ _ p=>p.ty
 it:=fun _ _ X _=>by
  obtain⟨cd,hc,_⟩:=PySem.W.any_some c.hd
  unfold PySem.W.clsIn at hc
  split at hc
  ·rename_i c' d' cd' sl' ho
   intro A' Q' E' s' k q
   unfold isType loadHead
   exact wpAny_bind (wpAny_loadPart (k _ _ (X _ _ ho)) (wpAny_pure q))
  ·cases hc
 ne:=fun h tp dd its n sl X htp=>by
  obtain⟨cd,hc,_⟩:=PySem.W.any_some c.hd
  refine Bool.eq_false_iff.mpr fun q=>?_
  have e:D=tp:=Value.ref.inj (beq_iff_eq.mp q)
  subst e
  unfold PySem.W.clsIn at hc
  split at hc
  ·rename_i c' d' cd' sl' ho
   have z:=(X _ _ ho).symm.trans htp
   cases z
  ·cases hc
 ca:=fun X p k=>qc c X p k
end
end L2
set_option Elab.async false
set_option linter.all false
set_option maxRecDepth 100000
namespace L2
open PySem PySem.Spec PyProof.Rows
section
variable {P:Program}{w:World}{K:PySem.W.Frag}{mg:Str->Option Value}{base:Heap}{CX:CXT}{k:Nat}{f:Addr}{fd:FuncData}{ps:List Str}{sp sp':Sp}
theorem FnOk.lift (F:FnOk P w K mg base CX0 k f fd ps sp):FnOk P w K mg base CX k f fd ps sp :=
 ⟨F.len,fun A outer s H args us vs Q E hr he hb hv hs=>codeAny_mono (F.run A outer s H args us vs Q E hr he hb hv hs) fun r s' h=>by
  cases r with
  | error e=>exact False.elim h
  | ok fl=>cases fl <;> exact h⟩
theorem FnOk.or (F:FnOk P w K mg base CX k f fd ps sp) (G:FnOk P w K mg base CX k f fd ps sp'):FnOk P w K mg base CX k f fd ps (fun vs H Q E=>sp vs H Q E∨sp' vs H Q E) :=
 ⟨fun vs H Q E h=>h.elim (F.len vs H Q E) (G.len vs H Q E),fun A outer s H args us vs Q E hr he hb hv hs=>hs.elim (F.run A outer s H args us vs Q E hr he hb hv) (G.run A outer s H args us vs Q E hr he hb hv)⟩
end
structure Flt (P:Program) (w:World) (outer:List Env) (H:Hp) (s:Shared) (H':Hp) (B h:Heap):Prop where
 stays:B.StaysIn h
 frames:h.FunFrames B outer
 slot:∀ b o,s.heap.get? b=some o->H b=none->b ∈ frs outer->∃ sl,h.get? b=some { o with slots:=sl }
 free:∀ b o,s.heap.get? b=some o->H b=none->H' b=none
 tups:∀ b xs,H b=some (.tup xs)->H' b=some (.tup xs)
 frzs:∀ b o u,H b=some (.frz o u)->H' b=some (.frz o u)
 tbls:∀ b ps,H b=some (.tbl ps)->∃ more,H' b=some (.tbl (ps++more))
 kb:∀ b o,s.heap.get? b=some o->H b=none->b ∉ frs outer->B.get? b=some o
 tb:∀ b o,s.heap.get? b=some o->b ∉ frs outer->∃ o',B.get? b=some o'
 hok:HOk P w H' B
section
variable {P:Program}{w:World}{outer:List Env}{H H':Hp}{s:Shared}{B h h':Heap}
theorem Flt.un (f:Flt P w outer H s H' B h):Un (frs outer) [] H H' s.heap h where
 keep:=fun b o q n hb _=>f.stays b o (f.kb b o q n hb)
 slot:=fun b o q n hb _=>f.slot b o q n hb
 free:=fun b o q n _=>f.free b o q n
 there:=fun b o q _=>by
  by_cases hb:b ∈ frs outer
  ·obtain⟨_,o2,ho2,_⟩:=f.frames.mem hb
   exact⟨o2,ho2⟩
  ·obtain⟨o2,e2⟩:=f.tb b o q hb
   exact⟨o2,f.stays b o2 e2⟩
 tups:=f.tups
 frzs:=f.frzs
 tbls:=f.tbls
theorem Flt.ok (f:Flt P w outer H s H' B h):HOk P w H' h:=f.hok.kept f.stays
theorem Flt.next (f:Flt P w outer H s H' B h) (st:B.StaysIn h') (fr:h'.FunFrames B outer) (u:h.UpToSlots h'):Flt P w outer H s H' B h' :=
 ⟨st,fr,fun b o q n hb=>by
  obtain⟨sl,e1⟩:=f.slot b o q n hb
  obtain⟨_,o2,ho2,hnf⟩:=f.frames.mem hb
  rw[e1] at ho2
  cases ho2
  obtain⟨sl2,e2⟩:=u b _ e1 hnf
  exact⟨sl2,e2⟩,f.free,f.tups,f.frzs,f.tbls,f.kb,f.tb,f.hok⟩
theorem ObjOk.there {H:Hp}{a:Addr}{o:HO} (x:ObjOk P w H h a o):∃ ob,h.get? a=some ob:=by
 cases o with
 | lst xs=>obtain⟨_,_,_,_,e⟩:=x; exact⟨_,e⟩
 | tup xs=>obtain⟨_,_,_,o,e,_⟩:=x; exact⟨o,e⟩
 | dK kvs=>obtain⟨_,_,_,_,o,_,_,e,_⟩:=x; exact⟨o,e⟩
 | dT kvs=>obtain⟨_,_,_,_,o,_,_,e,_⟩:=x; exact⟨o,e⟩
 | set S n=>obtain⟨o,_,_,_,e,_⟩:=x; exact⟨o,e⟩
 | ins C dx fs=>obtain⟨_,_,_,e,_⟩:=x; exact⟨_,e⟩
 | own y=>exact x
 | xd fs=>obtain⟨_,⟨o,_,_,e,_⟩,_⟩:=x; exact⟨o,e⟩
 | rng lo hi=>obtain⟨_,_,_,e⟩:=x; exact⟨_,e⟩
 | frz ob u=>obtain⟨e,_⟩:=x; exact⟨_,e⟩
 | tbl ps=>exact⟨_,show h.get? a=some _ from x⟩
 | met f y=>exact⟨_,show h.get? a=some _ from x⟩
 | ext φ=>obtain⟨_,e,_⟩:=x; exact e
end
section
variable {X:Cx}{pins:List (Addr×Obj)}{σ:St}{H:Hp}{s:Shared}
theorem Inv.tracked {a:Addr}{u:HO} (I:Inv X pins σ H s) (hn:H a=none) (new:X.s₀.heap.get? a=none) (hL:a≠X.env.locals) (hc:∀ x c,X.env.cells.lookup x=some c->c≠a) (hp:∀ p ∈ X.pn++pins,p.1≠a)
  (ok:ObjOk X.prog X.w (upd H a u) s.heap a u):Inv X pins σ (upd H a u) s:=by
 have ne:∀ b o,H b=some o->b≠a:=fun b o e z=>by rw[z,hn] at e; cases e
 have nw:∀ b o,X.s₀.heap.get? b=some o->b≠a:=fun b o e z=>by rw[z,new] at e; cases e
 refine⟨I.ok,I.os,I.bare,⟨I.base.keep,I.base.slot,fun b o q n hx=>?_,I.base.there,fun b xs q=>?_,fun b o v q=>?_,fun b ps q=>?_⟩,I.loc,I.cell,?_,fun x c e=>?_,fun p h=>?_,fun b o e=>?_,I.len⟩
 ·rw[aA (nw b o q)]; exact I.base.free b o q n hx
 ·have e:=I.base.tups b xs q; rw[aA (ne b _ e)]; exact e
 ·have e:=I.base.frzs b o v q; rw[aA (ne b _ e)]; exact e
 ·obtain⟨m,e⟩:=I.base.tbls b ps q; exact⟨m,by rw[aA (ne b _ e)]; exact e⟩
 ·rw[aA (Ne.symm hL)]; exact I.free
 ·rw[aA (hc x c e)]; exact I.freeC x c e
 ·obtain⟨e1,e2,e3⟩:=I.pin p h
  exact⟨e1,by rw[aA (hp p h)]; exact e2,e3⟩
 ·by_cases hb:b=a
  ·subst hb; rw[bz] at e; cases e; exact ok
  ·rw[aA hb] at e
   exact(I.hok b o e).stay (fun _ _ _ q=>q) (fun c q=>by rw[aA (ne c _ q)]; exact q) fun c xs q=>by rw[aA (ne c _ q)]; exact q
theorem Inv.gone {i:Nat}{x:Str}{h':Heap}{v:Option Value}{m:Str->Option Value}{t:Nat} (I:Inv X pins σ H s) (hN:X.N.Nodup) (hi:X.N[i]?=some x)
  (hm:∀ (i:Nat) (x:Str) (v:V),X.N[i]?=some x->σ[i]?=some (some v)->Vis X.env.scope x->∃ u,RelV v u/\wB X.env s.heap m x u)
  (hn':h'.Ns X.env.locals (fun y=>if y=x then v else m y)) (hs:Heap.SameBut X.env.locals s.heap h'):Inv X pins (σ.set i none) H { s with heap:=h',toks:=t }:=by
 obtain⟨m0,⟨oL,es,ep,hoL,r0⟩,_⟩:=id I.loc
 have cne:=I.cne
 refine⟨I.ok,I.os,I.bare,⟨fun b o e n hb hx=>?_,fun b o e n hb hx=>?_,I.base.free,fun b o e hx=>?_,I.base.tups,I.base.frzs,I.base.tbls⟩,⟨_,hn',fun j y v' e1 e2 e3=>?_⟩,fun y c e=>?_,I.free,I.freeC,fun p hp=>?_,fun b ob e=>?_,by simpa using I.len⟩
 ·exact(hs.2 b (Nat.ne_of_lt (Nat.lt_of_lt_of_le (Heap.lt_size e) I.ok.above))).trans (I.base.keep b o e n hb hx)
 ·obtain⟨sl,e1⟩:=I.base.slot b o e n hb hx
  exact⟨sl,(hs.2 b (Nat.ne_of_lt (Nat.lt_of_lt_of_le (Heap.lt_size e) I.ok.above))).trans e1⟩
 ·obtain⟨o',e1⟩:=I.base.there b o e hx
  exact⟨o',(hs.2 b (Nat.ne_of_lt (Nat.lt_of_lt_of_le (Heap.lt_size e) I.ok.above))).trans e1⟩
 ·by_cases hj:j=i
  ·subst hj
   rw[List.getElem?_set] at e2
   split at e2
   ·split at e2 <;> cases e2
   ·exact absurd rfl ‹¬ j=j›
  ·rw[List.getElem?_set_ne (Ne.symm hj)] at e2
   obtain⟨u',r',q⟩:=hm j y v' e1 e2 e3
   refine⟨u',r',?_⟩
   rcases q with ⟨k,e⟩ | ⟨k,c,e,z⟩
   ·refine .inl ⟨k,?_⟩
    have:y≠x:=fun e=>hj (nodup_ix hN e1 (e ▸ hi))
    simp[this,e]
   ·exact .inr ⟨k,c,e,z.sameBut hs (cne y c e)⟩
 ·obtain⟨w',z⟩:=I.cell y c e
  exact⟨w',z.sameBut hs (cne y c e)⟩
 ·obtain⟨e,n,ne,nf,d⟩:=I.pin p hp
  exact⟨(hs.2 p.1 ne).trans e,n,ne,nf,d⟩
 ·refine(I.hok b ob e).stay (fun c w' hc q=>(hs.2 c ?_).trans q) (fun _ q=>q) fun _ _ q=>q
  rintro rfl
  rcases hc with rfl | hc
  ·rw[I.free] at e; cases e
  ·rw[I.free] at hc; cases hc
end
abbrev Cx.marked (X:Cx) (e:Addr):Cx:={ X with A:=X.A.mark (some (.ref e)),calm:=false,xe:=fun _ _=>False }
variable{pins:List (Addr×Obj)}
theorem Inv.mark {X:Cx}{σ:St}{H:Hp}{s:Shared} (I:Inv X pins σ H s) (e:Addr):Inv (X.marked e) pins σ H s :=
 ⟨⟨I.ok.mod,I.ok.kind,I.ok.glob,I.ok.blt,I.ok.above,I.ok.inj,I.ok.has,I.ok.cab,fun z=>Bool.noConfusion z,I.ok.frames,I.ok.stk,I.ok.exf,I.ok.bs,I.ok.bsz,I.ok.noex,I.ok.exfs,I.ok.funs,I.ok.frf⟩,I.os,I.bare,I.base,I.loc,I.cell,I.free,I.freeC,I.pin,I.hok,I.len⟩
theorem Inv.unmark {X:Cx}{σ:St}{H:Hp}{s s0:Shared}{pins0:List (Addr×Obj)}{σ0:St}{H0:Hp}{e:Addr} (I:Inv (X.marked e) pins σ H s) (I0:Inv X pins0 σ0 H0 s0):Inv X pins σ H s :=
 ⟨I0.ok,I.os,I.bare,I.base,I.loc,I.cell,I.free,I.freeC,I.pin,I.hok,I.len⟩
structure RoomQ (k:Nat) (A:Around):Prop where
 dp:A.depth+3*k+5<recursionLimit
 un:A.units+16*k+200<cLine
theorem Room.qm {k:Nat}{A:Around} (r:Room k A) (e:Value):RoomQ k (A.mark (some e)):=⟨r.dp,r.un⟩
theorem RoomQ.deeper {k:Nat}{A:Around} (r:RoomQ (k+1) A) (env:Env):RoomQ k (A.deeper env) :=
 ⟨by have:=r.dp; show A.depth+1+3*k+5<_; omega,by have:=r.un; show A.units+3+16*k+200<_; omega⟩
structure FnOkQ (P:Program) (w:World) (K:PySem.W.Frag) (mg:Str->Option Value) (base:Heap) (k:Nat) (f:Addr) (fd:FuncData) (ps:List Str) (sp:Sp):Prop where
 len:∀ vs H Q E,sp vs H Q E->vs.length=ps.length
 run:∀ (A:Around) (outer:List Env) (s:Shared) (H:Hp) (args:Args) (us:List Value) (vs:List V) (Q:VK) (E:XK),RoomQ k A->Env0 P w K mg base A outer s H->BindsTo s fd args (ps.zip us)->Vals vs us->sp vs H Q E ->
  codeAny (model P w) A (.call (.ref f) args) (CR CX0 outer P w H s Q E) s
def mO (P:Program) (w:World) (K:PySem.W.Frag) (mg:Str->Option Value) (base:Heap) (N:List Str) (qual:Str) (scope:Scope) (f:Addr) (cd:Value) (A:Around) (outer:List Env) (s:Shared) (H:Hp) (E:XK):Cx :=
 { eG CX0 P w K mg base N qual scope f cd A outer s H E with calm:=false,xe:=fun _ _=>False }
theorem uQ {P:Program}{w:World}{K:PySem.W.Frag}{mg:Str->Option Value}{base:Heap}{k:Nat}{f:Addr}{name qual:Str}{params:Arguments}{body:List Stmt}{scope:Scope}{dV kV doc pm cdv ct oc:Value}{an od:Option Addr}
  {osl:Array (Option Value)}{N ps:List Str}{sp:Sp} (lk:K.lookup f=some ⟨oc,od,.func (W.fnOf name qual params body scope dV kV doc pm an cdv ct),osl⟩) (hcd:W.codeIn K cdv qual=true) (S:FnScope N ps scope)
  (len:∀ vs H Q E,sp vs H Q E->vs.length=ps.length)
  (hbody:∀ (A:Around) (outer:List Env) (s:Shared) (H:Hp) (vs:List V) (Q:VK) (E:XK),RoomQ k (A.deeper (envOfC qual scope s.heap.objs.size f cdv))->sp vs H Q E ->
   ∃ t,PSs (mO P w K mg base N qual scope f cdv A outer s H E) body t/\t { nx:=fun _ H'=>Q .non H',rt:=Q } (start N vs) H) :
  FnOkQ P w K mg base (k+1) f (W.fnOf name qual params body scope dV kV doc pm an cdv ct) ps sp:=by
 refine⟨len,fun A outer s H args us vs Q E hr e0 hb r hsp=>?_⟩
 have hl:=len _ _ _ _ hsp
 have KX:K.In s.heap:=e0.mod.kin.keeps fun b o e=>(e0.bs b o e).1
 have lim:s.heap.NoLimit:=e0.mod.nolimit.keeps fun b o e=>(e0.bs b o e).1
 have hkind:∀ y ∈ ps.zip us,scope.names.lookup y.1=some .local∨(scope.names.lookup y.1=some .cell/\((cellsFrom (s.heap.objs.size+1) scope.names []).lookup y.1).isSome=true):=fun⟨n,v⟩ hy=>by
  rcases S.par n (List.of_mem_zip hy).1 with q | q
  ·exact .inl q
  ·exact .inr ⟨q,PySem.W.cellsFrom_some _ _ _ (.inl q)⟩
 have hdp:A.depth<recursionLimit:=by have:=hr.dp; omega
 refine codeAny_call_function hdp (KX _ _ lk) rfl S.co S.gen rfl (PySem.W.codeRec_of KX hcd) (hb _ _ _ _ ?_)
 refine wpAny_newFunctionEnv_cells S.kind hkind fun env he s1 x=>?_
 subst he
 refine⟨lim.keeps x.toInCall.keep,codeAny_func ?_⟩
 obtain⟨t,ht,hq⟩:=hbody A outer s H vs Q E (hr.deeper _) hsp
 have e1:Env0 P w K mg base { A with handled:=none } outer s H:=⟨e0.frames,e0.mod,e0.bs,e0.bsz,e0.funs,e0.frf,e0.hok,e0.bare⟩
 have I0:Inv (eG CX0 P w K mg base N qual scope f cdv { A with handled:=none } outer s H E) [] (start N vs) H s1:=gB S rfl e1 hl r x
 have I:Inv (mO P w K mg base N qual scope f cdv A outer s H E) [] (start N vs) H s1 :=
  ⟨⟨I0.ok.mod,I0.ok.kind,I0.ok.glob,I0.ok.blt,I0.ok.above,I0.ok.inj,I0.ok.has,I0.ok.cab,fun z=>Bool.noConfusion z,Around.frames_deeper e0.frames,I0.ok.stk,I0.ok.exf,I0.ok.bs,I0.ok.bsz,I0.ok.noex,I0.ok.exfs,I0.ok.funs,I0.ok.frf⟩,I0.os,I0.bare,I0.base,I0.loc,I0.cell,I0.free,I0.freeC,I0.pin,I0.hok,I0.len⟩
 refine wpAny_mono (ht [] s1 (start N vs) H _ I hq) (fun fl s' hs=>?_) fun e s' hs=>False.elim hs
 have fin:∀ {σ':St}{H':Hp}{v:V}{u:Value},Inv (mO P w K mg base N qual scope f cdv A outer s H E) [] σ' H' s'->RelV v u->Q v H'->CE outer P w H s Q u s' :=
  fun {σ' H' v u} J rv q=>⟨v,H',J.os,J.bare,J.base,J.hok,rv,q⟩
 cases fl with
 | ret u=>
  obtain⟨v,σ',H',J,rv,q⟩:=hs
  exact fin J rv q
 | next=>
  obtain⟨σ',H',J,q⟩:=hs
  exact fin (v:=V.non) (u:=Value.none) J rfl q
 | brk=>
  obtain⟨_,_,_,q⟩:=hs
  exact False.elim q
 | cont=>
  obtain⟨_,_,_,q⟩:=hs
  exact False.elim q
section
variable {X:Cx}{k:Nat}{f:Addr}{fd:FuncData}{ps:List Str}{sp:Sp}{x:Str}{p pos:Pos}{e:Expr}{es:List Expr}{t:TA}
theorem pd (F:FnOkQ X.prog X.w X.K X.mg X.base k f fd ps sp) (hr:RoomQ k X.A) (hg:Gl X x) (hm:X.mg x=some (.ref f)) (hk:W.keepIn X.K (.ref f)=true) (hb:Binds X.K fd ps [])
  (ha:PA X (e::es) t) (hdb:(x == ("__debug__" : Str))=false:=by decide) (he:starEach (e::es) X.env=(false,eval e X.env)::starEach es X.env:=by rfl) (hpl:(backTo pos (starEach es X.env)).any (·.1)=false:=by rfl) :
  PE X (.Call (.Name x p) (e::es) [] pos) (fun σ H Q=>t σ H fun vs H1=>sp vs H1 Q E0):=by
 intro pins s σ H Q I h
 refine wpAny_Call_Name_kw (dA I hg hm ?_ hdb)
 refine PySem.W.callWith_K (h₀:=X.base) I.ok.mod.kin hk (thn (ha pos pins s σ H _ I h) fun us s1 ⟨vs,H1,I1,r,q⟩=>⟨I1.kIn,?_⟩) he hpl
 have hl:us.length=ps.length:=by rw[<- r.length]; exact F.len _ _ _ _ q
 have hb1:=hb s1 us I1.kIn (by rw[wU]; exact hl)
 rw[wU] at hb1
 refine wpAny_call (codeAny_mono (F.run X.A X.stack s1 H1 ⟨us,[]⟩ us vs Q E0 hr I1.env0 hb1 r q) fun r s' hq=>?_)
 cases r with
 | error e=>exact False.elim hq
 | ok fl=>
  cases fl with
  | ret u=>exact I1.after hq
  | next=>exact False.elim hq
  | brk=>exact False.elim hq
  | cont=>exact False.elim hq
def rm:V->Value
 | .ref a=>.ref a
 | .ty n=>.type n
 | _=>.none
theorem aT:cR X (.builtin "isinstance") (fun xs H Q=>∃ (a D:Addr) (c:V) (b:Bool),xs=[V.ref a,c]/\(∃ z,c=.ref z∨∃ n,c=.ty n)/\H a=some (.ext (ExcAt a D))/\ExcCls X.K D/\PySem.W.kitOne X.K (.ref D) (rm c)=some b/\Q (.bl b) H):=by
 intro pins s σ H xs us Q I r h
 obtain⟨a,D,c,b,rfl,hc,ha,ec,ek,q⟩:=h
 obtain⟨u1,u2,rfl,r1,r2⟩:=j5 r
 cases (show u1=Value.ref a from r1)
 have e2:u2=rm c:=by
  rcases hc with ⟨z,rfl | ⟨n,rfl⟩⟩
  ·exact r2
  ·exact r2
 subst e2
 obtain⟨hx,_,_⟩:=(show ObjOk X.prog X.w H s.heap a (.ext (ExcAt a D)) from I.hok a _ ha)
 exact PySem.W.kia_one (pR ec) I.kIn hx ek (fun z=>nomatch z) fun tk=>⟨.bl b,H,I.tok _,U,q⟩
end
structure Deed (P:Program) (w:World) (K:PySem.W.Frag) (mg:Str->Option Value) (base:Heap) (k:Nat) (s:Shared) (H:Hp) (outer:List Env) (g:Addr) (sp:Hp->VK->XK->Prop):Prop where
 fn:PySem.W.FnAt g s.heap
 un:H g=none
 nf:g ∉ frs outer
 run:∀ (A':Around) (outer':List Env) (s':Shared) (H':Hp) (Q:VK) (E:XK),Room k A'->Env0 P w K mg base A' outer' s' H' ->
  (∀ b o,s.heap.get? b=some o->H b=none->b ∉ frs outer->s'.heap.get? b=some o/\H' b=none)->(∀ b o u,H b=some (.frz o u)->H' b=some (.frz o u))->sp H' Q E->codeAny (model P w) A' (.call (.ref g) ⟨[],[]⟩) (CR (CXr P w) outer' P w H' s' Q E) s'
def sTry (K:PySem.W.Frag) (g R:Addr) (i j:Nat) (sp:Hp->VK->XK->Prop) (tb:TS):TS:=fun D σ H=>σ[i]?=some (some (.ref g))/\∃ E:XK,sp H (fun _ H1=>D.nx σ H1) E /\
 ∀ C a H1,E C (some a) H1->H1 a=none->∃ Ca,C=.ref Ca/\PySem.W.exmOne K (.ref Ca) (.ref R)=some true /\
  tb { nx:=fun σ' H2=>D.nx (σ'.set j none) H2,rt:=fun _ _=>False } (σ.set j (some (.ref a))) (upd H1 a (.ext (ExcAt a Ca)))
theorem tU {X:Cx}{k i j:Nat}{g R:Addr}{sp:Hp->VK->XK->Prop}{x c en:Str}{np cp ep cp2 hp tp:Pos}{b₀:Stmt}{suite:List Stmt}{tb:TS}
  (hd:Deed X.prog X.w X.K X.mg X.base k X.s₀ X.H₀ X.outer g sp) (hr:Room k X.A) (hex:X.ex=[]) (hstk:X.stack=X.env::X.outer) (hfr:X.env.frame=some X.env.locals)
  (hx:PE X.nox (.Name x np) (dg i)) (hcg:Gl X c) (hcm:X.mg c=some (.ref R)) (hN:X.N.Nodup) (hj:X.N[j]?=some en) (hlj:X.env.scope.names.lookup en=some .local) (hs:∀ e,PSs (X.marked e) (b₀::suite) tb)
  (hdb:(c == ("__debug__" : Str))=false:=by decide) (hsw:swapsWith (.Call (.Name x np) [] [] cp) none ep.line X.env=pure false:=by rfl) :
  PS X (.Try [.Expr (.Call (.Name x np) [] [] cp) ep] [.ExceptHandler (some (.Name c cp2)) (some en) (b₀::suite) hp] [] [] tp) (sTry X.K g R i j sp tb):=by
 intro pins s σ H D I ⟨hg,E,hsp,hE⟩
 refine wpAny_Try_except (wpAny_execs_cons (wpAny_Expr_any (wpAny_Call_Name_kw ?_) I.quiet hsw))
 refine wpAny_mono (hx pins s σ H (fun v H1=>v=.ref g/\H1=H) (I.wish _) ⟨.ref g,hg,U,U⟩) (fun u s1 ⟨v,H1,I1,r1,ev,eH⟩=>?_) fun _ _ z=>False.elim z
 subst ev; subst eH
 obtain rfl:u=Value.ref g:=r1
 have I1:Inv X pins σ H1 s1:=I1.unwish
 have keep:∀ b o,X.s₀.heap.get? b=some o->X.H₀ b=none->b ∉ frs X.outer->s1.heap.get? b=some o/\H1 b=none:=fun b o q n hb=>
  ⟨I1.base.keep b o q n hb (by rw[hex]; exact fun z=>nomatch z),I1.base.free b o q n (by rw[hex]; exact fun z=>nomatch z)⟩
 have hfa:PySem.W.FnAt g s1.heap:=by
  obtain⟨oc,od,fd,sl,e⟩:=hd.fn
  exact⟨oc,od,fd,sl,(keep g _ e hd.un hd.nf).1⟩
 refine PySem.W.callWith_F0 hfa (wpAny_call (codeAny_mono (hd.run X.A X.stack s1 H1 _ E hr I1.env0 keep I1.base.frzs hsp) fun r s' hq=>?_))
 cases r with
 | ok fl=>
  cases fl with
  | ret u=>
   obtain⟨v,H2,I2,rv,q⟩:=I1.after hq
   exact wpAny_execs_nil (wpAny_execs_nil ⟨σ,H2,I2,q⟩)
  | next=>exact False.elim hq
  | brk=>exact False.elim hq
  | cont=>exact False.elim hq
 | error e=>
  obtain⟨a,C,a0,H',B,rfl,fl,os,bare,un,kb,tb',hok,hEq⟩:=hq
  have nox:∀ b:Addr,b ∉ ([]:List Addr):=fun b z=>nomatch z
  have f0:Flt X.prog X.w X.stack H1 s1 H' B s'.heap:=⟨fl.1,fl.2.2.1,fun b o q n hb=>un.slot b o q n hb (nox b),fun b o q n=>un.free b o q n (nox b),un.tups,un.frzs,un.tbls,kb,tb',hok⟩
  have hAf:X.A.frames=some (X.env::X.outer):=by rw[<- hstk]; exact I.ok.frames
  rw[hstk] at fl
  refine wpAny_looks_onW hAf hfr fl fun h2 held u2=>?_
  have f2:=f0.next held.1 (by rw[hstk]; exact held.2.2.1) u2
  refine wpAny_landsW held fun h3 fl3 u3=>?_
  have f3:=f2.next fl3.1 (by rw[hstk]; exact fl3.2.2.1) u3
  have hna:H' a=none:=by
   cases q:H' a with
   | none=>rfl
   | some o=>
    obtain⟨ob,e⟩:=ObjOk.there (hok a o q)
    rw[fl3.2.1] at e; cases e
  obtain⟨Ca,rfl,hex2,hq⟩:=hE C a H' hEq hna
  have I3:Inv X pins σ H' { s' with heap:=h3 }:=I1.call' (s':={ s' with heap:=h3 }) (ch:=[]) os f3.un f3.ok bare fun b z=>absurd z (nox b)
  have xAt:∀ {h:Heap},Heap.FlyingW B (X.env::X.outer) a (.ref Ca) a0 h->ExcAt a Ca h:=fun {h} z=>by
   obtain⟨oe,vs,e1,e2,e3,_⟩:=z.first
   exact⟨oe,vs,e1,e2,e3⟩
  refine wpAny_handleBy_cons (codeAny_handlers_test ?_) (by intro q; cases q)
  refine dA (X:=X.marked a) (I3.mark a) hcg hcm ?_ hdb
  refine(PySem.W.exm_one (I3.kIn) (xAt fl3).ty hex2).here ?_
  refine codeAny_handlers_suite_as ?_
  refine wpAny_setFlight_noneW fl3.1 fl3.2.2.1 fl3.2.2.2 fun h4 k1 k2 k3 k4=>?_
  have fl4:Heap.FlyingW B (X.env::X.outer) a (.ref Ca) a0 h4:=⟨k1,fl3.2.1,k2,k3⟩
  have f4:=f3.next k1 (by rw[hstk]; exact k2) fun b o hb hn=>⟨o.slots,k4 b o hb hn⟩
  have I4:Inv X pins σ H' { s' with heap:=h4 }:=I1.call' (s':={ s' with heap:=h4 }) (ch:=[]) os f4.un f4.ok bare fun b z=>absurd z (nox b)
  obtain⟨ox,vx,ex1,ex2,ex3⟩:=xAt fl4
  have nfrm:a ∉ frs X.stack:=fun z=>by
   obtain⟨_,o,ho,hnf⟩:=f4.frames.mem z
   rw[ex1] at ho; cases ho
   exact hnf vx ex3
  have old:∀ b o,s1.heap.get? b=some o->b≠a:=fun b o q z=>by
   subst z
   obtain⟨o',e'⟩:=tb' b o q nfrm
   rw[fl3.2.1] at e'; cases e'
  have I5:Inv X pins σ (upd H' a (.ext (ExcAt a Ca))) { s' with heap:=h4 }:=by
   refine I4.tracked hna ?_ ?_ ?_ ?_ ⟨xAt fl4,⟨ox,ex1⟩,fun ha hb ⟨o,vs,y1,y2,y3⟩ kp=>⟨o,vs,kp o y1,y2,y3⟩⟩
   ·cases q:X.s₀.heap.get? a with
    | none=>rfl
    | some o=>
     obtain⟨o',e'⟩:=I1.base.there a o q (by rw[hex]; exact nox a)
     exact absurd rfl (old a o' e')
   ·obtain⟨m,⟨oL,_,_,hoL,_⟩,_⟩:=I1.loc
    exact Ne.symm (old _ _ hoL)
   ·intro y cc ec
    obtain⟨v,o,ho,_⟩:=I1.cell y cc ec
    exact old _ _ ho
   ·intro p hp
    exact old _ _ (I1.pin p hp).1
  refine fM (X:=X.marked a) (i:=j) (v:=.ref a) (I5.mark a) hN hj (.inl hlj) rfl (fun s5 I6=>?_) (.inr hlj)
  refine wpAny_mono (hs a pins s5 (σ.set j (some (.ref a))) _ _ I6 hq) (fun f s6 z=>?_) fun _ _ z=>False.elim z
  cases f with
  | next=>
   obtain⟨σ',H2,I7,q⟩:=z
   have I7:Inv X pins σ' H2 s6:=I7.unmark I
   obtain⟨m,hn,hm⟩:=id I7.loc
   refine wpAny_nameGoes_keeps hlj hn (by rw[I.ok.kind]; rfl) fun h' v hn' hs'=>?_
   exact⟨σ'.set j none,H2,I7.gone hN hj hm hn' hs',q⟩
  | ret u=>obtain⟨_,_,_,_,_,q⟩:=z; exact False.elim q
  | brk=>obtain⟨_,_,_,q⟩:=z; exact False.elim q
  | cont=>obtain⟨_,_,_,q⟩:=z; exact False.elim q
theorem passG {X:Cx}{E:XK} (hstk:X.stack=X.env::X.outer) (hfr:X.env.frame=some X.env.locals) (hex:X.ex=[]) {σ:St}{H:Hp}{s:Shared}{e:Value}{s':Shared} (I:Inv X pins σ H s)
  (h:CXr X.prog X.w X.stack H s E e s') {E1:Value->Shared->Prop}:wpAny (model X.prog X.w) X.A (leaving X.env e) (fun _ s''=>CXr X.prog X.w X.outer X.H₀ X.s₀ E e s'') E1 s':=by
 obtain⟨a,C,a0,H',B,rfl,fl,os,bare,un,kb,tb,hok,hE⟩:=h
 have nox:∀ b:Addr,b ∉ ([]:List Addr):=fun b z=>nomatch z
 have nxx:∀ b:Addr,b ∉ X.ex:=fun b=>by rw[hex]; exact nox b
 have f0:Flt X.prog X.w X.stack H s H' B s'.heap:=⟨fl.1,fl.2.2.1,fun b o q n hb=>un.slot b o q n hb (nox b),fun b o q n=>un.free b o q n (nox b),un.tups,un.frzs,un.tbls,kb,tb,hok⟩
 have hAf:X.A.frames=some (X.env::X.outer):=by rw[<- hstk]; exact I.ok.frames
 have sfr:frs X.stack=X.env.locals::frs X.outer:=by rw[hstk]; unfold frs; rw[List.filterMap_cons,hfr]
 have nfr:∀ b o,X.s₀.heap.get? b=some o->b ∉ frs X.outer->b ∉ frs X.stack:=fun b o eb hb z=>by
  rw[sfr] at z
  rcases wP.mp z with z | z
  ·exact absurd (Nat.lt_of_lt_of_le (Heap.lt_size eb) I.ok.above) (by rw[z]; exact Nat.lt_irrefl _)
  ·exact hb z
 rw[hstk] at fl
 refine wpAny_leaves_onW hAf hfr fl fun h' fl' ups=>?_
 refine⟨a,C,a0,H',B,U,fl',os.trans I.os,bare,⟨fun b o q n hb _=>?_,fun b o q n hb hx=>?_,fun b o q n hx=>?_,fun b o q hx=>?_,fun b xs q=>un.tups b xs (I.base.tups b xs q),fun b o u q=>un.frzs b o u (I.base.frzs b o u q),fun b ps q=>?_⟩,fun b o q n hb=>?_,fun b o q hb=>?_,hok,hE⟩
 ·exact fl'.1 b o (kb b o (I.base.keep b o q n hb (nxx b)) (I.base.free b o q n (nxx b)) (nfr b o q hb))
 ·obtain⟨sl,e1⟩:=I.base.slot b o q n hb (nxx b)
  obtain⟨sl2,e2⟩:=un.slot b _ e1 (I.base.free b o q n (nxx b)) (by rw[sfr]; exact wE _ hb) (nox b)
  obtain⟨_,o2,ho2,hnf⟩:=f0.frames.mem (show b ∈ frs X.stack by rw[sfr]; exact wE _ hb)
  rw[e2] at ho2
  cases ho2
  obtain⟨sl3,e3⟩:=ups b _ e2 hnf
  exact⟨sl3,e3⟩
 ·obtain⟨sl,e1⟩:=I.base.any q n (nxx b)
  exact un.free b _ e1 (I.base.free b o q n (nxx b)) (nox b)
 ·obtain⟨o1,e1⟩:=I.base.there b o q (nxx b)
  by_cases hb:b ∈ frs X.stack
  ·obtain⟨_,o2,ho2,hnf⟩:=f0.frames.mem hb
   obtain⟨sl2,e2⟩:=ups b _ ho2 hnf
   exact⟨_,e2⟩
  ·obtain⟨o2,e2⟩:=tb b o1 e1 hb
   exact⟨o2,fl'.1 b o2 e2⟩
 ·obtain⟨more,e1⟩:=I.base.tbls b ps q
  obtain⟨more2,e2⟩:=un.tbls b _ e1
  exact⟨more++more2,by rw[<- Array.append_assoc]; exact e2⟩
 ·exact kb b o (I.base.keep b o q n hb (nxx b)) (I.base.free b o q n (nxx b)) (nfr b o q hb)
 ·obtain⟨o1,e1⟩:=I.base.there b o q (nxx b)
  exact tb b o1 e1 (nfr b o q hb)
def kJ (P:Program) (w:World) (K:PySem.W.Frag) (mg:Str->Option Value) (base:Heap) (N:List Str) (qual:Str) (scope:Scope) (g:Addr) (cd:Value) (cl:List (Str×Addr)) (A:Around) (outer:List Env) (s:Shared) (H:Hp) (E:XK):Cx where
 prog:=P
 w:=w
 K:=K
 mg:=mg
 base:=base
 A:=A.deeper (PySem.W.envX qual scope s.heap.objs.size g cd cl)
 N:=N
 s₀:=s
 H₀:=H
 env:=PySem.W.envX qual scope s.heap.objs.size g cd cl
 outer:=outer
 stack:=PySem.W.envX qual scope s.heap.objs.size g cd cl::outer
 ex:=[]
 calm:=true
 fn:=fun _=>false
 pn:=[]
 xe:=fun e s'=>wpAny (model P w) (A.deeper (PySem.W.envX qual scope s.heap.objs.size g cd cl)) (leaving (PySem.W.envX qual scope s.heap.objs.size g cd cl) e) (fun _ s''=>CXr P w outer H s E e s'') (fun e' s''=>CXr P w outer H s E e' s'') s'
variable{qual:Str}
theorem jd {P:Program}{w:World}{K:PySem.W.Frag}{mg:Str->Option Value}{base:Heap}{N:List Str}{scope:Scope}{g:Addr}{cd:Value}{cl:List (Str×Addr)}{A:Around}{outer:List Env}{s:Shared}{H:Hp}{E:XK} :
  dG (CXr P w) (kJ P w K mg base N qual scope g cd cl A outer s H E) E:=fun pins σ H1 s1 e s' I h=>passG (X:=kJ P w K mg base N qual scope g cd cl A outer s H E) rfl rfl rfl I h
structure LamAt (h:Heap) (H:Hp) (fs:List Addr) (N:List Str) (σ:St) (qual:Str) (params:Arguments) (body:Expr) (scope:Scope) (cl:List (Str×Addr)) (g c':Addr):Prop where
 fn:∃ pm ctv,h.get? g=some (PySem.W.kla_obj "<lambda>" qual params body scope cl pm c' ctv)
 gn:H g=none/\g ∉ fs
 code:∃ o vs t,H c'=some (.frz o (.own 0))/\o.data=.fields vs/\vs[1]?=some (.str qual t)
 cells:∀ x c,cl.lookup x=some c->(∃ v,h.IsCell c v)/\H c=none/\c ∉ fs
 vals:∀ (i:Nat) (x:Str) (v:V),N[i]?=some x->σ[i]?=some (some v)->∃ u c,RelV v u/\cl.lookup x=some c/\h.IsCell c (some u)
theorem qh {P:Program}{w:World}{K:PySem.W.Frag}{mg:Str->Option Value}{base:Heap}{k:Nat}{s:Shared}{H:Hp}{outer:List Env}{g c':Addr}{N:List Str}{σ:St}{params:Arguments}{body:Expr}{scope:Scope}{cl:List (Str×Addr)}{tb:XK->TE}
  (L:LamAt s.heap H (frs outer) N σ qual params body scope cl g c') (hl:σ.length=N.length) (hk:scope.kind=.function) (hco:scope.isCoroutine=false) (hgen:scope.isGenerator=false) (hcell:∀ x ∈ scope.names,x.2≠.cell)
  (hfree:∀ x:Str,scope.names.lookup x=some .free->∃ c,cl.lookup x=some c) (hN:∀ x ∈ N,scope.names.lookup x=some .free) (hinj:∀ x y c,cl.lookup x=some c->cl.lookup y=some c->x=y)
  (hbind:∀ (pm cd ctv:Value),bindArgs (PySem.W.kla_fn "<lambda>" qual params body scope cl pm cd ctv) ⟨[],[]⟩=pure [])
  (hbody:∀ (A:Around) (outer:List Env) (s:Shared) (H:Hp) (E:XK),Room k (A.deeper (PySem.W.envX qual scope s.heap.objs.size g (.ref c') cl))->PE (kJ P w K mg base N qual scope g (.ref c') cl A outer s H E) body (tb E)) :
  Deed P w K mg base (k+1) s H outer g (fun H1 Q E=>tb E σ H1 Q):=by
 obtain⟨pm,ctv,hg⟩:=L.fn
 refine⟨⟨_,_,_,_,hg⟩,L.gn.1,L.gn.2,fun A' outer' s' H' Q E hr e0 keep kfrz hq=>?_⟩
 have hg':=(keep g _ hg L.gn.1 L.gn.2).1
 have lim:s'.heap.NoLimit:=e0.mod.nolimit.keeps fun b o e=>(e0.bs b o e).1
 obtain⟨oc,vs,t,h1,h2,h3⟩:=L.code
 have hcode:s'.heap.CodeRec (.ref c') qual:=by
  obtain⟨e1,_⟩:=e0.hok c' _ (kfrz c' oc _ h1)
  exact⟨c',oc,vs,t,U,e1,h2,h3⟩
 refine PySem.W.kla_callFunE hr.depth hg' rfl hco hgen rfl hcode ?_
 rw[hbind]
 refine wpAny_pure (wpAny_newFunctionEnv hcell (fun _ z=>nomatch z) (fun h₁ hns hsb=>?_) hk)
 have hk₁:∀ b o,s'.heap.get? b=some o->h₁.get? b=some o:=fun b o e=>(hsb.2 b (Nat.ne_of_lt (Heap.lt_size e))).trans (Heap.get?_push_of_some _ e)
 refine⟨lim.keeps hk₁,?_⟩
 show codeAny _ _ (.expr body (PySem.W.envX qual scope s'.heap.objs.size g (.ref c') cl)) _ _
 have hcl:∀ x c,cl.lookup x=some c->(∃ v,s'.heap.IsCell c v)/\H' c=none:=fun x c e=>by
  obtain⟨⟨v,o,ho,hv⟩,n,nf⟩:=L.cells x c e
  obtain⟨k1,k2⟩:=keep c o ho n nf
  exact⟨⟨v,o,k1,hv⟩,k2⟩
 have I:Inv (kJ P w K mg base N qual scope g (.ref c') cl A' outer' s' H' E) [] σ H' { s' with heap:=h₁,toks:=s'.toks+0 }:=by
  refine⟨⟨e0.mod,hk,U,U,Nat.le_refl _,hinj,fun y hy=>?_,fun y c z=>Bool.noConfusion z,fun _=>hr.hd,Around.frames_deeper e0.frames,.inr ⟨U,U⟩,(fun b z=>nomatch z),e0.bs,e0.bsz,(fun b _ _ z=>nomatch z),(fun b z=>nomatch z),e0.funs,e0.frf⟩,
   rfl,e0.bare,Un.kept hk₁,⟨_,hns,fun i y v h1 h2 h3=>?_⟩,fun y c h=>?_,e0.hok.fresh (Nat.le_refl _),fun y c h=>(hcl y c h).2,(fun p hp=>nomatch hp),e0.hok.kept hk₁,hl⟩
  ·have hy:scope.names.lookup y=some .cell∨scope.names.lookup y=some .free:=hy
   rcases hy with hy | hy
   ·exact absurd rfl (hcell _ (PySem.mem_of_lookup hy))
   ·exact hfree y hy
  ·obtain⟨u,c,r,e,o,ho,hv⟩:=L.vals i y v h1 h2
   refine⟨u,r,.inr ⟨.inr (hN y (wI h1)),c,e,?_⟩⟩
   obtain⟨_,n,nf⟩:=L.cells y c e
   exact⟨o,hk₁ _ _ (keep c o ho n nf).1,hv⟩
  ·obtain⟨⟨v,z⟩,_⟩:=hcl y c h
   exact⟨v,z.keeps hk₁⟩
 refine PySem.W.kla_codeExpr (wpAny_mono (hbody A' outer' s' H' E (hr.deeper _) [] _ σ H' Q I hq) (fun u s2 ⟨v,H2,J,r,q⟩=>?_) fun e s2 z=>z)
 exact⟨v,H2,J.os,J.bare,J.base,J.hok,r,q⟩
def BM (base:Heap) (mg:Str->Option Value):Prop:=∃ bm ob,mg "__builtins__" = some (.ref bm)/\bm≠builtinsNs/\base.get? bm=some ob/\ob.cls=.type "module" /\ ob.dict=some builtinsNs/\ob.data=.plain
structure RefOk (P:Program) (w:World) (K:PySem.W.Frag) (mg:Str->Option Value) (base:Heap) (k kd:Nat) (f:Addr) (rs:(Hp->VK->XK->Prop)->Hp->VK->Prop):Prop where
 run:∀ (A:Around) (outer:List Env) (s:Shared) (H:Hp) (g:Addr) (spD:Hp->VK->XK->Prop) (Q:VK),Room k A->Env0 P w K mg base A outer s H->Deed P w K mg base kd s H outer g spD->rs spD H Q ->
  codeAny (model P w) A (.call (.ref f) ⟨[.ref g],[]⟩) (CR CX0 outer P w H s Q E0) s
def tz (Pt:Addr) (qual:Str) (lpos:Pos) (js:List Nat) (rs:(Hp->VK->XK->Prop)->Hp->VK->Prop) (tb:XK->TE):TE:=fun σ H Q=>∃ ps:Array Value,H Pt=some (.tbl ps)/\TriplesOk ps.toList /\
 ((codeAmong lpos ps.toList=none/\∀ (c':Addr) (oc:Obj) (vs:Array Value) (t:Tok),H c'=none->oc.data=.fields vs->vs[1]?=some (.str qual t) ->
   rs (fun H1 Q1 E1=>tb E1 (js.map fun j=>(σ[j]?).join) H1 Q1) (upd (upd H Pt (.tbl (ps++#[rawInt lpos.line,rawInt lpos.col,.ref c']))) c' (.frz oc (.own 0))) Q) ∨
  ∃ (c':Addr) (oc:Obj) (vs:Array Value) (t:Tok),codeAmong lpos ps.toList=some (.ref c')/\H c'=some (.frz oc (.own 0))/\oc.data=.fields vs/\vs[1]?=some (.str qual t)/\rs (fun H1 Q1 E1=>tb E1 (js.map fun j=>(σ[j]?).join) H1 Q1) H Q)
section
variable {X:Cx}{pins:List (Addr×Obj)}{σ:St}{H:Hp}{s:Shared}{c Pt:Addr}{ps:Array Value}{params:Arguments}{body:Expr}{scope:Scope}{lpos:Pos}{clos:List (Str×Addr)}{Q:Value->Shared->Prop}{E:Value->Shared->Prop}
theorem pQ (I:Inv X pins σ H s) (hbm:BM X.base X.mg) (hP:H Pt=some (.tbl ps)):s.heap.BuiltinsAt X.mg Pt:=by
 obtain⟨bm,ob,b1,b2,b3,b4,b5,b6⟩:=hbm
 obtain⟨e1,e2⟩:=I.bs _ _ b3
 refine⟨bm,ob,b1,b2,fun q=>?_,fun q=>?_,e1,b4,b5,b6⟩
 ·obtain⟨o,es,ep,e,hd,_⟩:=I.mod.glob
  rw[q,e] at b3; cases b3; rw[hd] at b6; cases b6
 ·rw[q,hP] at e2; cases e2
theorem uE (I:Inv X pins σ H s) (hP:H Pt=some (.tbl ps)):mainGlobals≠Pt:=fun q=>by
 obtain⟨o,es,ep,e,_⟩:=I.mod.glob
 have:=(I.bs _ _ e).2
 rw[q,hP] at this; cases this
theorem pN (I:Inv X pins σ H s) (hcode:X.env.code=.ref c) (hC:PySem.W.CodeHd X.base c Pt) (hbm:BM X.base X.mg) (hP:H Pt=some (.tbl ps)) (ht:TriplesOk ps.toList) (hcl:closureFor scope X.env=pure clos) (hdef:defaultsOf params X.env=([],[]))
  (hn:codeAmong lpos ps.toList=none)
  (h:∀ (c' g:Addr) (s1:Shared) (oc:Obj) (vs:Array Value) (t:Tok) (pm ctv:Value),Inv X pins σ (upd (upd H Pt (.tbl (ps++#[rawInt lpos.line,rawInt lpos.col,.ref c']))) c' (.frz oc (.own 0))) s1->H c'=none->s.heap.objs.size<=c'->oc.data=.fields vs->vs[1]?=some (.str (X.env.qual ++ "<lambda>") t) ->
   s1.heap.get? g=some (PySem.W.kla_obj "<lambda>" (X.env.qual ++ "<lambda>") params body scope clos pm c' ctv)->s.heap.objs.size<=g->g≠c'->(∀ b o,b≠Pt->s.heap.get? b=some o->s1.heap.get? b=some o)->Q (.ref g) s1) :
  wpAny (model X.prog X.w) X.A (eval (.Lambda params body scope lpos) X.env) Q E s:=by
 have hPg:s.heap.get? Pt=some (PySem.W.tabObj ps):=I.hok Pt _ hP
 refine PySem.W.kla_eval hdef (PySem.W.kla_makeFunction (mg:=X.mg) hcl I.ok.glob (I.mod.glob.keeps I.bk) hcode (hC.keeps I.bk) hPg ht hn (uE I hP) (pQ I hbm hP) fun c' ctv h' tk hx hge hlt hrec htb=>?_)
 obtain⟨c2,oc,vs,t,e2,hoc,hd,hv⟩:=hrec
 cases e2
 have hcn:H c'=none:=I.hok.fresh hge
 have hcP:c'≠Pt:=fun z=>by rw[z,hP] at hcn; cases hcn
 have hne:∀ b u,H b=some u->b≠c':=fun b u e z=>by rw[z,hcn] at e; cases e
 have hPs:Pt<s.heap.objs.size:=Heap.lt_size hPg
 have hsz:s.heap.objs.size<=h'.objs.size:=Nat.le_of_lt (Nat.lt_of_le_of_lt hge hlt)
 refine h c' h'.objs.size _ oc vs t _ ctv (I.un (t':=tk) ⟨fun b o e n _ _=>?_,fun b o e n _ _=>⟨o.slots,?_⟩,fun b o e n _=>?_,fun b o e _=>?_,fun b xs e=>?_,fun b o u e=>?_,fun b qs e=>?_⟩ fun b u e=>?_) hcn hge hd hv (Heap.get?_push_size _ rfl) hsz (Nat.ne_of_gt hlt)
  fun b o hb e=>Heap.get?_push_of_some _ (hx b o hb e)
 ·exact Heap.get?_push_of_some _ (hx b o (fun z=>by rw[z,hP] at n; cases n) e)
 ·exact Heap.get?_push_of_some _ (hx b o (fun z=>by rw[z,hP] at n; cases n) e)
 ·rw[aA (Nat.ne_of_lt (Nat.lt_of_lt_of_le (Heap.lt_size e) hge)),aA (fun z=>by rw[z,hP] at n; cases n)]; exact n
 ·by_cases hb:b=Pt
  ·subst hb; exact⟨_,Heap.get?_push_of_some _ htb⟩
  ·exact⟨o,Heap.get?_push_of_some _ (hx b o hb e)⟩
 ·rw[aA (hne b _ e),aA (fun z=>by rw[z,hP] at e; cases e)]; exact e
 ·rw[aA (hne b _ e),aA (fun z=>by rw[z,hP] at e; cases e)]; exact e
 ·by_cases hb:b=Pt
  ·subst hb
   rw[hP] at e; cases e
   exact⟨_,by rw[aA (Ne.symm hcP),bz]⟩
  ·exact⟨#[],by rw[aA (hne b _ e),aA hb,e]; simp⟩
 ·by_cases hb:b=c'
  ·subst hb
   rw[bz] at e; cases e
   exact⟨Heap.get?_push_of_some _ hoc,oc,Heap.get?_push_of_some _ hoc⟩
  ·rw[aA hb] at e
   by_cases hb2:b=Pt
   ·subst hb2
    rw[bz] at e; cases e
    exact Heap.get?_push_of_some _ htb
   ·rw[aA hb2] at e
    refine(I.hok b u e).stay (fun d v hd2 q=>Heap.get?_push_of_some _ (hx d v ?_ q)) (fun d q=>?_) fun d xs q=>?_
    ·rcases hd2 with z | z
     ·rw[z]; exact hb2
     ·intro y; rw[y,hP] at z; cases z
    ·rw[aA (hne d _ q),aA (fun z=>by rw[z,hP] at q; cases q)]; exact q
    ·rw[aA (hne d _ q),aA (fun z=>by rw[z,hP] at q; cases q)]; exact q
theorem ky {c':Addr} (I:Inv X pins σ H s) (hcode:X.env.code=.ref c) (hC:PySem.W.CodeHd X.base c Pt) (hbm:BM X.base X.mg) (hP:H Pt=some (.tbl ps)) (ht:TriplesOk ps.toList) (hcl:closureFor scope X.env=pure clos) (hdef:defaultsOf params X.env=([],[]))
  (hn:codeAmong lpos ps.toList=some (.ref c'))
  (h:∀ (g:Addr) (s1:Shared) (pm ctv:Value),Inv X pins σ H s1->s1.heap.get? g=some (PySem.W.kla_obj "<lambda>" (X.env.qual ++ "<lambda>") params body scope clos pm c' ctv)->s.heap.objs.size<=g->(∀ b o,s.heap.get? b=some o->s1.heap.get? b=some o)->Q (.ref g) s1) :
  wpAny (model X.prog X.w) X.A (eval (.Lambda params body scope lpos) X.env) Q E s:=by
 have hPg:s.heap.get? Pt=some (PySem.W.tabObj ps):=I.hok Pt _ hP
 refine PySem.W.kla_eval hdef (PySem.W.kla_makeFunctionHit (mg:=X.mg) hcl I.ok.glob (I.mod.glob.keeps I.bk) hcode (hC.keeps I.bk) hPg ht hn (pQ I hbm hP) fun ctv h' tk hk hsz=>?_)
 have kp:∀ b o,s.heap.get? b=some o->(h'.push { cls:=.type "function",data:=.func (PySem.W.kla_fn "<lambda>" (X.env.qual ++ "<lambda>") params body scope clos ((X.mg "__name__").getD .none) (.ref c') ctv) }).get? b=some o:=fun b o e=>Heap.get?_push_of_some _ (hk b o e)
 exact h h'.objs.size _ _ ctv (I.kept (t':=tk) kp) (Heap.get?_push_size _ rfl) hsz kp
end
section
variable {X:Cx}{k kd:Nat}{f c Pt:Addr}{rs:(Hp->VK->XK->Prop)->Hp->VK->Prop}{x:Str}{p pos lpos:Pos}{params:Arguments}{body:Expr}{scope:Scope}{N':List Str}{tb:XK->TE}
theorem c9 (js:List Nat) (F:RefOk X.prog X.w X.K X.mg X.base k (kd+1) f rs) (hr:Room k X.A) (hg:Gl X x) (hm:X.mg x=some (.ref f)) (hk:W.keepIn X.K (.ref f)=true)
  (hcode:X.env.code=.ref c) (hC:PySem.W.CodeHd X.base c Pt) (hbm:BM X.base X.mg) (hfn:∀ y,X.fn y=true) (hstk:X.stack=X.env::X.outer) (hfrm:X.env.frame=some X.env.locals)
  (hkd:scope.kind=.function) (hco:scope.isCoroutine=false) (hgen:scope.isGenerator=false) (hcell:∀ y ∈ scope.names,y.2≠.cell) {esc:Scope} (hsc:X.env.scope=esc) (hcells':∀ y ∈ scope.names,y.2=.free->esc.names.lookup y.1=some .cell)
  (hNF:∀ y ∈ N',scope.names.lookup y=some .free) (hNJ:js.map (fun j=>X.N[j]?)=N'.map some)
  (hbind:∀ (qual:Str) (cl:List (Str×Addr)) (pm cd ctv:Value),bindArgs (PySem.W.kla_fn "<lambda>" qual params body scope cl pm cd ctv) ⟨[],[]⟩=pure [])
  (hbody:∀ (g c':Addr) (cl:List (Str×Addr)) (A:Around) (outer:List Env) (s:Shared) (H:Hp) (E:XK),Room kd (A.deeper (PySem.W.envX (X.env.qual ++ "<lambda>") scope s.heap.objs.size g (.ref c') cl)) ->
   PE (kJ X.prog X.w X.K X.mg X.base N' (X.env.qual ++ "<lambda>") scope g (.ref c') cl A outer s H E) body (tb E))
  (hdef:defaultsOf params X.env=([],[]):=by rfl) (hdb:(x == ("__debug__" : Str))=false:=by decide) (he:starEach [.Lambda params body scope lpos] X.env=[(false,eval (.Lambda params body scope lpos) X.env)]:=by rfl) :
  PE X (.Call (.Name x p) [.Lambda params body scope lpos] [] pos) (tz Pt (X.env.qual ++ "<lambda>") lpos js rs tb):=by
 intro pins s σ H Q I ⟨ps,hP,ht,hq⟩
 have hcells:∀ y ∈ scope.names,y.2=.free->X.env.kindOf y.1=some .cell:=fun y hy e=>by
  show X.env.scope.names.lookup y.1=_
  rw[hsc]; exact hcells' y hy e
 have hfr:∀ y ∈ scope.names,y.2=.free->∃ d,X.env.cells.lookup y.1=some d:=fun y hy e=>I.ok.has _ (.inl (hcells y hy e))
 have hcl:=iM scope X.env hfr
 have csub:∀ y d,(eI X.env.cells scope.names []).lookup y=some d->X.env.cells.lookup y=some d:=fun y d e=>f8 scope.names [] hfr (fun _ _ z=>nomatch z) e
 have hlen:js.length=N'.length:=by have:=congrArg List.length hNJ; simpa using this
 have hPg:s.heap.get? Pt=some (PySem.W.tabObj ps):=I.hok Pt _ hP
 have go:∀ (g c':Addr) (s1:Shared) (H1:Hp) (oc:Obj) (vs:Array Value) (t:Tok) (pm ctv:Value),Inv X pins σ H1 s1->H1 c'=some (.frz oc (.own 0))->oc.data=.fields vs->vs[1]?=some (.str (X.env.qual ++ "<lambda>") t) ->
   s1.heap.get? g=some (PySem.W.kla_obj "<lambda>" (X.env.qual ++ "<lambda>") params body scope (eI X.env.cells scope.names []) pm c' ctv)->H1 g=none->s.heap.objs.size<=g ->
   rs (fun H1 Q1 E1=>tb E1 (js.map fun j=>(σ[j]?).join) H1 Q1) H1 Q->wpAny (model X.prog X.w) X.A (call (.ref f) [.ref g]) (EP X pins σ Q) X.xe s1:=by
  intro g c' s1 H1 oc vs t pm ctv I1 h1 h2 h3 hgo hgn hge hrs
  have nst:∀ b,b ∈ frs X.stack->b<s.heap.objs.size:=fun b hb=>by
   obtain⟨_,o,ho,_⟩:=I.stack.mem hb
   exact Heap.lt_size ho
  have hcc:∀ y d,X.env.cells.lookup y=some d->d ∉ frs X.stack:=fun y d e z=>by
   have z2:=I.stkSub d z
   rcases wP.mp z2 with z2 | z2
   ·exact I.cne y d e z2
   ·obtain⟨_,o,ho,_⟩:=I.ok.funs.mem z2
    exact absurd (Nat.lt_of_lt_of_le (Heap.lt_size ho) (I.ok.cab y d (hfn y) e)) (Nat.lt_irrefl _)
  have L:LamAt s1.heap H1 (frs X.stack) N' (js.map fun j=>(σ[j]?).join) (X.env.qual ++ "<lambda>") params body scope (eI X.env.cells scope.names []) g c':=by
   refine⟨⟨pm,ctv,hgo⟩,⟨hgn,fun z=>absurd (Nat.lt_of_lt_of_le (nst g z) hge) (Nat.lt_irrefl _)⟩,⟨oc,vs,t,h1,h2,h3⟩,fun y d e=>?_,fun i y v e1 e2=>?_⟩
   ·exact⟨I1.cell y d (csub y d e),I1.freeC y d (csub y d e),hcc y d (csub y d e)⟩
   ·have hyF:=hNF y (wI e1)
    obtain⟨d,hd⟩:=dY (cells:=X.env.cells) scope.names [] (PySem.mem_of_lookup hyF)
    have hi:(js.map (fun j=>X.N[j]?))[i]?=some (some y):=by rw[hNJ,wM,e1]; rfl
    rw[wM] at hi e2
    cases hj:js[i]? with
    | none=>rw[hj] at hi; cases hi
    | some j=>
     rw[hj] at hi e2
     have hXN:X.N[j]?=some y:=by simpa using hi
     have hσ:σ[j]?=some (some v):=by
      have e3:(σ[j]?).join=some v:=by simpa using e2
      cases q:σ[j]? with
      | none=>rw[q] at e3; cases e3
      | some o=>rw[q] at e3; cases o with
       | none=>cases e3
       | some v'=>cases e3; rfl
     obtain⟨m,hn,hm⟩:=I1.loc
     have hkc:=hcells _ (PySem.mem_of_lookup hyF) rfl
     obtain⟨u,r,lk⟩:=hm j y v hXN hσ (.inr (.inl hkc))
     rcases lk with ⟨kk,_⟩ | ⟨_,d2,hd2,hcell2⟩
     ·rw[show X.env.kindOf y=some .cell from hkc] at kk; cases kk
     ·have e4:=csub y d hd
      rw[e4] at hd2; cases hd2
      exact⟨u,d,r,hd,hcell2⟩
  have D:=qh (P:=X.prog) (w:=X.w) (K:=X.K) (mg:=X.mg) (base:=X.base) (k:=kd) (tb:=tb) L (by rw[wF,hlen]) hkd hco hgen hcell (fun y hy=>dY scope.names [] (PySem.mem_of_lookup hy)) hNF (fun y z d e1 e2=>I.ok.inj y z d (csub y d e1) (csub z d e2))
   (fun pm cd ctv=>hbind _ _ pm cd ctv) (fun A outer s H E hr=>hbody g c' _ A outer s H E hr)
  refine wpAny_call (codeAny_mono (F.run X.A X.stack s1 H1 g _ Q hr I1.env0 D hrs) fun r s' hq=>?_)
  cases r with
  | error e=>exact False.elim hq
  | ok fl=>
   cases fl with
   | ret u=>exact I1.after hq
   | next=>exact False.elim hq
   | brk=>exact False.elim hq
   | cont=>exact False.elim hq
 refine wpAny_Call_Name_kw (dA I hg hm ?_ hdb)
 refine PySem.W.callWith_K (h₀:=X.base) I.ok.mod.kin hk ?_ he rfl
 rw[he]
 show wpAny _ _ (spliced ((false,eval (.Lambda params body scope lpos) X.env)::backTo pos [])) _ _ s
 refine Calls.spliced_cons ?_
 rcases hq with ⟨hn,hq⟩ | ⟨c',oc,vs,t,hn,h1,h2,h3,hq⟩
 ·refine pN I hcode hC hbm hP ht hcl hdef hn fun c' g s1 oc vs t pm ctv I1 hcn hcs h2 h3 hgo hge hgc kp=>Calls.spliced_nil ⟨I1.kIn,?_⟩
  have hgP:g≠Pt:=Ne.symm (Nat.ne_of_lt (Nat.lt_of_lt_of_le (Heap.lt_size hPg) hge))
  exact go g c' s1 _ oc vs t pm ctv I1 bz h2 h3 hgo (by rw[aA hgc,aA hgP]; exact I.hok.fresh hge) hge (hq c' oc vs t hcn h2 h3)
 ·refine ky I hcode hC hbm hP ht hcl hdef hn fun g s1 pm ctv I1 hgo hge kp=>Calls.spliced_nil ⟨I1.kIn,?_⟩
  exact go g c' s1 _ oc vs t pm ctv I1 h1 h2 h3 hgo (I.hok.fresh hge) hge hq
end
variable{rs:(Hp->VK->XK->Prop)->Hp->VK->Prop}{fd:FuncData}
section
variable {P:Program}{w:World}{K:PySem.W.Frag}{mg:Str->Option Value}{base:Heap}
theorem FunG.okC {x qual:Str}{st:Stmt}{dV:Value}{f:Addr}{N ps:List Str}{k:Nat}{sp:Sp} (F:FunG K x qual st dV f fd) (S:FnScope N ps (aj st)) (len:∀ vs H Q E,sp vs H Q E->vs.length=ps.length)
  (hbody:∀ (cdv:Value) (A:Around) (outer:List Env) (s:Shared) (H:Hp) (vs:List V) (Q:VK) (E:XK),fd.code=cdv->Room k (A.deeper (envOfC qual (aj st) s.heap.objs.size f cdv))->sp vs H Q E ->
   ∃ t,PSs (eG CX0 P w K mg base N qual (aj st) f cdv A outer s H E).nox (bK st) t/\t { nx:=fun _ H'=>Q .non H',rt:=Q } (start N vs) H):FnOk P w K mg base CX0 (k+1) f fd ps sp:=by
 obtain⟨oc,od,kV,doc,pm,an,cdv,ct,osl,rfl,lk,hcd⟩:=F.ex
 refine p9 lk hcd S len fun A outer s H vs Q E hr hsp=>?_
 obtain⟨t,h,q⟩:=hbody cdv A outer s H vs Q E rfl hr hsp
 exact⟨t,h.nox,q⟩
theorem FunG.okR {x qual:Str}{st:Stmt}{dV:Value}{f:Addr}{N ps:List Str}{k:Nat}{sp:Sp} (F:FunG K x qual st dV f fd) (S:FnScope N ps (aj st)) (len:∀ vs H Q E,sp vs H Q E->vs.length=ps.length)
  (hbody:∀ (cdv:Value) (A:Around) (outer:List Env) (s:Shared) (H:Hp) (vs:List V) (Q:VK) (E:XK),Room k (A.deeper (envOfC qual (aj st) s.heap.objs.size f cdv))->sp vs H Q E ->
   ∃ t,PSs (eG (CXr P w) P w K mg base N qual (aj st) f cdv A outer s H E) (bK st) t/\t { nx:=fun _ H'=>Q .non H',rt:=Q } (start N vs) H):FnOk P w K mg base (CXr P w) (k+1) f fd ps sp:=by
 obtain⟨oc,od,kV,doc,pm,an,cdv,ct,osl,rfl,lk,hcd⟩:=F.ex
 exact p9 lk hcd S len fun A outer s H vs Q E hr hsp=>hbody cdv A outer s H vs Q E hr hsp
theorem FunG.okQ {x qual:Str}{st:Stmt}{dV:Value}{f:Addr}{N ps:List Str}{k:Nat}{sp:Sp} (F:FunG K x qual st dV f fd) (S:FnScope N ps (aj st)) (len:∀ vs H Q E,sp vs H Q E->vs.length=ps.length)
  (hbody:∀ (cdv:Value) (A:Around) (outer:List Env) (s:Shared) (H:Hp) (vs:List V) (Q:VK) (E:XK),RoomQ k (A.deeper (envOfC qual (aj st) s.heap.objs.size f cdv))->sp vs H Q E ->
   ∃ t,PSs (mO P w K mg base N qual (aj st) f cdv A outer s H E) (bK st) t/\t { nx:=fun _ H'=>Q .non H',rt:=Q } (start N vs) H):FnOkQ P w K mg base (k+1) f fd ps sp:=by
 obtain⟨oc,od,kV,doc,pm,an,cdv,ct,osl,rfl,lk,hcd⟩:=F.ex
 exact uQ lk hcd S len fun A outer s H vs Q E hr hsp=>hbody cdv A outer s H vs Q E hr hsp
theorem FunG.refOk {x qual y:Str}{st:Stmt}{f:Addr}{N:List Str}{k kd:Nat} (F:FunG K x qual st .none f fd) (S:FnScope N [y] (aj st)) (hb:Binds K fd [y] [])
  (hbody:∀ (cdv:Value) (A:Around) (outer:List Env) (s:Shared) (H:Hp) (g:Addr) (spD:Hp->VK->XK->Prop) (Q:VK),Room k (A.deeper (envOfC qual (aj st) s.heap.objs.size f cdv))->Deed P w K mg base kd s H outer g spD->rs spD H Q ->
   ∃ t,PSs (eG CX0 P w K mg base N qual (aj st) f cdv A outer s H E0).nox (bK st) t/\t { nx:=fun _ H'=>Q .non H',rt:=Q } (start N [.ref g]) H):RefOk P w K mg base (k+1) kd f rs:=by
 obtain⟨oc,od,kV,doc,pm,an,cdv,ct,osl,rfl,lk,hcd⟩:=F.ex
 refine⟨fun A outer s H g spD Q hr e0 D hrs=>?_⟩
 have r:Vals [V.ref g] [Value.ref g]:=.cons rfl .nil
 have KX:K.In s.heap:=e0.mod.kin.keeps fun b o e=>(e0.bs b o e).1
 have lim:s.heap.NoLimit:=e0.mod.nolimit.keeps fun b o e=>(e0.bs b o e).1
 have hkind:∀ z ∈ [y].zip [Value.ref g],(aj st).names.lookup z.1=some .local∨((aj st).names.lookup z.1=some .cell/\((cellsFrom (s.heap.objs.size+1) (aj st).names []).lookup z.1).isSome=true):=fun⟨n,v⟩ hy=>by
  rcases S.par n (List.of_mem_zip hy).1 with q | q
  ·exact .inl q
  ·exact .inr ⟨q,PySem.W.cellsFrom_some _ _ _ (.inl q)⟩
 have hbt:BindsTo s (W.fnOf x qual (cC st) (bK st) (aj st) .none kV doc pm an cdv ct) ⟨[.ref g],[]⟩ ([y].zip [Value.ref g]):=hb s [.ref g] KX rfl
 refine codeAny_call_function hr.depth (KX _ _ lk) rfl S.co S.gen rfl (PySem.W.codeRec_of KX hcd) (hbt _ _ _ _ ?_)
 refine wpAny_newFunctionEnv_cells S.kind hkind fun env he s1 z=>?_
 subst he
 refine⟨lim.keeps z.toInCall.keep,codeAny_func ?_⟩
 obtain⟨t,ht,hq⟩:=hbody cdv A outer s H g spD Q (hr.deeper _) D hrs
 have I:Inv (eG CX0 P w K mg base N qual (aj st) f cdv A outer s H E0) [] (start N [.ref g]) H s1:=gB S hr.hd e0 rfl r z
 refine wpAny_mono (ht.nox [] s1 (start N [.ref g]) H _ I hq) (fun fl s' hs=>?_) fun e s' hs=>hs
 have fin:∀ {σ':St}{H':Hp}{v:V}{u:Value},Inv (eG CX0 P w K mg base N qual (aj st) f cdv A outer s H E0) [] σ' H' s'->RelV v u->Q v H'->CE outer P w H s Q u s' :=
  fun {σ' H' v u} J rv q=>⟨v,H',J.os,J.bare,J.base,J.hok,rv,q⟩
 cases fl with
 | ret u=>
  obtain⟨v,σ',H',J,rv,q⟩:=hs
  exact fin J rv q
 | next=>
  obtain⟨σ',H',J,q⟩:=hs
  exact fin (v:=V.non) (u:=Value.none) J rfl q
 | brk=>
  obtain⟨_,_,_,q⟩:=hs
  exact False.elim q
 | cont=>
  obtain⟨_,_,_,q⟩:=hs
  exact False.elim q
end
def bw (K:PySem.W.Frag) (C R:Addr) (Ds:List (Addr×Bool)):Bool :=
 ((W.findIn K (.ref C) "__getattribute__" == some (some (.builtin "BaseException.__getattribute__"))) && (W.findIn K (.ref C) "__getattr__" == some none) && (PySem.W.mroIn K C (.type "BaseException") == some true) && W.hasDictIn K C && (W.findIn K (.ref C) "__class__" == some (some (.builtin "object.__class__"))) && (PySem.W.specialIn K (.builtin "object.__class__") "__get__" == some (some (.builtin "getset_descriptor.__get__"))) &&
  (PySem.W.takesIn K (.builtin "object.__class__") == some true) && (PySem.W.mroIn K C (.type "object") == some true)) &&
 ((PySem.W.exmOne K (.ref C) (.ref R) == some true) && (Ds.all fun p=>PySem.W.kitOne K (.ref C) (.ref p.1) == some p.2) && (PySem.W.kitOne K (.ref C) (.type "ValueError") == some true)) && PySem.W.excIn K C kR "ValueError.__new__"
section
variable {K:PySem.W.Frag}{C R:Addr}{Ds:List (Addr×Bool)}
theorem bP (h:bw K C R Ds=true):PySem.W.excIn K C kR "ValueError.__new__" = true:=by
 unfold bw at h
 exact(Bool.and_eq_true_iff.mp h).2
theorem iJ (h:bw K C R Ds=true):ExcCls K C:=by
 unfold bw at h
 simp only[Bool.and_eq_true,beq_iff_eq] at h
 obtain⟨⟨⟨⟨⟨⟨⟨⟨⟨a0,b0⟩,c0⟩,a2⟩,a3⟩,a4⟩,a5⟩,a6⟩,_⟩,_⟩:=h
 exact⟨a0,b0,c0,a2,a3,a4,a5,a6⟩
theorem lB (h:bw K C R Ds=true):PySem.W.exmOne K (.ref C) (.ref R)=some true:=by
 unfold bw at h
 simp only[Bool.and_eq_true,beq_iff_eq] at h
 exact h.1.2.1.1
theorem nL (h:bw K C R Ds=true):PySem.W.kitOne K (.ref C) (.type "ValueError")=some true:=by
 unfold bw at h
 simp only[Bool.and_eq_true,beq_iff_eq] at h
 exact h.1.2.2
theorem lA (h:bw K C R Ds=true) (i:Nat) {D:Addr}{b:Bool} (e:Ds[i]?=some (D,b)):PySem.W.kitOne K (.ref C) (.ref D)=some b:=by
 unfold bw at h
 simp only[Bool.and_eq_true,beq_iff_eq] at h
 have:=List.all_eq_true.mp h.1.2.1.2 (D,b) (wI e)
 simpa using this
end
def Small (i:Int):Prop:=i.natAbs.log2<1920
theorem dh {i:Int} (h:i.natAbs<2 ^ 1000):Small i:=by
 unfold Small
 by_cases h0:i.natAbs=0
 ·rw[h0]; decide
 ·have:=(Nat.log2_lt h0).mpr (show i.natAbs<2 ^ 1000 from h)
  omega
theorem dM {i:Int} (h:Small i):(PySem.Str.ofString (toString i)).length<=1921:=int_text_len_1921 h
theorem iO (a b:Str):(a++b).length=a.length+b.length:=PySem.Str.length_append a b
theorem fF {a b:Str}{n m:Nat} (h1:a.length<=n) (h2:b.length<=m):(a++b).length<=n+m:=by rw[iO]; omega
theorem eS:(Str.empty).length<=0:=by decide
section
variable {E:XK}{C:Addr}{D:Ends}{σ:St}{H:Hp}{x y:Str}{i j:Nat}{m n:Int}
theorem rz1 (hv:σ[i]?=some (some (.int n))) (hn:Small n) (q:∀ e,E (.ref C) (some e) H) (hx:x.length<=1000:=by decide +kernel) :
  gi E C (fun σ H Q=>tJ1 (tC (.str x)) (tJ1 (m8 (dg i)) tJ0) Str.empty σ H Q) D σ H:=by
 have l1:=fF eS hx
 have l2:=fF l1 (dM hn)
 exact⟨x,U,aY (by omega),.int n,hv,.inr ⟨n,U,hn,_,U,aY (by omega),aY (by omega),q⟩⟩
end
def tCut (t:TS):TS:=fun D σ H=>∃ Pn:St->Hp->Prop,t { D with nx:=Pn } σ H/\∀ σ' H',Pn σ' H'->D.nx σ' H'
theorem bo {X:Cx}{st:Stmt}{t:TS} (h:PS X st t):PS X st (tCut t):=by
 intro pins s σ H D I ⟨Pn,ht,hn⟩
 refine thn (h pins s σ H { D with nx:=Pn } I ht) fun f s1 q=>?_
 cases f with
 | next=>obtain⟨σ',H',I',q⟩:=q; exact⟨σ',H',I',hn _ _ q⟩
 | ret v=>exact q
 | brk=>exact q
 | cont=>exact q
section
variable {E:XK}{C:Addr}{D:Ends}{σ:St}{H:Hp}{x x1 y:Str}{i j:Nat}{m n:Int}
theorem rzR (hv:σ[i]?=some (some (.str y))) (hy:(reprText y).length<=1000) (q:∀ e,E (.ref C) (some e) H) (hx:x.length<=1000:=by decide +kernel) :
  gi E C (fun σ H Q=>tJ1 (tC (.str x)) (tJ1 (rQ (dg i)) tJ0) Str.empty σ H Q) D σ H:=by
 have l1:=fF eS hx
 have l2:=fF l1 hy
 exact⟨x,U,aY (by omega),.str y,hv,y,U,aY (by omega),_,U,aY (by omega),aY (by omega),q⟩
theorem rz2 (hv:σ[i]?=some (some (.str y))) (hy:y.length<=1000) (hw:σ[j]?=some (some (.int n))) (hn:Small n) (q:∀ e,E (.ref C) (some e) H) (hx:x.length<=1000:=by decide +kernel) (hx1:x1.length<=1000:=by decide +kernel) :
  gi E C (fun σ H Q=>tJ1 (tC (.str x)) (tJ1 (m8 (dg i)) (tJ1 (tC (.str x1)) (tJ1 (m8 (dg j)) tJ0))) Str.empty σ H Q) D σ H:=by
 have l1:=fF eS hx
 have l2:=fF l1 hy
 have l3:=fF l2 hx1
 have l4:=fF l3 (dM hn)
 exact⟨x,U,aY (by omega),.str y,hv,.inl ⟨y,U,aY (by omega),_,U,aY (by omega),_,U,aY (by omega),.int n,hw,.inr ⟨n,U,hn,_,U,aY (by omega),aY (by omega),q⟩⟩⟩
end
theorem lw {P:Program}{w:World}{K:PySem.W.Frag}{mg mb:Str->Option Value}{k:Nat}{fa a:Addr}{Ts:List Addr}{x:Str}{sp:Sp}{s₁:Shared}{vs:List Value}{ns:List Int}
  (KX:K.In s₁.heap) (hns:s₁.heap.Ns mainGlobals mg) (hb:s₁.heap.Ns builtinsNs mb) (hbb:∀ x:Str,x ≠ "__name__" -> mb x=bootBuiltins x) (hlim:s₁.heap.NoLimit) (hg:s₁.gens = #[])
  (ha:s₁.heap.get? a=some { cls:=.type "list",data:=.seq vs.toArray }) (hi:IntsAre vs ns) (hl:ns.length<=sizeLine) (hr:Room k callerA)
  (hPt:∀ p ∈ Ts,s₁.heap.get? p=some (PySem.W.tabObj #[])/\K.lookup p=none/\∃ c,PySem.W.CodeHd s₁.heap c p) (hbm:BM s₁.heap mg)
  (F:∀ base:Heap,K.In base->base.Ns mainGlobals mg->BM base mg->FnOk P w K mg base CX0 k fa fd [x] sp) (hbind:∀ (s:Shared) (u:Value),BindsTo s fd ⟨[u],[]⟩ [(x,u)])
  (hsp:∀ H:Hp,(∀ p ∈ Ts,H p=some (.tbl #[]))->SqL K H a (ns.map V.int)->sp [.ref a] H (fun v _=>v=.bl true) fun _ _ _=>False) :
  codeAny (model P w) callerA (.call (.ref fa) ⟨[.ref a],[]⟩) (fun r s'=>r=.ok (.ret (.bool true))/\OldK s₁.heap s'.heap/\s'.os=s₁.os/\AllBare s'.gens) s₁:=by
 have rv:=i6 hi
 have lenV:=hi.length
 have haP:a ∉ Ts:=fun z=>by
  have:=(hPt a z).1
  rw[ha] at this; cases this
 have core:∀ H:Hp,(∀ p ∈ Ts,H p=some (.tbl #[]))->(∀ b,b ∉ Ts->H b=none∨∃ o xs,H b=some (.frz o (.lst xs)))->SqL K H a (ns.map V.int)->HOk P w H s₁.heap->(∀ b,H b≠none->b=a∨b ∈ Ts)->(H a≠none->K.lookup a=none) ->
   codeAny (model P w) callerA (.call (.ref fa) ⟨[.ref a],[]⟩) (fun r s'=>r=.ok (.ret (.bool true))/\OldK s₁.heap s'.heap/\s'.os=s₁.os/\AllBare s'.gens) s₁:=by
  intro H hT hO hS hok hA hK
  have base_of:∀ {b:Addr}{o:Obj},s₁.heap.get? b=some o->H b=none->(iY s₁.heap H).get? b=some o:=fun e n=>pW e n
  have noA:∀ {b:Addr}{o:Obj},s₁.heap.get? b=some o->(∀ vs n,o.data≠.seq vs n)->(∀ vs,o.data≠.fields vs)->H b=none:=fun {b o} e d1 d2=>by
   cases q:H b with
   | none=>rfl
   | some u=>
    rcases hA b (by rw[q]; simp) with e' | e'
    ·subst e'; rw[ha] at e; cases e; exact absurd rfl (d1 _ _)
    ·rw[(hPt b e').1] at e; cases e; exact absurd rfl (d2 _)
  have nsK:∀ {b:Addr}{m:Str->Option Value},s₁.heap.Ns b m->(iY s₁.heap H).Ns b m:=fun {b m} ⟨o,es,ep,e,d,r⟩=>⟨o,es,ep,base_of e (noA e (fun _ _ z=>by rw[d] at z; cases z) fun _ z=>by rw[d] at z; cases z),d,r⟩
  have hKb:K.In (iY s₁.heap H):=fun b o e=>base_of (KX b o e) (by
   cases q:H b with
   | none=>rfl
   | some u=>
    rcases hA b (by rw[q]; simp) with e' | e'
    ·subst e'; rw[hK (by rw[q]; simp)] at e; cases e
    ·rw[(hPt b e').2.1] at e; cases e)
  have hM:Mod K mg (iY s₁.heap H):=⟨hKb,nsK hns,⟨mb,nsK hb,hbb⟩,let ⟨mc,h1,h2⟩:=hlim; ⟨mc,nsK h1,h2⟩⟩
  have hB:BM (iY s₁.heap H) mg:=by
   obtain⟨bm,ob,b1,b2,b3,b4,b5,b6⟩:=hbm
   exact⟨bm,ob,b1,b2,base_of b3 (noA b3 (fun _ _ z=>by rw[b6] at z; cases z) fun _ z=>by rw[b6] at z; cases z),b4,b5,b6⟩
  have e0:Env0 P w K mg (iY s₁.heap H) callerA [] s₁ H:=⟨U,hM,fun b o e=>qY e,Nat.le_of_eq (nG _ _),trivial,fun b hb=>absurd (show b ∈ ([]:List Addr) from hb) (by simp),hok,.of_eq hg⟩
  refine codeAny_mono ((F _ hKb (nsK hns) hB).run callerA [] s₁ H ⟨[.ref a],[]⟩ [.ref a] [.ref a] _ _ hr e0 (hbind s₁ (.ref a)) (.cons rfl .nil) (hsp H hT hS)) fun r s' h=>?_
  cases r with
  | error e=>exact False.elim h
  | ok fl=>
   cases fl with
   | next=>exact False.elim h
   | brk=>exact False.elim h
   | cont=>exact False.elim h
   | ret u=>
    obtain⟨v,H',os,bare,un,hok',r',q⟩:=h
    have q':v=.bl true:=q
    subst q'
    obtain rfl:u=Value.bool true:=r'
    refine⟨U,⟨fun b o e=>?_,fun b o e=>un.there b o e (by simp)⟩,os,bare⟩
    by_cases hbP:b ∈ Ts
    ·obtain⟨e1,_,c,hC⟩:=hPt b hbP
     rw[e1] at e; cases e
     obtain⟨more,e2⟩:=un.tbls b _ (hT b hbP)
     have e3:s'.heap.get? b=some { cls:=.none,data:=.fields (#[]++more) }:=hok' b _ e2
     exact .inr (.inl ⟨(hC.tab e1).isCodeTable,U,#[],more,U,e3⟩)
    ·refine .inl ?_
     cases q:H b with
     | none=>exact un.keep b o e q (by intro z; exact absurd (show b ∈ ([]:List Addr) from z) (by simp)) (by simp)
     | some u=>
      rcases hO b hbP with z | ⟨ob,xs,z⟩
      ·rw[q] at z; cases z
      ·have z2:=un.frzs b ob _ z
       obtain⟨e1,_⟩:=hok b _ z
       obtain⟨e2,_⟩:=hok' b _ z2
       rw[e] at e1; cases e1
       exact e2
 cases hk:K.lookup a with
 | some o=>
  have e:=KX a o hk
  rw[ha] at e
  cases e
  refine core (fun b=>if b ∈ Ts then some (.tbl #[]) else none) (fun p hp=>if_pos hp) (fun b hb=>.inl (if_neg hb)) (.inr ⟨_,vs.toArray,_,hk,U,U,U,by rw[wO,lenV]; exact hl,by simpa using rv⟩) (fun b u z=>?_) (fun b z=>?_) fun z=>absurd (if_neg haP) z
  ·by_cases hb:b ∈ Ts
   ·have z':=(if_pos hb).symm.trans z
    cases z'
    exact(hPt b hb).1
   ·have z':=(if_neg hb).symm.trans z
    cases z'
  ·by_cases hb:b ∈ Ts
   ·exact .inr hb
   ·exact absurd (if_neg hb) z
 | none=>
  refine core (fun b=>if b ∈ Ts then some (.tbl #[]) else if b=a then some (.frz { cls:=.type "list",data:=.seq vs.toArray } (.lst (ns.map V.int))) else none) (fun p hp=>if_pos hp) (fun b hb=>?_) (.inl (.inr ⟨{ cls:=.type "list",data:=.seq vs.toArray },(if_neg haP).trans (if_pos rfl)⟩)) (fun b u z=>?_) (fun b z=>?_) fun _=>hk
  ·by_cases hb2:b=a
   ·exact .inr ⟨_,_,(if_neg hb).trans (if_pos hb2)⟩
   ·exact .inl ((if_neg hb).trans (if_neg hb2))
  ·by_cases hb:b ∈ Ts
   ·have z':=(if_pos hb).symm.trans z
    cases z'
    exact(hPt b hb).1
   ·have z1:=(if_neg hb).symm.trans z
    by_cases hb2:b=a
    ·have z':=(if_pos hb2).symm.trans z1
     cases z'
     subst hb2
     exact⟨ha,by rw[wF]; exact hl,vs,_,rv,ha⟩
    ·have z':=(if_neg hb2).symm.trans z1
     cases z'
  ·by_cases hb:b ∈ Ts
   ·exact .inr hb
   ·by_cases hb2:b=a
    ·exact .inl hb2
    ·exact absurd ((if_neg hb).trans (if_neg hb2)) z
theorem walk_ofTs {l:PySem.W.OpenLaw}{n k:Nat}{q:Program}{loose:List Str}{XP:(Str->Option Value)->Heap->Prop}{YP:World->Heap->Prop}{d:DefRec}{K:Params->PySem.W.Frag}{sp:PySem.W.Frag->List Addr->Sp}{x:Str}{Ts0:List Addr}
  (hn:l.most=some n) (hn2:n<=sizeLine) (hdf:d.params.defaults=[]) (hr:Room k callerA)
  (hY:∀ (w:World) (h:Heap),YP w h->(K w.params).In h/\∀ p ∈ Ts0,h.get? p=some (PySem.W.tabObj #[]))
  (F:∀ (w:World) (mg:Str->Option Value) (fa:Addr) (h:Heap),(K w.params).In h->h.Ns mainGlobals mg->mg d.name=some (.ref fa) ->
   ∃ (fd:FuncData) (Ts:List Addr),(∀ p ∈ Ts,p ∈ Ts0/\(K w.params).lookup p=none/\∃ c,W.codeHdIn (K w.params) c p=true)/\(∀ (s:Shared) (u:Value),BindsTo s fd ⟨[u],[]⟩ [(x,u)]) /\
    (∀ base:Heap,(K w.params).In base->base.Ns mainGlobals mg->BM base mg->FnOk l.prog w (K w.params) mg base CX0 k fa fd [x] (sp (K w.params) Ts)) /\
    ∀ (H:Hp) (a:Addr) (ns:List Int),ns.length<=n->(∀ p ∈ Ts,H p=some (.tbl #[]))->SqL (K w.params) H a (ns.map V.int)->sp (K w.params) Ts [.ref a] H (fun v _=>v=.bl true) fun _ _ _=>False) :
  PySem.W.WalkO q loose XP YP l.row.toRowW d [] (fun f vs=>PySem.call f vs):=by
 refine Att.attach_call hn hdf fun w s₀ s₁ mg mb fa o pm cd doc a vs ns G Y ho hd hcd hmg hobj hints hlen hg=>?_
 obtain⟨KX,hPt⟩:=hY w _ Y
 obtain⟨fd,Ts,hTs,hb,hF,hsp⟩:=F w mg fa _ KX G.T.g hmg
 obtain⟨bm,ob,b1,b2,b3,b4,b5,b6⟩:=G.T.bmain
 refine lw (Ts:=Ts) KX G.T.g G.T.b G.T.builtins G.T.nolimit hg hobj hints (Nat.le_trans hlen hn2) hr (fun p hp=>?_) ⟨bm,ob,b1,b2,b3,b4,b5,b6⟩ hF hb fun H hT hS=>hsp H a ns hlen hT hS
 obtain⟨h1,h2,c,hc⟩:=hTs p hp
 exact⟨hPt p h1,h2,c,PySem.W.codeHd_of_K KX hc⟩
theorem iT {pos p2:Pos}{c:Value}:∀ (l:List Value),TriplesOk l->codeAmong pos (l++[rawInt p2.line,rawInt p2.col,c])=(match codeAmong pos l with | some x=>some x | none=>if ((p2.line:Int) == (pos.line:Int) && (p2.col:Int) == (pos.col:Int))=true then some c else none)
 | [],_=>by
  show codeAmong pos [rawInt p2.line,rawInt p2.col,c]=_
  unfold codeAmong rawInt
  rfl
 | .int a t::.int b u::x::r,h=>by
  have ih:=iT (pos:=pos) (p2:=p2) (c:=c) r h
  show codeAmong pos (.int a t::.int b u::x::(r++[rawInt p2.line,rawInt p2.col,c]))=_
  unfold codeAmong
  by_cases hc:(a == (pos.line:Int) && b == (pos.col:Int))=true
  ·rw[if_pos hc,if_pos hc]
  ·rw[if_neg hc,if_neg hc]
   exact ih
theorem fJ {p2:Pos}{c:Value}:∀ (l:List Value),TriplesOk l->TriplesOk (l++[rawInt p2.line,rawInt p2.col,c])
 | [],_=>trivial
 | .int a t::.int b u::x::r,h=>fJ (p2:=p2) (c:=c) r h
structure Tb (L:Kn) (Pt:Addr) (qual:Str):Prop where
 ex:∃ ps:Array Value,(Pt,HO.tbl ps) ∈ L/\TriplesOk ps.toList/\∀ pos,codeAmong pos ps.toList=none∨∃ (c':Addr) (oc:Obj) (vs:Array Value) (t:Tok),codeAmong pos ps.toList=some (.ref c')/\(c',HO.frz oc (.own 0)) ∈ L/\oc.data=.fields vs/\vs[1]?=some (.str qual t)
theorem Tb.mono {L L':Kn}{Pt:Addr} (T:Tb L Pt qual) (h:∀ z ∈ L,z ∈ L'):Tb L' Pt qual:=by
 obtain⟨ps,m,tr,hp⟩:=T.ex
 exact⟨ps,h _ m,tr,fun pos=>(hp pos).imp id fun⟨c',oc,vs,t,a,b,c,d⟩=>⟨c',oc,vs,t,a,h _ b,c,d⟩⟩
theorem Tb.new {L:Kn}{Pt:Addr} (h:(Pt,HO.tbl #[]) ∈ L):Tb L Pt qual:=⟨#[],h,trivial,fun _=>.inl rfl⟩
theorem tS {Z L:Kn}{H:Hp}{Pt:Addr}{lpos:Pos}{js:List Nat}{tb:XK->TE}{σ:St}{Q:VK} (h:Has H (Z++L)) (T:Tb L Pt qual)
  (k:∀ H' L',Has H' (Z++L')->Tb L' Pt qual->(∀ z ∈ L,z.1≠Pt->z ∈ L')->rs (fun H1 Q1 E1=>tb E1 (js.map fun j=>(σ[j]?).join) H1 Q1) H' Q):tz Pt qual lpos js rs tb σ H Q:=by
 obtain⟨ps,m,tr,hps⟩:=T.ex
 refine⟨ps,h.at_ _ (wD _ m),tr,?_⟩
 rcases hps lpos with hn | ⟨c',oc,vs,t,h1,h2,h3,h4⟩
 ·refine .inl ⟨hn,fun c' oc vs t hc' ho hv=>?_⟩
  obtain⟨X,Y,rfl⟩:=List.append_of_mem m
  have hPne:c'≠Pt:=fun z=>by
   rw[z,h.at_ (Pt,_) (wD _ m)] at hc'
   cases hc'
  have h5:Has H ((Pt,HO.tbl ps)::(Z++(X++Y))):=by
   have:Has H ((Z++X)++(Pt,HO.tbl ps)::Y):=by rw[wG]; exact h
   have:=this.out
   rw[wG] at this
   exact this
  have h6:=(h5.put (.tbl (ps++#[rawInt lpos.line,rawInt lpos.col,.ref c']))).alloc (by rw[aA hPne]; exact hc') (.frz oc (.own 0))
  have h7:=Has.comm (X:=[(c',HO.frz oc (.own 0)),(Pt,HO.tbl (ps++#[rawInt lpos.line,rawInt lpos.col,.ref c']))]) (Y:=Z) h6
  have etl:(ps++#[rawInt lpos.line,rawInt lpos.col,Value.ref c']).toList=ps.toList++[rawInt lpos.line,rawInt lpos.col,.ref c']:=by simp
  have keep:∀ z ∈ X++(Pt,HO.tbl ps)::Y,z.1≠Pt->z ∈ (c',HO.frz oc (.own 0))::(Pt,HO.tbl (ps++#[rawInt lpos.line,rawInt lpos.col,.ref c']))::(X++Y):=fun z hz ne=>by
   rcases xb.mp hz with hz | hz
   ·simp[hz]
   ·rcases wP.mp hz with rfl | hz
    ·exact absurd rfl ne
    ·simp[hz]
  refine k _ _ h7 ⟨_,wE _ wJ,by rw[etl]; exact fJ _ tr,fun pos=>?_⟩ keep
  rw[etl,iT _ tr]
  rcases hps pos with hn2 | ⟨c2,oc2,vs2,t2,g1,g2,g3,g4⟩
  ·rw[hn2]
   dsimp only
   by_cases hc:((lpos.line:Int) == (pos.line:Int) && (lpos.col:Int) == (pos.col:Int))=true
   ·rw[if_pos hc]
    exact .inr ⟨c',oc,vs,t,U,wJ,ho,hv⟩
   ·rw[if_neg hc]
    exact .inl rfl
  ·rw[g1]
   refine .inr ⟨c2,oc2,vs2,t2,U,keep _ g2 fun e=>?_,g3,g4⟩
   have q1:=h.at_ _ (wD _ g2)
   have q2:=h.at_ _ (wD _ m)
   dsimp only at q1 q2
   rw[show c2=Pt from e,q2] at q1
   cases q1
 ·exact .inr ⟨c',oc,vs,t,h1,h.at_ _ (wD _ h2),h3,h4,k H L h T fun z hz _=>hz⟩
def rP (te:TE):TE:=fun σ H Q=>te σ H fun v H1=>∃ (a:Addr) (m n:Int),v=.ref a/\H1 a=some (.tup [.int m,.int n])/\Small m/\Small n/\∀ y:Str,y.length<=5000->Q (.str y) H1
theorem kW (m n:Int) (hm:Small m) (hn:Small n):(PyData.tuple [.int m,.int n]).shown.length<=5000:=by
 have e:(PyData.tuple [.int m,.int n]).shown=("(" : Str)++((Str.ofString (toString m))++(", " : Str)++(Str.ofString (toString n)))++(")" : Str):=by
  simp only[PyData.shown,PyData.shownAll,tupleText]
  rfl
 rw[e,iO,iO,iO,iO]
 have a1:=dM hm
 have a2:=dM hn
 have b1:("(" : Str).length=1:=rfl
 have b2:(", " : Str).length=2:=rfl
 have b3:(")" : Str).length=1:=rfl
 omega
section
variable {X:Cx}{e:Expr}{te:TE}{pos:Pos}
theorem jG (hg:X.A.guards=some []) (hu:X.A.units+64<cLine) (h:PE X e te):PE X (.FormattedValue e (-1) none pos) (rP te):=fun pins s σ H Q I hh=>by
 refine wpAny_FormattedValue_plain (thn (h pins s σ H _ I hh) fun u s1 ⟨v,H1,I1,r,a,m,n,ev,ha,hm,hn,q⟩=>?_)
 subst ev
 cases (show u=Value.ref a from r)
 have rd:=gj (ns:=[m,n]) I1 ha
 have hl:=kW m n hm hn
 refine formatField_of_reads (d:=.tuple [.int m,.int n]) rd ?_ (fun z=>by simp[PyData.hasDict,PyData.hasDictAll] at z) hg ?_ (fun _ _ e=>e) (fun h' u tk hk=>?_) (Nat.le_trans hl (aY (by decide)))
 ·simp only[PyData.showable,PyData.showableAll,Bool.and_true]
  exact Bool.and_eq_true_iff.mpr ⟨decide_eq_true hm,decide_eq_true hn⟩
 ·simp only[PyData.depth,PyData.depthAll]
  omega
 ·exact⟨.str _,H1,I1.kept (t':=tk) hk,⟨u,U⟩,q _ hl⟩
end
section
variable {E:XK}{C:Addr}{D:Ends}{σ:St}{H:Hp}{x x1 x2:Str}{i j:Nat}{m n:Int}{a:Addr}
theorem rzT (hv:σ[i]?=some (some (.ref a))) (ha:H a=some (.tup [.int m,.int n])) (hm:Small m) (hn:Small n) (q:∀ e,E (.ref C) (some e) H) (hx:x.length<=1000:=by decide +kernel) :
  gi E C (fun σ H Q=>tJ1 (rP (dg i)) (tJ1 (tC (.str x)) tJ0) Str.empty σ H Q) D σ H:=by
 refine⟨.ref a,hv,a,m,n,U,ha,hm,hn,fun y hy=>?_⟩
 have l1:=fF eS hy
 have l2:=fF l1 hx
 exact⟨y,U,aY (by omega),x,U,aY (by omega),aY (by omega),q⟩
theorem rz11c (hv:σ[i]?=some (some (.int m))) (hm:Small m) (hw:σ[j]?=some (some (.int n))) (hn:Small n) (q:∀ e,E (.ref C) (some e) H) (hx:x.length<=1000:=by decide +kernel) (hx1:x1.length<=1000:=by decide +kernel) (hx2:x2.length<=1000:=by decide +kernel) :
  gi E C (fun σ H Q=>tJ1 (tC (.str x)) (tJ1 (m8 (dg i)) (tJ1 (tC (.str x1)) (tJ1 (m8 (dg j)) (tJ1 (tC (.str x2)) tJ0)))) Str.empty σ H Q) D σ H:=by
 have l1:=fF eS hx
 have l2:=fF l1 (dM hm)
 have l3:=fF l2 hx1
 have l4:=fF l3 (dM hn)
 have l5:=fF l4 hx2
 exact⟨x,U,aY (by omega),.int m,hv,.inr ⟨m,U,hm,_,U,aY (by omega),_,U,aY (by omega),.int n,hw,.inr ⟨n,U,hn,_,U,aY (by omega),_,U,aY (by omega),aY (by omega),q⟩⟩⟩
end
end L2
set_option Elab.async false
set_option linter.all false
set_option maxRecDepth 100000
namespace L2
open PySem PySem.Spec PyProof.Rows
variable{kvs:List (Key×V)}
section
variable {X:Cx}{pins:List (Addr×Obj)}{σ:St}{H:Hp}{s:Shared}
theorem Inv.thaw {p:Addr}{ob:Obj}{u:HO} (I:Inv X pins σ H s) (e:H p=some (.frz ob u)) (hn:∀ o v,X.H₀ p≠some (.frz o v)) (hu:∀ xs,u≠.tup xs):Inv X pins σ (upd H p u) s:=by
 obtain⟨_,ok⟩:=(show s.heap.get? p=some ob/\ObjOk X.prog X.w H s.heap p u from I.hok p _ e)
 have np:∀ b,H b=none->b≠p:=fun b q z=>by rw[z,e] at q; cases q
 refine⟨I.ok,I.os,I.bare,⟨I.base.keep,I.base.slot,fun b ob e2 n hx=>?_,I.base.there,fun b xs e2=>?_,fun b ob2 u2 e2=>?_,fun b ps e2=>?_⟩,I.loc,I.cell,by rw[aA (fun z=>np _ I.free z)]; exact I.free,fun x c q=>by rw[aA (np c (I.freeC x c q))]; exact I.freeC x c q,fun q hq=>?_,fun b u2 e2=>?_,I.len⟩
 ·have:=I.base.free b ob e2 n hx
  rw[aA (np b this)]; exact this
 ·have:=I.base.tups b xs e2
  rw[aA (fun z=>by rw[z,e] at this; cases this)]; exact this
 ·have:=I.base.frzs b ob2 u2 e2
  rw[aA (fun z=>by rw[z] at e2; exact hn _ _ e2)]; exact this
 ·obtain⟨more,e3⟩:=I.base.tbls b ps e2
  exact⟨more,by rw[aA (fun z=>by rw[z,e] at e3; cases e3)]; exact e3⟩
 ·obtain⟨a1,a2,a3,a4,a5⟩:=I.pin q hq
  exact⟨a1,by rw[aA (np _ a2)]; exact a2,a3,a4,a5⟩
 ·have own:∀ c y,H c=some (.own y)->upd H p u c=some (.own y):=fun c y q=>by rw[aA (fun z=>by rw[z,e] at q; cases q)]; exact q
  have tup:∀ c xs,H c=some (.tup xs)->upd H p u c=some (.tup xs):=fun c xs q=>by rw[aA (fun z=>by rw[z,e] at q; cases q)]; exact q
  by_cases hb:b=p
  ·subst hb; rw[bz] at e2; cases e2
   exact ok.stay (fun _ _ _ q=>q) (fun c q=>own c _ q) fun c xs q=>tup c xs q
  ·rw[aA hb] at e2
   exact(I.hok b u2 e2).stay (fun _ _ _ q=>q) (fun c q=>own c _ q) fun c xs q=>tup c xs q
theorem Inv.unfrz {p:Addr}{u:HO} (I:Inv X pins σ H s) (e:H p=some u) (hu:∀ o v,u≠.frz o v):∀ o v,X.H₀ p≠some (.frz o v):=fun o v q=>by
 have:=I.base.frzs p o v q
 rw[e] at this
 cases this
 exact hu o v rfl
theorem Inv.freeze {d:Addr} (I:Inv X pins σ H s) (e:H d=some (.dK kvs)):∃ o,s.heap.get? d=some o/\Inv X pins σ (upd H d (.frz o (.dK kvs))) s:=by
 obtain⟨z,hd,vs,rel,dd⟩:=(show ObjOk X.prog X.w H s.heap d (.dK kvs) from I.hok d _ e)
 obtain⟨o,es,ep,ho,r⟩:=id dd
 exact⟨o,ho,I.write (x:=d) (e:=d) (t':=s.toks) (h':=s.heap) (by rw[e]; exact True.intro) (.inl rfl) (fun _ _ _ q=>q) ⟨o,ho⟩ ⟨ho,z,hd,vs,rel,dd⟩⟩
end
def tThaw (t:TS):TS:=fun D σ H=>∃ (d:Addr) (kvs:List (Key×V)),H d=some (.dK kvs) /\
 t { nx:=fun σ' H'=>∃ o,H' d=some (.frz o (.dK kvs))/\D.nx σ' (upd H' d (.dK kvs)),rt:=fun v H'=>∃ o,H' d=some (.frz o (.dK kvs))/\D.rt v (upd H' d (.dK kvs)),bk:=fun σ' H'=>∃ o,H' d=some (.frz o (.dK kvs))/\D.bk σ' (upd H' d (.dK kvs)),ct:=fun σ' H'=>∃ o,H' d=some (.frz o (.dK kvs))/\D.ct σ' (upd H' d (.dK kvs)) } σ H
theorem qL {X:Cx}{st:Stmt}{t:TS} (h:PS X st t):PS X st (tThaw t):=by
 intro pins s σ H D I q
 obtain⟨d,kvs,e,q⟩:=q
 have hn:=I.unfrz e (fun _ _ z=>nomatch z)
 refine thn (h pins s σ H _ I q) fun f s1 h1=>?_
 have hu:∀ xs,HO.dK kvs≠.tup xs:=fun _ z=>nomatch z
 cases f with
 | next=>obtain⟨σ1,H1,I1,o,e1,q1⟩:=h1; exact⟨σ1,_,I1.thaw e1 hn hu,q1⟩
 | brk=>obtain⟨σ1,H1,I1,o,e1,q1⟩:=h1; exact⟨σ1,_,I1.thaw e1 hn hu,q1⟩
 | cont=>obtain⟨σ1,H1,I1,o,e1,q1⟩:=h1; exact⟨σ1,_,I1.thaw e1 hn hu,q1⟩
 | ret u=>obtain⟨v,σ1,H1,I1,r1,o,e1,q1⟩:=h1; exact⟨v,σ1,_,I1.thaw e1 hn hu,r1,q1⟩
def Itd (d:Addr) (o:Obj) (kvs:List (Key×V)):It :=
 ⟨fun i H=>H d=some (.frz o (.dK kvs))/\i<kvs.length,fun i H x H'=>H'=H/\∃ kv,kvs[i]?=some kv/\x=kV kv.1,fun i H=>H d=some (.frz o (.dK kvs))/\kvs.length<=i⟩
theorem uF {κ:Type}{kvs:List (κ×V)}{vs:List (κ×Value)} (r:KV kvs vs) {i:Nat}{kv:κ×V} (h:kvs[i]?=some kv):∃ u,vs[i]?=some (kv.1,u)/\RelV kv.2 u:=by
 unfold KV at r
 induction r generalizing i with
 | nil=>cases h
 | @cons p q ps qs h1 h2 ih=>
  match i with
  | 0=>cases h; obtain⟨q1,q2⟩:=q; exact⟨q2,by rw[h1.1]; rfl,h1.2⟩
  | i+1=>exact ih h
theorem uN {P:Program}{w:World}{k:Key}{u:Value} (h:(aD P w).is k u=true):RelV (kV k) u:=by
 rcases aX h with ⟨i,t,rfl,rfl⟩ | ⟨x,t,rfl,rfl⟩
 ·exact⟨t,U⟩
 ·exact⟨t,U⟩
theorem sT {P:Program}{w:World}{H:Hp}{h:Heap}{d:Addr}{o:Obj} (ok:HOk P w H h) (e:H d=some (.frz o (.dK kvs))):h.get? d=some o/\∃ vs ep,KV kvs vs/\h.DictAt (aD P w) d vs ep:=by
 obtain⟨e1,z,hd,vs,rel,dd⟩:=(show h.get? d=some o/\ObjOk P w H h d (.dK kvs) from ok d _ e)
 obtain⟨ep,da⟩:=dd.dictAt
 exact⟨e1,vs,ep,rel,da⟩
theorem m7 {P:Program}{w:World}{K:PySem.W.Frag}{tg:Expr} (d it:Addr) (o:Obj) (kvs:List (Key×V)) (ep:Nat) (hep:∃ es,o.data=.dict es ep):Turn P w K tg (Itd d o kvs) [it] it (fun i h=>h.IsKeyIter it d i kvs.length ep) where
 mem:=by simp
 obj:=fun i h st b hb=>by
  have e:b=it:=by simpa using hb
  subst e
  obtain⟨o,e,c,d⟩:=st
  exact⟨o,e,fun v z=>by rw[d] at z; cases z⟩
 keep:=fun i h h' st k=>by
  obtain⟨o,e,r⟩:=st
  exact⟨o,k it (by simp) o e,r⟩
 item:=by
  intro X hP hw hK hc i pins s σ H E I hf st hg
  subst hP hw hK
  obtain⟨e,hi⟩:=hg
  obtain⟨e1,vs,ep',rel,da⟩:=sT I.hok e
  have:ep'=ep:=by
   obtain⟨es,z⟩:=hep
   obtain⟨o1,es1,h1,_,d1,_⟩:=da
   rw[e1] at h1; cases h1
   rw[z] at d1
   injection d1 with _ q
   exact q.symm
  subst this
  obtain⟨u,hu,ru⟩:=uF rel (wH hi)
  obtain⟨f0,f1,f2,f3,f4,f5⟩:=hf it (by simp)
  have st1:s.heap.IsKeyIter it d i vs.length ep':=by rw[<- rel.length]; exact st
  refine wpAny_pyNext_dict_item st1 da hu fun key h' hk st' sb=>?_
  have I1:Inv X pins σ H { s with heap:=h' }:=I.turned (t':=s.toks) (fun b o hb e=>(sb.2 b hb).trans e) f0 f1 f3 f4 f5
  rw[<- rel.length] at st'
  obtain⟨o2,e2,c2,d2⟩:=id st'
  exact⟨key,U,mE (s:={ s with heap:=h' }) e2 c2 d2 (by decide) ⟨kV kvs[i].1,H,I1,uN hk,⟨U,_,wH hi,U⟩,st',fun b hb=>(hf b hb).1⟩⟩
 done:=by
  intro X hP hw hK hc i pins s σ H E I hf st hg
  subst hP hw hK
  obtain⟨e,hi⟩:=hg
  obtain⟨e1,vs,ep',rel,da⟩:=sT I.hok e
  have:ep'=ep:=by
   obtain⟨es,z⟩:=hep
   obtain⟨o1,es1,h1,_,d1,_⟩:=da
   rw[e1] at h1; cases h1
   rw[z] at d1
   injection d1 with _ q
   exact q.symm
  subst this
  have hl:=rel.length
  obtain⟨f0,f1,f2,f3,f4,f5⟩:=hf it (by simp)
  have st1:s.heap.IsKeyIter it d i vs.length ep':=by rw[<- rel.length]; exact st
  exact wpAny_pyNext_dict_end (I.ok.hd hc) st1 da (List.getElem?_eq_none (by omega)) fun h' eb=>⟨U,I.turned (t':=s.toks) (fun b o hb e=>eb b o hb e) f0 f1 f3 f4 f5⟩
 self:=fun _ _ _ _ _ st h=>wpAny_pyIter_keyiter st h
def iDict (td:TE):TI:=fun σ H R=>td σ H fun x H1=>∃ d kvs,x=.ref d/\H1 d=some (.dK kvs)/\∀ o,R (Itd d o kvs) (upd H1 d (.frz o (.dK kvs)))
theorem qO {X:Cx}{tg l:Expr}{tl:TE} (hl:PE X l tl):PI X tg l (iDict tl):=by
 intro pins s σ H R I h
 refine thn (hl pins s σ H _ I h) fun v s1 ⟨x,H1,I1,r1,q1⟩=>?_
 obtain⟨d,kvs,e,ed,q⟩:=q1
 subst e
 cases r1
 obtain⟨o,eo,I2⟩:=I1.freeze ed
 obtain⟨z,hd,vs,rel,dd⟩:=jp I1.hok ed
 obtain⟨ep,da⟩:=dd.dictAt
 have hep:∃ es,o.data=.dict es ep:=by
  obtain⟨o1,es1,h1,_,d1,_⟩:=da
  rw[eo] at h1; cases h1
  exact⟨es1,d1⟩
 refine wpAny_pyIter_dict hd da ?_
 have hne:s1.heap.objs.size≠d:=fun z=>by rw[<- z] at eo; exact Nat.lt_irrefl _ (Heap.lt_size eo)
 have fr:upd H1 d (.frz o (.dK kvs)) s1.heap.objs.size=none:=by rw[aA hne]; exact I1.hok.fresh (Nat.le_refl _)
 refine⟨s1.heap.objs.size,[s1.heap.objs.size],_,_,_,U,I2.kept (t':=s1.toks) fun b o e=>Heap.get?_push_of_some _ e,m7 d _ o kvs ep hep,⟨_,Heap.get?_push_size _ rfl,U,by rw[rel.length]; rfl⟩,fun b hb=>?_,q o⟩
 have e:b=s1.heap.objs.size:=by simpa using hb
 subst e
 exact I1.fpOk (Nat.le_refl _) fr
theorem pZ {d:Addr}{o:Obj}{g:TG}{tb:TS}{D:Ends}{σ:St}{H:Hp} (Pv:Nat->St->Hp->Prop) (h0:Pv 0 σ H) (hl:∀ i σ H,i<=kvs.length->Pv i σ H->H d=some (.frz o (.dK kvs)))
  (hs:∀ i kv σ H,kvs[i]?=some kv->Pv i σ H->g (kV kv.1) σ H fun σ2 H2=>tb { D with nx:=Pv (i+1),ct:=Pv (i+1),bk:=D.nx } σ2 H2) (hd:∀ σ H,Pv kvs.length σ H->D.nx σ H) :
  ∃ W:Nat->Nat->St->Hp->Prop,(∃ m,W 0 m σ H)/\∀ i m σ H,W i m σ H ->
   ((Itd d o kvs).stop i H/\D.nx σ H)∨((Itd d o kvs).go i H/\∃ N:St->Hp->Prop,(∀ σ' H',N σ' H'->∃ m',m'<m/\W (i+1) m' σ' H')/\∀ x H',(Itd d o kvs).yld i H x H'->g x σ H' fun σ2 H2=>tb { D with nx:=N,ct:=N,bk:=D.nx } σ2 H2):=by
 refine⟨fun i m σ H=>m=kvs.length - i/\i<=kvs.length/\Pv i σ H,⟨kvs.length,by simp,Nat.zero_le _,h0⟩,?_⟩
 rintro i m σ H ⟨rfl,hi,p⟩
 have q:=hl i σ H hi p
 by_cases hlt:i<kvs.length
 ·refine .inr ⟨⟨q,hlt⟩,Pv (i+1),fun σ' H' p'=>⟨kvs.length - (i+1),by omega,U,hlt,p'⟩,fun x H' y=>?_⟩
  obtain⟨e,kv,hk,ex⟩:=y
  subst e ex
  exact hs i kv σ _ hk p
 ·have e:i=kvs.length:=by omega
  subst e
  exact .inl ⟨⟨q,Nat.le_refl _⟩,hd σ H p⟩
end L2
set_option Elab.async false
set_option linter.all false
set_option maxRecDepth 100000
set_option maxHeartbeats 4000000
namespace P
open PySem L2
def top (i:Nat):Stmt:=PySem.Challenge.pw_lazyrails_k58_whole_fate_of_any_yard.main.body.getD i (.Pass ⟨0,0,0,0⟩)
abbrev rX:Stmt:=top 81
abbrev lN:Stmt:=top 50
abbrev lO:Stmt:=top 78
abbrev lM:Stmt:=top 61
abbrev oK:Stmt:=top 67
abbrev vv:Stmt:=top 52
abbrev lH:Stmt:=top 51
abbrev oJ:Stmt:=top 57
abbrev kc:Stmt:=top 60
abbrev lJ:Stmt:=top 59
abbrev oH:Stmt:=top 77
abbrev r8:Stmt:=top 75
abbrev oQ:Stmt:=top 40
abbrev kZ:Stmt:=top 68
abbrev vC:Stmt:=top 63
abbrev sk:Stmt:=top 62
abbrev oI:Stmt:=top 71
abbrev lK:Stmt:=top 74
abbrev sj:Stmt:=top 65
abbrev si:Stmt:=top 58
abbrev rV:Stmt:=top 39
abbrev vM:Stmt:=top 37
abbrev sf:Stmt:=top 34
abbrev vL:Stmt:=top 31
abbrev r9:Stmt:=top 29
abbrev vB:Stmt:=top 30
abbrev vT:Stmt:=top 32
abbrev vZ:Stmt:=top 35
abbrev oS:Stmt:=top 69
abbrev k6:Stmt:=top 70
abbrev vA:Stmt:=top 64
abbrev rW:Stmt:=top 73
abbrev jB:Stmt:=top 72
abbrev oM:Stmt:=top 56
abbrev lL:Stmt:=top 55
abbrev oO:Stmt:=top 44
abbrev oG:Stmt:=top 42
abbrev oN:Stmt:=top 38
abbrev lP:Stmt:=top 46
abbrev vY:Stmt:=top 45
abbrev oT:Stmt:=top 76
abbrev oR:Stmt:=top 54
abbrev r6:Stmt:=top 53
abbrev rY:Stmt:=top 80
abbrev vS:Stmt:=top 66
abbrev rZ:Stmt:=top 79
abbrev vR:Stmt:=top 33
abbrev vK:Stmt:=bf (top 48) 0
abbrev vz:Stmt:=bf (top 48) 1
abbrev v7:Stmt:=bf (top 48) 22
abbrev v6:Stmt:=bf (top 48) 24
abbrev vX:Stmt:=bf (top 48) 2
abbrev v5:Stmt:=bf (top 48) 10
abbrev vQ:Stmt:=bf (top 48) 21
abbrev vJ:Stmt:=bf (top 48) 4
abbrev v9:Stmt:=bf (top 48) 25
abbrev v8:Stmt:=bf (top 48) 23
abbrev vy:Stmt:=bf (top 48) 7
abbrev vP:Stmt:=bf (top 48) 9
abbrev vW:Stmt:=bf (top 48) 19
abbrev vI:Stmt:=bf (top 48) 14
abbrev vH:Stmt:=bf (top 48) 18
abbrev vG:Stmt:=bf (top 48) 17
abbrev vw:Stmt:=bf (top 48) 16
abbrev vV:Stmt:=bf (top 48) 5
abbrev vF:Stmt:=bf (top 48) 3
abbrev so:Stmt:=bf (top 48) 8
abbrev vO:Stmt:=bf (top 48) 6
abbrev v4:Stmt:=bf (top 48) 11
abbrev vE:Stmt:=bf (top 48) 13
abbrev vU:Stmt:=bf (top 48) 12
abbrev vN:Stmt:=bf (top 48) 20
abbrev vD:Stmt:=bf (top 48) 15
set_option genInjectivity false in
set_option genSizeOf false in
structure Adr where
 f_law:Addr
 d_law:FuncData
 v_law:Value
 f_draws:Addr
 d_draws:FuncData
 f_begun:Addr
 d_begun:FuncData
 f_fresh:Addr
 d_fresh:FuncData
 f_lay:Addr
 d_lay:FuncData
 f_is:Addr
 d_is:FuncData
 f_whole:Addr
 d_whole:FuncData
 f_many:Addr
 d_many:FuncData
 f_J11:Addr
 d_J11:FuncData
 v_J11:Value
 f_names:Addr
 d_names:FuncData
 f_turn:Addr
 d_turn:FuncData
 f_J81:Addr
 d_J81:FuncData
 f_back:Addr
 d_back:FuncData
 f_link:Addr
 d_link:FuncData
 f_Ju:Addr
 d_Ju:FuncData
 f_J21:Addr
 d_J21:FuncData
 f_put:Addr
 d_put:FuncData
 f_l_run:Addr
 d_l_run:FuncData
 f_J31:Addr
 d_J31:FuncData
 f_J41:Addr
 d_J41:FuncData
 f_run:Addr
 d_run:FuncData
 f_Jk:Addr
 d_Jk:FuncData
 f_J51:Addr
 d_J51:FuncData
 f_Jl:Addr
 d_Jl:FuncData
 f_J61:Addr
 d_J61:FuncData
 f_Jv:Addr
 d_Jv:FuncData
 f_Jd:Addr
 d_Jd:FuncData
 f_J7:Addr
 d_J7:FuncData
 f_J91:Addr
 d_J91:FuncData
 f_lift:Addr
 d_lift:FuncData
 f_Jw:Addr
 d_Jw:FuncData
 f_off:Addr
 d_off:FuncData
 f_throw:Addr
 d_throw:FuncData
 f_kind:Addr
 d_kind:FuncData
 f_kinds:Addr
 d_kinds:FuncData
 f_fate:Addr
 d_fate:FuncData
 f_twin:Addr
 d_twin:FuncData
 f_held:Addr
 d_held:FuncData
 f_alike:Addr
 d_alike:FuncData
 f_J8:Addr
 d_J8:FuncData
 f_J71:Addr
 d_J71:FuncData
 f_Ja1:Addr
 d_Ja1:FuncData
 f_Jb1:Addr
 d_Jb1:FuncData
 f_due:Addr
 d_due:FuncData
 f_Je:Addr
 d_Je:FuncData
 f_Jc1:Addr
 d_Jc1:FuncData
 f_Jf:Addr
 d_Jf:FuncData
 f_Jm:Addr
 d_Jm:FuncData
 f_Jx:Addr
 d_Jx:FuncData
 v_Jx:Value
 f_J2:Addr
 d_J2:FuncData
 f_J3:Addr
 d_J3:FuncData
 f_J9:Addr
 d_J9:FuncData
 v_J9:Value
 f_J5:Addr
 d_J5:FuncData
 f_Jg:Addr
 d_Jg:FuncData
 f_Jn:Addr
 d_Jn:FuncData
 f_J0:Addr
 d_J0:FuncData
 f_J1:Addr
 d_J1:FuncData
 f_Jy:Addr
 d_Jy:FuncData
 f_Jh:Addr
 d_Jh:FuncData
 f_Ja:Addr
 d_Ja:FuncData
 f_Jo:Addr
 d_Jo:FuncData
 f_Jp:Addr
 d_Jp:FuncData
 f_Jq:Addr
 d_Jq:FuncData
 f_Jz:Addr
 d_Jz:FuncData
 f_Jb:Addr
 d_Jb:FuncData
 f_Jr:Addr
 d_Jr:FuncData
 f_J01:Addr
 d_J01:FuncData
 f_Ji:Addr
 d_Ji:FuncData
 f_J6:Addr
 d_J6:FuncData
 f_Js:Addr
 d_Js:FuncData
 f_Jc:Addr
 d_Jc:FuncData
 f_Jj:Addr
 d_Jj:FuncData
 f_Jt:Addr
 d_Jt:FuncData
 c_Yard:Addr
 c_RailError:Addr
 c_NoKind:Addr
 c_NoEnd:Addr
 c_NoSide:Addr
 c_NoNote:Addr
 c_NoPiece:Addr
 c_NoRod:Addr
 c_NoPoint:Addr
 c_NoBell:Addr
 c_SameEnd:Addr
 c_Linked:Addr
 c_NotLinked:Addr
 c_Occupied:Addr
 c_NoStand:Addr
 c_NoMany:Addr
 c_NoStretch:Addr
 c_NoRow:Addr
 c_NoMark:Addr
 c_NoCounter:Addr
 c_NoWidth:Addr
 c_NoValue:Addr
 c_FallsOut:Addr
 c_NoText:Addr
 p_lay:Addr
 p_link:Addr
 p_J91:Addr
 p_lift:Addr
 p_put:Addr
 p_throw:Addr
 u_ENDS:Value
 u_LAST_NOTE:Value
 u_POINTS:Value
 u_STEM:Value
def eT (t:Adr) (i:Nat):List (Addr×Bool):=[(t.c_NoKind,i == 0),(t.c_NoEnd,i == 1),(t.c_NoSide,i == 2),(t.c_NoNote,i == 3),(t.c_NoPiece,i == 4),(t.c_NoRod,i == 5),(t.c_NoPoint,i == 6),(t.c_NoBell,i == 7),(t.c_SameEnd,i == 8),(t.c_Linked,i == 9),(t.c_NotLinked,i == 10),(t.c_Occupied,i == 11),(t.c_NoStand,i == 12),(t.c_NoMany,i == 13),(t.c_NoStretch,i == 14),(t.c_NoRow,i == 15),(t.c_NoMark,i == 16),(t.c_NoCounter,i == 17),(t.c_NoWidth,i == 18),(t.c_NoValue,i == 19),(t.c_FallsOut,i == 20),(t.c_NoText,i == 21)]
def gY (i:Nat):List (Str×Bool):=[("NoKind",i == 0),("NoEnd",i == 1),("NoSide",i == 2),("NoNote",i == 3),("NoPiece",i == 4),("NoRod",i == 5),("NoPoint",i == 6),("NoBell",i == 7),("SameEnd",i == 8),("Linked",i == 9),("NotLinked",i == 10),("Occupied",i == 11),("NoStand",i == 12),("NoMany",i == 13),("NoStretch",i == 14),("NoRow",i == 15),("NoMark",i == 16),("NoCounter",i == 17),("NoWidth",i == 18),("NoValue",i == 19),("FallsOut",i == 20),("NoText",i == 21),("plain",false)]
def gu (i:Nat):Str:=((["NoKind","NoEnd","NoSide","NoNote","NoPiece","NoRod","NoPoint","NoBell","SameEnd","Linked","NotLinked","Occupied","NoStand","NoMany","NoStretch","NoRow","NoMark","NoCounter","NoWidth","NoValue","FallsOut","NoText"]:List Str)[i]?).getD ""
structure Txt (K:PySem.W.Frag) (mg:Str->Option Value) (t:Adr):Prop where
 F_law:FunG K "law" "law" rX t.v_law t.f_law t.d_law
 F_draws:FunG K "_law_draws" "_law_draws" lN .none t.f_draws t.d_draws
 F_begun:FunG K "_law_begun" "_law_begun" lO .none t.f_begun t.d_begun
 F_fresh:FunG K "_law_fresh" "_law_fresh" lM .none t.f_fresh t.d_fresh
 F_lay:FunG K "_law_lay" "_law_lay" oK .none t.f_lay t.d_lay
 F_is:FunG K "_law_is" "_law_is" vv .none t.f_is t.d_is
 F_whole:FunG K "_law_whole" "_law_whole" lH .none t.f_whole t.d_whole
 F_many:FunG K "_law_many" "_law_many" oJ .none t.f_many t.d_many
 F_J11:FunG K "_law_refused" "_law_refused" kc t.v_J11 t.f_J11 t.d_J11
 F_names:FunG K "_law_names" "_law_names" lJ .none t.f_names t.d_names
 F_turn:FunG K "_law_turn" "_law_turn" oH .none t.f_turn t.d_turn
 F_J81:FunG K "_law_back" "_law_back" r8 .none t.f_J81 t.d_J81
 F_back:FunG K "back" "back" oQ .none t.f_back t.d_back
 F_link:FunG K "_law_link" "_law_link" kZ .none t.f_link t.d_link
 F_Ju:FunG K "_law_link_due" "_law_link_due" vC .none t.f_Ju t.d_Ju
 F_J21:FunG K "_law_end_due" "_law_end_due" sk .none t.f_J21 t.d_J21
 F_put:FunG K "_law_put" "_law_put" oI .none t.f_put t.d_put
 F_l_run:FunG K "_law_run" "_law_run" lK .none t.f_l_run t.d_l_run
 F_J31:FunG K "_law_stepped" "_law_stepped" sj .none t.f_J31 t.d_J31
 F_J41:FunG K "_law_passing" "_law_passing" si .none t.f_J41 t.d_J41
 F_run:FunG K "run" "run" rV .none t.f_run t.d_run
 F_Jk:FunG K "next_step" "next_step" vM .none t.f_Jk t.d_Jk
 F_J51:FunG K "passage" "passage" sf .none t.f_J51 t.d_J51
 F_Jl:FunG K "check_end" "check_end" vL .none t.f_Jl t.d_Jl
 F_J61:FunG K "ends_of" "ends_of" r9 .none t.f_J61 t.d_J61
 F_Jv:FunG K "is_point" "is_point" vB .none t.f_Jv t.d_Jv
 F_Jd:FunG K "check_side" "check_side" vT .none t.f_Jd t.d_Jd
 F_J7:FunG K "point_passage" "point_passage" vZ .none t.f_J7 t.d_J7
 F_J91:FunG K "_law_unlink" "_law_unlink" oS .none t.f_J91 t.d_J91
 F_lift:FunG K "_law_lift" "_law_lift" k6 .none t.f_lift t.d_lift
 F_Jw:FunG K "_law_lift_due" "_law_lift_due" vA .none t.f_Jw t.d_Jw
 F_off:FunG K "_law_off" "_law_off" rW .none t.f_off t.d_off
 F_throw:FunG K "_law_throw" "_law_throw" jB .none t.f_throw t.d_throw
 F_kind:FunG K "_law_kind" "_law_kind" oM .none t.f_kind t.d_kind
 F_kinds:FunG K "_law_kinds" "_law_kinds" lL .none t.f_kinds t.d_kinds
 F_fate:FunG K "fate" "fate" oO .none t.f_fate t.d_fate
 F_twin:FunG K "twin" "twin" oG .none t.f_twin t.d_twin
 F_held:FunG K "held" "held" oN .none t.f_held t.d_held
 F_alike:FunG K "alike" "alike" lP .none t.f_alike t.d_alike
 F_J8:FunG K "fate_on_round" "fate_on_round" vY .none t.f_J8 t.d_J8
 F_J71:FunG K "_law_alike" "_law_alike" oT .none t.f_J71 t.d_J71
 F_Ja1:FunG K "_law_is_row" "_law_is_row" oR .none t.f_Ja1 t.d_Ja1
 F_Jb1:FunG K "_law_is_end" "_law_is_end" r6 .none t.f_Jb1 t.d_Jb1
 F_due:FunG K "_law_due" "_law_due" rY .none t.f_due t.d_due
 F_Je:FunG K "_law_model_copy" "_law_model_copy" vS .none t.f_Je t.d_Je
 F_Jc1:FunG K "_law_reason" "_law_reason" rZ .none t.f_Jc1 t.d_Jc1
 F_Jf:FunG K "check_note" "check_note" vR .none t.f_Jf t.d_Jf
 F_Jm:FunG K "__init__" "Yard.__init__" vK .none t.f_Jm t.d_Jm
 F_Jx:FunG K "lay" "Yard.lay" vz t.v_Jx t.f_Jx t.d_Jx
 F_J2:FunG K "end_trail" "Yard.end_trail" v7 .none t.f_J2 t.d_J2
 F_J3:FunG K "check_rod" "Yard.check_rod" v6 .none t.f_J3 t.d_J3
 F_J9:FunG K "new_rod" "Yard.new_rod" vX t.v_J9 t.f_J9 t.d_J9
 F_J5:FunG K "take_back" "Yard.take_back" v5 .none t.f_J5 t.d_J5
 F_Jg:FunG K "steps" "Yard.steps" vQ .none t.f_Jg t.d_Jg
 F_Jn:FunG K "link" "Yard.link" vJ .none t.f_Jn t.d_Jn
 F_J0:FunG K "check_there" "Yard.check_there" v9 .none t.f_J0 t.d_J0
 F_J1:FunG K "check_piece" "Yard.check_piece" v8 .none t.f_J1 t.d_J1
 F_Jy:FunG K "put" "Yard.put" vy .none t.f_Jy t.d_Jy
 F_Jh:FunG K "carry" "Yard.carry" vP .none t.f_Jh t.d_Jh
 F_Ja:FunG K "engine" "Yard.engine" vW .none t.f_Ja t.d_Ja
 F_Jo:FunG K "kind" "Yard.kind" vI .none t.f_Jo t.d_Jo
 F_Jp:FunG K "mate" "Yard.mate" vH .none t.f_Jp t.d_Jp
 F_Jq:FunG K "side" "Yard.side" vG .none t.f_Jq t.d_Jq
 F_Jz:FunG K "rod" "Yard.rod" vw .none t.f_Jz t.d_Jz
 F_Jb:FunG K "unlink" "Yard.unlink" vV .none t.f_Jb t.d_Jb
 F_Jr:FunG K "lift" "Yard.lift" vF .none t.f_Jr t.d_Jr
 F_J01:FunG K "off" "Yard.off" so .none t.f_J01 t.d_J01
 F_Ji:FunG K "throw" "Yard.throw" vO .none t.f_Ji t.d_Ji
 F_J6:FunG K "make_twin" "Yard.make_twin" v4 .none t.f_J6 t.d_J6
 F_Js:FunG K "rods" "Yard.rods" vE .none t.f_Js t.d_Js
 F_Jc:FunG K "pieces" "Yard.pieces" vU .none t.f_Jc t.d_Jc
 F_Jj:FunG K "bells" "Yard.bells" vN .none t.f_Jj t.d_Jj
 F_Jt:FunG K "note" "Yard.note" vD .none t.f_Jt t.d_Jt
 m_law:mg "law" = some (.ref t.f_law)
 e_law:t.v_law=.none
 m_draws:mg "_law_draws" = some (.ref t.f_draws)
 m_begun:mg "_law_begun" = some (.ref t.f_begun)
 m_fresh:mg "_law_fresh" = some (.ref t.f_fresh)
 m_lay:mg "_law_lay" = some (.ref t.f_lay)
 m_is:mg "_law_is" = some (.ref t.f_is)
 m_whole:mg "_law_whole" = some (.ref t.f_whole)
 m_many:mg "_law_many" = some (.ref t.f_many)
 m_J11:mg "_law_refused" = some (.ref t.f_J11)
 e_J11:t.v_J11=.none
 m_names:mg "_law_names" = some (.ref t.f_names)
 m_turn:mg "_law_turn" = some (.ref t.f_turn)
 m_J81:mg "_law_back" = some (.ref t.f_J81)
 m_back:mg "back" = some (.ref t.f_back)
 m_link:mg "_law_link" = some (.ref t.f_link)
 m_Ju:mg "_law_link_due" = some (.ref t.f_Ju)
 m_J21:mg "_law_end_due" = some (.ref t.f_J21)
 m_put:mg "_law_put" = some (.ref t.f_put)
 m_l_run:mg "_law_run" = some (.ref t.f_l_run)
 m_J31:mg "_law_stepped" = some (.ref t.f_J31)
 m_J41:mg "_law_passing" = some (.ref t.f_J41)
 m_run:mg "run" = some (.ref t.f_run)
 m_Jk:mg "next_step" = some (.ref t.f_Jk)
 m_J51:mg "passage" = some (.ref t.f_J51)
 m_Jl:mg "check_end" = some (.ref t.f_Jl)
 m_J61:mg "ends_of" = some (.ref t.f_J61)
 m_Jv:mg "is_point" = some (.ref t.f_Jv)
 m_Jd:mg "check_side" = some (.ref t.f_Jd)
 m_J7:mg "point_passage" = some (.ref t.f_J7)
 m_J91:mg "_law_unlink" = some (.ref t.f_J91)
 m_lift:mg "_law_lift" = some (.ref t.f_lift)
 m_Jw:mg "_law_lift_due" = some (.ref t.f_Jw)
 m_off:mg "_law_off" = some (.ref t.f_off)
 m_throw:mg "_law_throw" = some (.ref t.f_throw)
 m_kind:mg "_law_kind" = some (.ref t.f_kind)
 m_kinds:mg "_law_kinds" = some (.ref t.f_kinds)
 m_fate:mg "fate" = some (.ref t.f_fate)
 m_twin:mg "twin" = some (.ref t.f_twin)
 m_held:mg "held" = some (.ref t.f_held)
 m_alike:mg "alike" = some (.ref t.f_alike)
 m_J8:mg "fate_on_round" = some (.ref t.f_J8)
 m_J71:mg "_law_alike" = some (.ref t.f_J71)
 m_Ja1:mg "_law_is_row" = some (.ref t.f_Ja1)
 m_Jb1:mg "_law_is_end" = some (.ref t.f_Jb1)
 m_due:mg "_law_due" = some (.ref t.f_due)
 m_Je:mg "_law_model_copy" = some (.ref t.f_Je)
 m_Jc1:mg "_law_reason" = some (.ref t.f_Jc1)
 m_Jf:mg "check_note" = some (.ref t.f_Jf)
 M_Jx:Meth K t.c_Yard "lay" t.f_Jx
 D_Jx:∃ (T:Addr) (od:Option Addr) (n:Nat) (sl:Array (Option Value)) (tk0:Tok),t.v_Jx=.ref T/\K.lookup T=some ⟨.type "tuple",od,.seq #[.int 0 tk0,.none] n,sl⟩
 M_J2:Meth K t.c_Yard "end_trail" t.f_J2
 M_J3:Meth K t.c_Yard "check_rod" t.f_J3
 M_J9:Meth K t.c_Yard "new_rod" t.f_J9
 D_J9:∃ (T:Addr) (od:Option Addr) (n:Nat) (sl:Array (Option Value)) (tk0:Tok),t.v_J9=.ref T/\K.lookup T=some ⟨.type "tuple",od,.seq #[.int 1 tk0] n,sl⟩
 M_J5:Meth K t.c_Yard "take_back" t.f_J5
 M_Jg:Meth K t.c_Yard "steps" t.f_Jg
 M_Jn:Meth K t.c_Yard "link" t.f_Jn
 M_J0:Meth K t.c_Yard "check_there" t.f_J0
 M_J1:Meth K t.c_Yard "check_piece" t.f_J1
 M_Jy:Meth K t.c_Yard "put" t.f_Jy
 M_Jh:Meth K t.c_Yard "carry" t.f_Jh
 M_Ja:Meth K t.c_Yard "engine" t.f_Ja
 M_Jo:Meth K t.c_Yard "kind" t.f_Jo
 M_Jp:Meth K t.c_Yard "mate" t.f_Jp
 M_Jq:Meth K t.c_Yard "side" t.f_Jq
 M_Jz:Meth K t.c_Yard "rod" t.f_Jz
 M_Jb:Meth K t.c_Yard "unlink" t.f_Jb
 M_Jr:Meth K t.c_Yard "lift" t.f_Jr
 M_J01:Meth K t.c_Yard "off" t.f_J01
 M_Ji:Meth K t.c_Yard "throw" t.f_Ji
 M_J6:Meth K t.c_Yard "make_twin" t.f_J6
 M_Js:Meth K t.c_Yard "rods" t.f_Js
 M_Jc:Meth K t.c_Yard "pieces" t.f_Jc
 M_Jj:Meth K t.c_Yard "bells" t.f_Jj
 M_Jt:Meth K t.c_Yard "note" t.f_Jt
 cl_Yard:Cls K t.c_Yard
 m_Yard:mg "Yard" = some (.ref t.c_Yard)
 mk_Yard:Mk K t.c_Yard t.f_Jm
 n_Yard_next_piece:NoAttr K t.c_Yard "next_piece"
 n_Yard_kinds:NoAttr K t.c_Yard "kinds"
 n_Yard_notes:NoAttr K t.c_Yard "notes"
 n_Js_under:NoAttr K t.c_Yard "rods_under"
 n_Yard_sides:NoAttr K t.c_Yard "sides"
 n_Yard_mates:NoAttr K t.c_Yard "mates"
 n_Ja_end:NoAttr K t.c_Yard "engine_end"
 n_Yard_rung:NoAttr K t.c_Yard "rung"
 n_Yard_trail:NoAttr K t.c_Yard "trail"
 m_RailError:mg "RailError" = some (.ref t.c_RailError)
 m_NoKind:mg "NoKind" = some (.ref t.c_NoKind)
 m_NoEnd:mg "NoEnd" = some (.ref t.c_NoEnd)
 m_NoSide:mg "NoSide" = some (.ref t.c_NoSide)
 m_NoNote:mg "NoNote" = some (.ref t.c_NoNote)
 m_NoPiece:mg "NoPiece" = some (.ref t.c_NoPiece)
 m_NoRod:mg "NoRod" = some (.ref t.c_NoRod)
 m_NoPoint:mg "NoPoint" = some (.ref t.c_NoPoint)
 m_NoBell:mg "NoBell" = some (.ref t.c_NoBell)
 m_SameEnd:mg "SameEnd" = some (.ref t.c_SameEnd)
 m_Linked:mg "Linked" = some (.ref t.c_Linked)
 m_NotLinked:mg "NotLinked" = some (.ref t.c_NotLinked)
 m_Occupied:mg "Occupied" = some (.ref t.c_Occupied)
 m_NoStand:mg "NoStand" = some (.ref t.c_NoStand)
 m_NoMany:mg "NoMany" = some (.ref t.c_NoMany)
 m_NoStretch:mg "NoStretch" = some (.ref t.c_NoStretch)
 m_NoRow:mg "NoRow" = some (.ref t.c_NoRow)
 m_NoMark:mg "NoMark" = some (.ref t.c_NoMark)
 m_NoCounter:mg "NoCounter" = some (.ref t.c_NoCounter)
 m_NoWidth:mg "NoWidth" = some (.ref t.c_NoWidth)
 m_NoValue:mg "NoValue" = some (.ref t.c_NoValue)
 m_FallsOut:mg "FallsOut" = some (.ref t.c_FallsOut)
 m_NoText:mg "NoText" = some (.ref t.c_NoText)
 x_NoKind:bw K t.c_NoKind t.c_RailError (eT t 0)=true
 x_NoEnd:bw K t.c_NoEnd t.c_RailError (eT t 1)=true
 x_NoSide:bw K t.c_NoSide t.c_RailError (eT t 2)=true
 x_NoNote:bw K t.c_NoNote t.c_RailError (eT t 3)=true
 x_NoPiece:bw K t.c_NoPiece t.c_RailError (eT t 4)=true
 x_NoRod:bw K t.c_NoRod t.c_RailError (eT t 5)=true
 x_SameEnd:bw K t.c_SameEnd t.c_RailError (eT t 8)=true
 x_Linked:bw K t.c_Linked t.c_RailError (eT t 9)=true
 x_NotLinked:bw K t.c_NotLinked t.c_RailError (eT t 10)=true
 x_NoBell:bw K t.c_NoBell t.c_RailError (eT t 7)=true
 x_NoPoint:bw K t.c_NoPoint t.c_RailError (eT t 6)=true
 x_Occupied:bw K t.c_Occupied t.c_RailError (eT t 11)=true
 tb_lay:∃ c,t.d_lay.code=.ref c/\W.codeHdIn K c t.p_lay=true
 tn_lay:K.lookup t.p_lay=none
 tb_link:∃ c,t.d_link.code=.ref c/\W.codeHdIn K c t.p_link=true
 tn_link:K.lookup t.p_link=none
 tb_J91:∃ c,t.d_J91.code=.ref c/\W.codeHdIn K c t.p_J91=true
 tn_J91:K.lookup t.p_J91=none
 tb_lift:∃ c,t.d_lift.code=.ref c/\W.codeHdIn K c t.p_lift=true
 tn_lift:K.lookup t.p_lift=none
 tb_put:∃ c,t.d_put.code=.ref c/\W.codeHdIn K c t.p_put=true
 tn_put:K.lookup t.p_put=none
 tb_throw:∃ c,t.d_throw.code=.ref c/\W.codeHdIn K c t.p_throw=true
 tn_throw:K.lookup t.p_throw=none
 dj_lay_link:t.p_lay≠t.p_link
 dj_lay_J91:t.p_lay≠t.p_J91
 dj_lay_lift:t.p_lay≠t.p_lift
 dj_lay_put:t.p_lay≠t.p_put
 dj_lay_throw:t.p_lay≠t.p_throw
 dj_link_J91:t.p_link≠t.p_J91
 dj_link_lift:t.p_link≠t.p_lift
 dj_link_put:t.p_link≠t.p_put
 dj_link_throw:t.p_link≠t.p_throw
 dj_J91_lift:t.p_J91≠t.p_lift
 dj_J91_put:t.p_J91≠t.p_put
 dj_J91_throw:t.p_J91≠t.p_throw
 dj_lift_put:t.p_lift≠t.p_put
 dj_lift_throw:t.p_lift≠t.p_throw
 dj_put_throw:t.p_put≠t.p_throw
 z_ValueError:mg "ValueError" = none
 z_abs:mg "abs" = none
 z_all:mg "all" = none
 z_bool:mg "bool" = none
 z_dict:mg "dict" = none
 z_int:mg "int" = none
 z_isinstance:mg "isinstance" = none
 z_len:mg "len" = none
 z_list:mg "list" = none
 z_max:mg "max" = none
 z_min:mg "min" = none
 z_range:mg "range" = none
 z_tuple:mg "tuple" = none
 z_zip:mg "zip" = none
 g_ENDS:mg "ENDS" = some t.u_ENDS
 x_ENDS:∃ a,t.u_ENDS=.ref a/\rJ K a [("line",.int 2),("bell",.int 2),("stop",.int 1),("still",.int 3),("lazy",.int 3),("turning",.int 3)]
 g_LAST_NOTE:mg "LAST_NOTE" = some t.u_LAST_NOTE
 r_LAST_NOTE:RelV (.int 9999) t.u_LAST_NOTE
 g_POINTS:mg "POINTS" = some t.u_POINTS
 x_POINTS:∃ (a:Addr) (o:Obj) (its:Array Value) (n:Nat),t.u_POINTS=.ref a/\K.lookup a=some o/\o.cls=.type "tuple" /\ o.data=.seq its n/\its.size<=sizeLine/\Vals [.str "still",.str "lazy",.str "turning"] its.toList
 g_STEM:mg "STEM" = some t.u_STEM
 r_STEM:RelV (.int 0) t.u_STEM
variable{fd:FuncData}{dV:Value}{f:Addr}
section
variable {K:PySem.W.Frag}{mg:Str->Option Value}{t:Adr}
theorem lS_ {us:List Value}{n:Nat} (h:us.length=n+1):∃ a t,us=a::t/\t.length=n:=by
 cases us with
 | nil=>cases h
 | cons a t=>exact⟨a,t,rfl,Nat.succ.inj h⟩
theorem l0_ {us:List Value} (h:us.length=0):us=[]:=List.eq_nil_of_length_eq_zero h
theorem bi0 {x q:Str}{st:Stmt} (F:FunG K x q st dV f fd) (e:dV=.none:=by rfl) (h:∀ (kV doc pm:Value) (an:Option Addr) (cdv ct:Value),bindArgs (W.fnOf x q (cC st) (bK st) (aj st) .none kV doc pm an cdv ct) ⟨[],[]⟩=pure []:=by intros; rfl):Binds K fd [] []:=by
 subst e
 refine F.binds fun kV doc pm an cdv ct us hl=>?_
 cases l0_ hl
 exact h kV doc pm an cdv ct
theorem bi1 {x q:Str}{st:Stmt}{a0:Str} (F:FunG K x q st dV f fd) (e:dV=.none:=by rfl) (h:∀ (kV doc pm:Value) (an:Option Addr) (cdv ct u0:Value),bindArgs (W.fnOf x q (cC st) (bK st) (aj st) .none kV doc pm an cdv ct) ⟨[u0],[]⟩=pure [(a0,u0)]:=by intros; rfl):Binds K fd [a0] []:=by
 subst e
 refine F.binds fun kV doc pm an cdv ct us hl=>?_
 obtain⟨u0,w0,rfl,g0⟩:=lS_ hl
 cases l0_ g0
 exact h kV doc pm an cdv ct u0
theorem bi2 {x q:Str}{st:Stmt}{a0 a1:Str} (F:FunG K x q st dV f fd) (e:dV=.none:=by rfl) (h:∀ (kV doc pm:Value) (an:Option Addr) (cdv ct u0 u1:Value),bindArgs (W.fnOf x q (cC st) (bK st) (aj st) .none kV doc pm an cdv ct) ⟨[u0,u1],[]⟩=pure [(a0,u0),(a1,u1)]:=by intros; rfl):Binds K fd [a0,a1] []:=by
 subst e
 refine F.binds fun kV doc pm an cdv ct us hl=>?_
 obtain⟨u0,w0,rfl,g0⟩:=lS_ hl
 obtain⟨u1,w1,rfl,g1⟩:=lS_ g0
 cases l0_ g1
 exact h kV doc pm an cdv ct u0 u1
theorem bi3 {x q:Str}{st:Stmt}{a0 a1 a2:Str} (F:FunG K x q st dV f fd) (e:dV=.none:=by rfl) (h:∀ (kV doc pm:Value) (an:Option Addr) (cdv ct u0 u1 u2:Value),bindArgs (W.fnOf x q (cC st) (bK st) (aj st) .none kV doc pm an cdv ct) ⟨[u0,u1,u2],[]⟩=pure [(a0,u0),(a1,u1),(a2,u2)]:=by intros; rfl):Binds K fd [a0,a1,a2] []:=by
 subst e
 refine F.binds fun kV doc pm an cdv ct us hl=>?_
 obtain⟨u0,w0,rfl,g0⟩:=lS_ hl
 obtain⟨u1,w1,rfl,g1⟩:=lS_ g0
 obtain⟨u2,w2,rfl,g2⟩:=lS_ g1
 cases l0_ g2
 exact h kV doc pm an cdv ct u0 u1 u2
theorem bi4 {x q:Str}{st:Stmt}{a0 a1 a2 a3:Str} (F:FunG K x q st dV f fd) (e:dV=.none:=by rfl) (h:∀ (kV doc pm:Value) (an:Option Addr) (cdv ct u0 u1 u2 u3:Value),bindArgs (W.fnOf x q (cC st) (bK st) (aj st) .none kV doc pm an cdv ct) ⟨[u0,u1,u2,u3],[]⟩=pure [(a0,u0),(a1,u1),(a2,u2),(a3,u3)]:=by intros; rfl):Binds K fd [a0,a1,a2,a3] []:=by
 subst e
 refine F.binds fun kV doc pm an cdv ct us hl=>?_
 obtain⟨u0,w0,rfl,g0⟩:=lS_ hl
 obtain⟨u1,w1,rfl,g1⟩:=lS_ g0
 obtain⟨u2,w2,rfl,g2⟩:=lS_ g1
 obtain⟨u3,w3,rfl,g3⟩:=lS_ g2
 cases l0_ g3
 exact h kV doc pm an cdv ct u0 u1 u2 u3
theorem bi5 {x q:Str}{st:Stmt}{a0 a1 a2 a3 a4:Str} (F:FunG K x q st dV f fd) (e:dV=.none:=by rfl) (h:∀ (kV doc pm:Value) (an:Option Addr) (cdv ct u0 u1 u2 u3 u4:Value),bindArgs (W.fnOf x q (cC st) (bK st) (aj st) .none kV doc pm an cdv ct) ⟨[u0,u1,u2,u3,u4],[]⟩=pure [(a0,u0),(a1,u1),(a2,u2),(a3,u3),(a4,u4)]:=by intros; rfl):Binds K fd [a0,a1,a2,a3,a4] []:=by
 subst e
 refine F.binds fun kV doc pm an cdv ct us hl=>?_
 obtain⟨u0,w0,rfl,g0⟩:=lS_ hl
 obtain⟨u1,w1,rfl,g1⟩:=lS_ g0
 obtain⟨u2,w2,rfl,g2⟩:=lS_ g1
 obtain⟨u3,w3,rfl,g3⟩:=lS_ g2
 obtain⟨u4,w4,rfl,g4⟩:=lS_ g3
 cases l0_ g4
 exact h kV doc pm an cdv ct u0 u1 u2 u3 u4
theorem rB (T:Txt K mg t):Binds K t.d_draws ["_law_script","_law_many_here"] []:=bi2 T.F_draws
theorem rC (T:Txt K mg t):Binds K t.d_begun ["_law_d","_law_deeds"] []:=bi2 T.F_begun
theorem mQ (T:Txt K mg t):Binds K t.d_fresh [] []:=bi0 T.F_fresh
theorem sV (T:Txt K mg t):Binds K t.d_lay ["_law_yard","_law_m","_law_kind_here","_law_tone","_law_bar"] []:=bi5 T.F_lay
theorem jZ (T:Txt K mg t):Binds K t.d_is ["_law_found","_law_due_here"] []:=bi2 T.F_is
theorem mP (T:Txt K mg t):Binds K t.d_whole ["_law_found"] []:=bi1 T.F_whole
theorem gF (T:Txt K mg t):Binds K t.d_many ["_law_kind_here"] []:=bi1 T.F_many
theorem b_J11 (T:Txt K mg t):Binds K t.d_J11 ["_law_deed"] []:=bi1 T.F_J11 T.e_J11
theorem rp (T:Txt K mg t):Binds K t.d_names ["_law_e"] []:=bi1 T.F_names
theorem qq (T:Txt K mg t):Binds K t.d_turn ["_law_yard","_law_m","_law_d","_law_at"] []:=bi4 T.F_turn
theorem sX (T:Txt K mg t):Binds K t.d_J81 ["_law_yard","_law_m","_law_most"] []:=bi3 T.F_J81
theorem va (T:Txt K mg t):Binds K t.d_back ["yard","most"] []:=bi2 T.F_back
theorem u6 (T:Txt K mg t):Binds K t.d_link ["_law_yard","_law_m","_law_one","_law_other"] []:=bi4 T.F_link
theorem b_Ju (T:Txt K mg t):Binds K t.d_Ju ["_law_m","_law_one","_law_other"] []:=bi3 T.F_Ju
theorem mT (T:Txt K mg t):Binds K t.d_J21 ["_law_m","_law_end"] []:=bi2 T.F_J21
theorem b_put (T:Txt K mg t):Binds K t.d_put ["_law_yard","_law_m","_law_end"] []:=bi3 T.F_put
theorem rq (T:Txt K mg t):Binds K t.d_l_run ["_law_yard","_law_m","_law_most"] []:=bi3 T.F_l_run
theorem sZ (T:Txt K mg t):Binds K t.d_J31 ["_law_m"] []:=bi1 T.F_J31
theorem b_J41 (T:Txt K mg t):Binds K t.d_J41 ["_law_kind_here","_law_place","_law_side"] []:=bi3 T.F_J41
theorem iS (T:Txt K mg t):Binds K t.d_run ["yard","most"] []:=bi2 T.F_run
theorem wu (T:Txt K mg t):Binds K t.d_Jk ["yard"] []:=bi1 T.F_Jk
theorem b_J51 (T:Txt K mg t):Binds K t.d_J51 ["kind","end","side"] []:=bi3 T.F_J51
theorem vb (T:Txt K mg t):Binds K t.d_Jl ["kind","end"] []:=bi2 T.F_Jl
theorem mS (T:Txt K mg t):Binds K t.d_J61 ["kind"] []:=bi1 T.F_J61
theorem rD (T:Txt K mg t):Binds K t.d_Jv ["kind"] []:=bi1 T.F_Jv
theorem qu (T:Txt K mg t):Binds K t.d_Jd ["side"] []:=bi1 T.F_Jd
theorem b_J7 (T:Txt K mg t):Binds K t.d_J7 ["kind","end","side"] []:=bi3 T.F_J7
theorem b_J91 (T:Txt K mg t):Binds K t.d_J91 ["_law_yard","_law_m","_law_end"] []:=bi3 T.F_J91
theorem u7 (T:Txt K mg t):Binds K t.d_lift ["_law_yard","_law_m","_law_piece"] []:=bi3 T.F_lift
theorem b_Jw (T:Txt K mg t):Binds K t.d_Jw ["_law_m","_law_piece"] []:=bi2 T.F_Jw
theorem b_off (T:Txt K mg t):Binds K t.d_off ["_law_yard","_law_m"] []:=bi2 T.F_off
theorem rn (T:Txt K mg t):Binds K t.d_throw ["_law_yard","_law_m","_law_bar","_law_side"] []:=bi4 T.F_throw
theorem qr (T:Txt K mg t):Binds K t.d_kind ["_law_draw"] []:=bi1 T.F_kind
theorem rA (T:Txt K mg t):Binds K t.d_kinds [] []:=bi0 T.F_kinds
theorem qt (T:Txt K mg t):Binds K t.d_fate ["yard","most"] []:=bi2 T.F_fate
theorem jY (T:Txt K mg t):Binds K t.d_twin ["yard"] []:=bi1 T.F_twin
theorem u8 (T:Txt K mg t):Binds K t.d_held ["yard"] []:=bi1 T.F_held
theorem j0 (T:Txt K mg t):Binds K t.d_alike ["one","other"] []:=bi2 T.F_alike
theorem b_J8 (T:Txt K mg t):Binds K t.d_J8 ["yard","ahead","limit"] []:=bi3 T.F_J8
theorem sY (T:Txt K mg t):Binds K t.d_J71 ["_law_yard","_law_m"] []:=bi2 T.F_J71
theorem mR (T:Txt K mg t):Binds K t.d_Ja1 ["_law_found","_law_due_here"] []:=bi2 T.F_Ja1
theorem sW (T:Txt K mg t):Binds K t.d_Jb1 ["_law_found","_law_due_here"] []:=bi2 T.F_Jb1
theorem b_due (T:Txt K mg t):Binds K t.d_due ["_law_m","_law_most"] []:=bi2 T.F_due
theorem b_Je (T:Txt K mg t):Binds K t.d_Je ["_law_m"] []:=bi1 T.F_Je
theorem b_Jc1 (T:Txt K mg t):Binds K t.d_Jc1 ["_law_m"] []:=bi1 T.F_Jc1
theorem wx (T:Txt K mg t):Binds K t.d_Jf ["note"] []:=bi1 T.F_Jf
theorem wt (T:Txt K mg t):Binds K t.d_Jm ["self"] []:=bi1 T.F_Jm
theorem fG (T:Txt K mg t):Binds K t.d_J2 ["self"] []:=bi1 T.F_J2
theorem qv (T:Txt K mg t):Binds K t.d_J3 ["self","rod"] []:=bi2 T.F_J3
theorem b_J5 (T:Txt K mg t):Binds K t.d_J5 ["self"] []:=bi1 T.F_J5
theorem ww (T:Txt K mg t):Binds K t.d_Jg ["self"] []:=bi1 T.F_Jg
theorem wr (T:Txt K mg t):Binds K t.d_Jn ["self","one","other"] []:=bi3 T.F_Jn
theorem j3 (T:Txt K mg t):Binds K t.d_J0 ["self","end"] []:=bi2 T.F_J0
theorem lE (T:Txt K mg t):Binds K t.d_J1 ["self","piece"] []:=bi2 T.F_J1
theorem wl (T:Txt K mg t):Binds K t.d_Jy ["self","end"] []:=bi2 T.F_Jy
theorem b_Jh (T:Txt K mg t):Binds K t.d_Jh ["self","end","side"] []:=bi3 T.F_Jh
theorem rE (T:Txt K mg t):Binds K t.d_Ja ["self"] []:=bi1 T.F_Ja
theorem wq (T:Txt K mg t):Binds K t.d_Jo ["self","piece"] []:=bi2 T.F_Jo
theorem wp (T:Txt K mg t):Binds K t.d_Jp ["self","end"] []:=bi2 T.F_Jp
theorem wo (T:Txt K mg t):Binds K t.d_Jq ["self","rod"] []:=bi2 T.F_Jq
theorem wk (T:Txt K mg t):Binds K t.d_Jz ["self","piece"] []:=bi2 T.F_Jz
theorem wy (T:Txt K mg t):Binds K t.d_Jb ["self","end"] []:=bi2 T.F_Jb
theorem wn (T:Txt K mg t):Binds K t.d_Jr ["self","piece"] []:=bi2 T.F_Jr
theorem b_J01 (T:Txt K mg t):Binds K t.d_J01 ["self"] []:=bi1 T.F_J01
theorem wv (T:Txt K mg t):Binds K t.d_Ji ["self","rod","side"] []:=bi3 T.F_Ji
theorem b_J6 (T:Txt K mg t):Binds K t.d_J6 ["self"] []:=bi1 T.F_J6
theorem wm (T:Txt K mg t):Binds K t.d_Js ["self"] []:=bi1 T.F_Js
theorem b_Jc (T:Txt K mg t):Binds K t.d_Jc ["self"] []:=bi1 T.F_Jc
theorem b_Jj (T:Txt K mg t):Binds K t.d_Jj ["self"] []:=bi1 T.F_Jj
theorem b_Jt (T:Txt K mg t):Binds K t.d_Jt ["self","piece"] []:=bi2 T.F_Jt
theorem rF (T:Txt K mg t):∃ ds:List Value,Vals [] ds/\Binds K t.d_Jx ["self","kind","note","rod"] ds:=by
 obtain⟨Td,od,n,sl,tk0,e1,e2⟩:=T.D_Jx
 obtain⟨oc,od2,kV,doc,pm,an,cdv,ct,osl,e3,lk,hcd⟩:=T.F_Jx.ex
 refine⟨[],.nil,fun s us X hl=>?_⟩
 have hl2:us.length=4:=by simpa using hl
 rw[e3,e1]
 obtain⟨u0,w0,rfl,g0⟩:=lS_ hl2
 obtain⟨u1,w1,rfl,g1⟩:=lS_ g0
 obtain⟨u2,w2,rfl,g2⟩:=lS_ g1
 obtain⟨u3,w3,rfl,g3⟩:=lS_ g2
 cases l0_ g3
 exact W.binds_K X rfl e2 rfl rfl rfl
theorem mU (T:Txt K mg t):∃ ds:List Value,Vals [.int 1] ds/\Binds K t.d_J9 ["self","side"] ds:=by
 obtain⟨Td,od,n,sl,tk0,e1,e2⟩:=T.D_J9
 obtain⟨oc,od2,kV,doc,pm,an,cdv,ct,osl,e3,lk,hcd⟩:=T.F_J9.ex
 refine⟨[.int 1 tk0],.cons ⟨_,U⟩ (.nil),fun s us X hl=>?_⟩
 have hl2:us.length=1:=by simpa using hl
 rw[e3,e1]
 obtain⟨u0,w0,rfl,g0⟩:=lS_ hl2
 cases l0_ g0
 exact W.binds_K X rfl e2 rfl rfl rfl
end
def IxA (K:PySem.W.Frag) (σ:St) (H:Hp) (i j:Nat) (k:Int) (v:V):Prop:=∃ d xs a,σ[i]?=some (some (V.ref d))/\σ[j]?=some (some (V.int a))/\SqL K H d xs/\atI xs (a+k)=some v
def tIxA (K:PySem.W.Frag) (i j:Nat) (k:Int):TE:=fun σ H Q=>∃ v,IxA K σ H i j k v/\Q v H
theorem cy {X:Cx}{i j:Nat}{k:Int}{e:Expr} (h:PE X e (tOp (wa X.K) (dg i) (tOp (rI0 fun i j=>.int (i+j)) (dg j) (tC (.int k))))):PE X e (tIxA X.K i j k) :=
 fun pins s σ H Q I ⟨_,⟨d,_,_,e1,e2,h1,h2⟩,q⟩=>h pins s σ H Q I ⟨_,e1,_,e2,_,_,U,U,d,_,_,_,U,U,h1,h2,q⟩
def DGv (σ:St) (H:Hp) (i:Nat) (k:Str) (v:V):Prop:=∃ m,σ[i]?=some (some (V.ref m))/\DGet H m (.str k) (some v)
def tDV (i:Nat) (k:Str):TE:=fun σ H Q=>∃ v,DGv σ H i k v/\Q v H
theorem aB {X:Cx}{i:Nat}{k:Str}{e:Expr} (h:PE X e (rS (dg i) (tC (.str k)))):PE X e (tDV i k) :=
 fun pins s σ H Q I ⟨v,⟨m,e1,g⟩,q⟩=>h pins s σ H Q I ⟨_,e1,m,v,U,g,q⟩
def Dr (ds:List Int):Prop:=∀ d ∈ ds,0<=d/\d<10 ^ 18
inductive sp_draws (K:PySem.W.Frag) (vs:List V) (H:Hp) (Q:VK) (E_:XK):Prop
 | mk (a:Addr) (ns:List Int) (n:Int) (L:Kn) (_:vs=[.ref a,.int n]) (_:SqL K H a (ns.map V.int)) (_:ns.length<=63) (_:0<=n) (_:n<=1000) (_:Has H L) (_:∀ H' p ds,Has H' ((p,.lst (ds.map V.int))::L)->ds.length=n.toNat->Dr ds->Q (.ref p) H'):sp_draws K vs H Q E_
section
variable {P:Program}{w:World}{K:PySem.W.Frag}{mg:Str->Option Value}{base:Heap}{t:Adr}
theorem scD:FnScope ["_law_script","_law_many_here","_law_row","_law_base","_law_cell","_law_left","_law_turn_here"] ["_law_script","_law_many_here"] (aj lN):={}
theorem Dr.snoc {ds:List Int}{d:Int} (h:Dr ds) (h0:0<=d) (h1:d<10 ^ 18):Dr (ds++[d]):=fun x hx=>by
 rcases xb.mp hx with hx | hx
 ·exact h x hx
 ·have:x=d:=by simpa using hx
  subst this; exact⟨h0,h1⟩
theorem iA (ds:List Int) (d:Int):ds.map V.int++[V.int d]=(ds++[d]).map V.int:=by simp
theorem pw (T:Txt K mg t):FnOk P w K mg base CX0 1 t.f_draws t.d_draws ["_law_script","_law_many_here"] (sp_draws K):=by
 refine T.F_draws.ok scD (fun vs H Q E h=>?_) (fun cdv A outer s H vs Q E hr h=>?_)
 ·obtain⟨_,_,_,_,rfl,_⟩:=h
  rfl
 ·obtain⟨a,ns,n,L,rfl,hS,hns,hn0,hn1,hL,k⟩:=h
  refine⟨_,(ae (ax (i:=2) scD.nd rfl (Or.inl rfl) (aN af))
   (ae (ax (i:=3) scD.nd rfl (Or.inl rfl) ai)
   (ae (cK PassesOwn.never rfl (gT (hZ jA (pv 0) jF (jE ai))) (aI (i:=4) scD.nd rfl (Or.inl rfl))
    (ae (ax (i:=5) scD.nd rfl (Or.inl rfl) (ay qp (by rfl) T.z_abs (by rfl) (aa (pv 4) af)))
     (ae (ax (i:=3) scD.nd rfl (Or.inl rfl) (aC bt (aC ba (aC ba (aC fB (pv 3) ai) (pv 5)) (aC fB ai (aZ nU (by rfl) T.z_int (by rfl) (aa (bC cG (pv 4) ai (am _)) af)))) ai))
     (ag (au (ak cG (pv 5) (aC tY ai ai) (am _))
      (ag (av (fi PySem.F.plainAttrs_list PySem.F.slot_list_append PySem.F.type_list_append bW (pv 2) (aa (pv 5) af))))
      (ag (cK PassesOwn.never rfl (cu (by rfl) T.z_range (aa ai af)) (aI (i:=6) scD.nd rfl (Or.inl rfl))
        (ag (au (ak fO (pv 5) ai (am _))
          (ae (av (fi PySem.F.plainAttrs_list PySem.F.slot_list_append PySem.F.type_list_append bW (pv 2) (aa (aC bt (pv 5) ai) af)))
           (ag (ax (i:=5) scD.nd rfl (Or.inl rfl) (aC fQ (pv 5) ai))))
          al)))))))))
   (ae (cV PassesOwn.never (ak cG (ay aL (by rfl) T.z_len (by rfl) (aa (pv 2) af)) (pv 1) (am _))
    (ae (ax (i:=3) scD.nd rfl (Or.inl rfl) (aC bt (aC ba (aC fB (pv 3) ai) ai) ai))
     (ag (av (fi PySem.F.plainAttrs_list PySem.F.slot_list_append PySem.F.type_list_append bW (pv 2) (aa (aC bt (aC fQ (aC fB (pv 3) (pv 3)) ai) ai) af))))))
   (ag (ap (hZ jA (pv 2) jF (jE (pv 1))))))))),?_⟩
  refine⟨by decide,fun r hr0=>?_⟩
  have h1:=hL.alloc hr0 (.lst [])
  have hS1:SqL K (upd H r (.lst [])) a (ns.map V.int):=hS.alloc hr0
  generalize upd H r (.lst [])=H1 at *
  refine⟨_,U,_,U,a,_,U,hS1,fun sl hsl=>?_⟩
  have h2:=h1.alloc hsl (.lst (f7 (ns.map V.int) none (some 63)))
  generalize upd H1 sl (.lst (f7 (ns.map V.int) none (some 63)))=H2 at *
  refine⟨sl,U,⟨_,SqL.of (h2.get 0 U)⟩,?_⟩
  refine kF (K:=K) (a:=sl) (xs:=f7 (ns.map V.int) none (some 63)) (fun i σ H'=>∃ (row:List Int) (b:Int) (c l t:Option V),σ=[some (.ref a),some (.int n),some (.ref r),some (.int b),c,l,t] /\
   Has H' ((r,.lst (row.map V.int))::(sl,.lst (f7 (ns.map V.int) none (some 63)))::L)/\row.length<=60*i/\Dr row/\0<=b/\b<2147483647)
   ⟨[],7,none,none,none,U,h2.swap2,Nat.zero_le _,(fun _ h=>nomatch h),by decide,by decide⟩ (fun i σ H' _ ⟨row,b,c,l,t,_,h,_⟩=>SqL.of (h.get 1 U)) ?_ ?_
  ·rintro i y σ H' hi ⟨row,b,c,l,t,rfl,h3,hlen,hd,b0,b1⟩
   have hi63:i<63:=by
    have h5:=(List.getElem?_eq_some_iff.mp hi).1
    rw[eU _ _ (by decide),wV,wF] at h5
    omega
   obtain⟨z,rfl⟩:∃ z,y=V.int z:=by
    rw[eU _ _ (by decide),List.getElem?_take_of_lt (by omega),wM] at hi
    cases e:ns[i]? with
    | none=>rw[e] at hi; cases hi
    | some z=>rw[e] at hi; exact⟨z,(Option.some.inj hi).symm⟩
   refine⟨_,U,_,U,?_⟩
   have hab:0<=(if z<0 then -z else z):=by split <;> omega
   generalize (if z<0 then -z else z)=left at *
   refine⟨_,U,_,_,U,U,.inl ⟨by omega,by omega⟩,_,U,_,_,U,U,_,U,_,_,U,U,.inr ⟨_,U,_,_,U,U,.inl ⟨by decide,by decide⟩,_,_,U,U,_,_,U,U,(show(0:Int)<2147483647 by decide),?_⟩⟩
   have hb0:=Int.emod_nonneg (b*48271+left+2*(if decide (z<0)=true then 1 else 0)) (show(2147483647:Int)≠0 by decide)
   have hb1:=Int.emod_lt_of_pos (b*48271+left+2*(if decide (z<0)=true then 1 else 0)) (show(0:Int)<2147483647 by decide)
   refine⟨_,U,_,_,U,U,⟨by decide,by decide,by decide⟩,_,_,U,U,_,U,?_⟩
   refine kB (fun hc=>?_) (fun hc=>?_)
   ·have hc':left<10 ^ 18:=of_decide_eq_true hc
    refine⟨_,U,.inl ⟨U,_,SqL.of (h3.get 0 U)⟩,_,U,r,_,_,U,U,h3.get 0 U,?_,?_⟩
    ·rw[wF]
     exact aS (by omega)
    ·refine⟨row++[left],_,_,_,_,U,?_,?_,hd.snoc hab hc',hb0,hb1⟩
     ·rw[<- iA]
      exact h3.puti 0 U _
     ·rw[wK,wT]; omega
   ·-- for turn in range(60)
    refine⟨_,U,by decide,by decide,cw (n:=60) (fun j σ H2=>∃ (row2:List Int) (l2:Int) (t2:Option V) (b2:Int),0<=b2/\b2<2147483647/\σ=[some (.ref a),some (.int n),some (.ref r),some (.int b2),some (.int z),some (.int l2),t2] /\
     Has H2 ((r,.lst (row2.map V.int))::(sl,.lst (f7 (ns.map V.int) none (some 63)))::L)/\row2.length<=row.length+j/\Dr row2/\0<=l2) ⟨row,_,_,_,hb0,hb1,U,h3,Nat.le_add_right _ _,hd,hab⟩ ?_ ?_⟩
    ·rintro j σ H2 hj ⟨row2,l2,t2,b2,hb20,hb21,rfl,h4,hlen2,hd2,hl2⟩
     refine⟨_,U,_,_,U,U,_,U,?_⟩
     refine kB (fun hc2=>?_) (fun hc2=>?_)
     ·refine⟨_,U,.inl ⟨U,_,SqL.of (h4.get 0 U)⟩,_,U,_,_,U,U,(show(0:Int)<10007 by decide),r,_,_,U,U,h4.get 0 U,?_,?_⟩
      ·rw[wF]
       exact aS (by omega)
      ·refine⟨_,U,_,_,U,U,⟨by decide,by decide⟩,?_⟩
       refine⟨row2++[l2 % 10007],_,_,_,hb20,hb21,U,?_,?_,hd2.snoc (Int.emod_nonneg _ (by decide)) (Int.lt_trans (Int.emod_lt_of_pos _ (by decide)) (by decide)),Int.ediv_nonneg hl2 (by decide)⟩
       ·rw[<- iA]
        exact h4.puti 0 U _
       ·rw[wK,wT]; omega
     ·exact⟨row2,l2,_,b2,hb20,hb21,U,h4,by omega,hd2,hl2⟩
    ·rintro σ H2 ⟨row2,l2,t2,b2,hb20,hb21,rfl,h4,hlen2,hd2,hl2⟩
     exact⟨row2,b2,_,_,_,U,h4,by omega,hd2,hb20,hb21⟩
  ·rintro σ H' ⟨row,b,c,l,t,rfl,h3,hlen,hd,b0,b1⟩
   have hlx:(f7 (ns.map V.int) none (some 63)).length<=63:=by
    rw[eU _ _ (by decide),wV]; omega
   refine nX (fun σ H'=>∃ (row:List Int) (b:Int) (c l t:Option V),σ=[some (.ref a),some (.int n),some (.ref r),some (.int b),c,l,t]/\Has H' ((r,.lst (row.map V.int))::L)/\row.length<=4000/\Dr row/\0<=b/\b<2147483647)
    (fun σ H'=>match H' r with | some (.lst xs)=>n.toNat - xs.length | _=>0) ⟨row,b,c,l,t,U,h3.swap2.tail,by omega,hd,b0,b1⟩ ?_ ?_
   ·rintro σ H' ⟨row,b,c,l,t,rfl,h4,hlen,hd,b0,b1⟩
    refine⟨_,U,r,_,U,.inl (SqL.of (h4.get 0 U)),_,U,_,_,U,U,_,U,?_⟩
    rw[wF]
    refine kB (fun hc=>?_) (fun hc=>?_)
    ·have hc':(row.length:Int)<n:=of_decide_eq_true hc
     refine⟨_,U,_,_,U,U,.inl ⟨by omega,by omega⟩,_,_,U,U,_,_,U,U,(show(0:Int)<2147483647 by decide),?_⟩
     have hb0:=Int.emod_nonneg (b*69621+12289) (show(2147483647:Int)≠0 by decide)
     have hb1:=Int.emod_lt_of_pos (b*69621+12289) (show(0:Int)<2147483647 by decide)
     refine⟨_,U,.inl ⟨U,_,SqL.of (h4.get 0 U)⟩,_,U,_,U,_,_,U,U,.inl ⟨?_,?_⟩,_,_,U,U,⟨by decide,by decide⟩,_,_,U,U,(show(0:Int)<10007 by decide),r,_,_,U,U,h4.get 0 U,?_,?_⟩
     ·show -(2 ^ 64)<(b*69621+12289) % 2147483647
      omega
     ·show(b*69621+12289) % 2147483647<2 ^ 64
      omega
     ·rw[wF]
      exact aS (by omega)
     ·have hq0:=Int.emod_nonneg ((b*69621+12289) % 2147483647*((b*69621+12289) % 2147483647) / 4099) (show(10007:Int)≠0 by decide)
      have hq1:=Int.emod_lt_of_pos ((b*69621+12289) % 2147483647*((b*69621+12289) % 2147483647) / 4099) (show(0:Int)<10007 by decide)
      refine⟨⟨row++[(b*69621+12289) % 2147483647*((b*69621+12289) % 2147483647) / 4099 % 10007],_,_,_,_,U,?_,?_,hd.snoc hq0 (Int.lt_trans hq1 (by decide)),hb0,hb1⟩,?_⟩
      ·rw[<- iA]
       exact h4.puti 0 U _
      ·rw[wK,wT]; omega
      ·have e1:H' r=some (.lst (row.map V.int)):=h4.get 0 rfl
       simp only[e1,bz,wK,wF,wT]
       omega
    ·have hc':¬ (row.length:Int)<n:=fun z=>hc (decide_eq_true z)
     refine⟨_,U,_,U,_,U,r,_,U,SqL.of (h4.get 0 U),fun p hp=>?_⟩
     refine k _ p (row.take n.toNat) ?_ (by rw[wV]; omega) (fun d hd'=>hd d (List.mem_of_mem_take hd'))
     have h5:=(h4.tail).alloc hp (.lst (f7 (row.map V.int) none (some n)))
     rw[eU _ _ hn0,<- List.map_take] at h5 ⊢
     exact h5
   ·rintro σ H' Q1 Q2 hQ ⟨v,e,p,ys,e2,h,w',e3,i,j,e4,e5,c,e6,q⟩
    exact⟨v,e,p,ys,e2,h,w',e3,i,j,e4,e5,c,e6,hQ _ _ q⟩
end
def om:Sp:=fun vs H Q _=>∃ i:Int,vs=[.int i]/\Q (.bl true) H
def ot:Sp:=fun vs H Q _=>∃ i j:Int,vs=[.int i,.int j]/\Q (.bl (decide (i=j))) H
theorem uH (K:PySem.W.Frag):W.kitOne K (.type "int") (.type "int")=some true:=by kernel_rfl
theorem uI (K:PySem.W.Frag):W.kitOne K (.type "int") (.type "bool")=some false:=by kernel_rfl
theorem pS (K:PySem.W.Frag):W.kitOne K (.type "tuple") (.type "tuple")=some true:=by kernel_rfl
theorem uG (K:PySem.W.Frag):W.kitOne K (.type "list") (.type "list")=some true:=by kernel_rfl
section
variable {P:Program}{w:World}{K:PySem.W.Frag}{mg:Str->Option Value}{base:Heap}{t:Adr}
theorem scWh:FnScope ["_law_found"] ["_law_found"] (aj lH):={}
theorem ko (T:Txt K mg t):FnOk P w K mg base CX0 1 t.f_whole t.d_whole ["_law_found"] om:=by
 refine T.F_whole.ok scWh (fun vs H Q E h=>?_) (fun cdv A outer s H vs Q E hr h=>?_)
 ·obtain⟨_,rfl,_⟩:=h
  rfl
 ·obtain⟨i,rfl,k⟩:=h
  refine⟨_,(ag (ap (fA (ay eV (by rfl) T.z_isinstance (by rfl) (aa (pv 0) (aa (eW (v:=.ty "int") (by rfl) T.z_int (by rfl) rfl) af))) (fz (o0 (ay eV (by rfl) T.z_isinstance (by rfl) (aa (pv 0) (aa (eW (v:=.ty "bool") (by rfl) T.z_bool (by rfl) rfl) af)))))))),?_⟩
  refine⟨_,U,_,_,_,_,U,.int i,uH K,_,U,cP ?_⟩
  exact⟨_,U,_,_,_,_,U,.int i,uI K,_,U,k⟩
theorem scIs:FnScope ["_law_found","_law_due_here"] ["_law_found","_law_due_here"] (aj vv):={}
theorem fR (T:Txt K mg t):FnOk P w K mg base CX0 2 t.f_is t.d_is ["_law_found","_law_due_here"] ot:=by
 refine T.F_is.ok scIs (fun vs H Q E h=>?_) (fun cdv A outer s H vs Q E hr h=>?_)
 ·obtain⟨_,_,rfl,_⟩:=h
  rfl
 ·obtain⟨i,j,rfl,k⟩:=h
  refine⟨_,(ag (ap (fA (pcl (ko T) hr T.m_whole T.F_whole.kp (mP T) (aa (pv 0) af)) (fz (bC bp (pv 0) (pv 1) (am _)))))),?_⟩
  refine⟨_,U,i,U,_,U,cP ?_⟩
  refine⟨_,U,_,U,U,?_⟩
  have e:decide (V.int i=V.int j)=decide (i=j):=by by_cases h:i=j <;> simp[h]
  rw[e]
  exact k
end
inductive Kd where | line | bell | still | lazy | turning | stop
 deriving DecidableEq
def Kd.str:Kd->Str
 | .line => "line" | .bell => "bell" | .still => "still" | .lazy => "lazy" | .turning => "turning" | .stop => "stop"
def Kd.many:Kd->Int
 | .line=>2 | .bell=>2 | .still=>3 | .lazy=>3 | .turning=>3 | .stop=>1
def Kd.point:Kd->Bool
 | .still=>true | .lazy=>true | .turning=>true | _=>false
def endsD:List (Str×PyData):=[("line",.int 2),("bell",.int 2),("stop",.int 1),("still",.int 3),("lazy",.int 3),("turning",.int 3)]
theorem Kd.inEnds (k:Kd):(endsD.any fun p=>decide (k.str=p.1))=true:=by cases k <;> decide +kernel
theorem Kd.atEnds (k:Kd):endsD.lookup k.str=some (.int k.many):=by cases k <;> rfl
theorem nM:(endsD.all fun p=>match p.2 with | .int _=>true | _=>false)=true:=by decide +kernel
theorem Kd.inPoints (k:Kd):inV (.str k.str) [.str "still",.str "lazy",.str "turning"]=k.point:=by cases k <;> decide +kernel
theorem Kd.isStop (k:Kd):decide (V.str k.str=V.str "stop")=decide (k=.stop):=by cases k <;> decide +kernel
theorem Kd.isTurning (k:Kd):decide (V.str k.str=V.str "turning")=decide (k=.turning):=by cases k <;> decide +kernel
theorem Kd.isLazy (k:Kd):decide (V.str k.str=V.str "lazy")=decide (k=.lazy):=by cases k <;> decide +kernel
theorem Kd.isBell (k:Kd):decide (V.str k.str=V.str "bell")=decide (k=.bell):=by cases k <;> decide +kernel
theorem Kd.isLine (k:Kd):decide (V.str k.str=V.str "line")=decide (k=.line):=by cases k <;> decide +kernel
def Kd.out (k:Kd) (e s:Int):V:=if k=.stop then .non else if k.point then(if e=0 then .int s else .int 0) else .int (1 - e)
def Kd.side (k:Kd) (e s:Int):Int:=if k.point then(if e=0 then(if k=.turning then 3 - s else s) else(if k=.lazy then e else s)) else s
def ou:Sp:=fun vs H Q _=>∃ k:Kd,vs=[.str k.str]/\Q (.int k.many) H
def rT:Sp:=fun vs H Q _=>∃ k:Kd,vs=[.str k.str]/\Q (.bl k.point) H
inductive sp_Jl (vs:List V) (H:Hp) (Q:VK) (E_:XK):Prop
 | mk (k:Kd) (e:Int) (_:vs=[.str k.str,.int e]) (_:0<=e) (_:e<k.many) (_:Q .non H):sp_Jl vs H Q E_
inductive sp_Jd (vs:List V) (H:Hp) (Q:VK) (E_:XK):Prop
 | mk (s:Int) (_:vs=[.int s]) (_:(s=1∨s=2)) (_:Q .non H):sp_Jd vs H Q E_
inductive sp_J51 (vs:List V) (H:Hp) (Q:VK) (E_:XK):Prop
 | mk (k:Kd) (e s:Int) (v:V) (_:vs=[.str k.str,.int e,v]) (_:0<=e) (_:e<k.many) (_:(k.point=true->v=.int s/\(s=1∨s=2))) (_:∀ p,H p=none->Q (.ref p) (upd H p (.tup [k.out e s,if k.point then .int (k.side e s) else v]))):sp_J51 vs H Q E_
inductive sp_J7 (vs:List V) (H:Hp) (Q:VK) (E_:XK):Prop
 | mk (k:Kd) (e s:Int) (_:vs=[.str k.str,.int e,.int s]) (_:k.point=true) (_:∀ p,H p=none->Q (.ref p) (upd H p (.tup [k.out e s,.int (k.side e s)]))):sp_J7 vs H Q E_
section
variable {P:Program}{w:World}{K:PySem.W.Frag}{mg:Str->Option Value}{base:Heap}{t:Adr}
theorem fE (i j:Int):decide (V.int i=V.int j)=decide (i=j):=by by_cases h:i=j <;> simp[h]
theorem vn:FnScope ["kind"] ["kind"] (aj r9):={}
theorem k9 (T:Txt K mg t):FnOk P w K mg base CX0 1 t.f_J61 t.d_J61 ["kind"] ou:=by
 refine T.F_J61.ok vn (fun vs H Q E h=>?_) (fun cdv A outer s H vs Q E hr h=>?_)
 ·obtain⟨_,rfl,_⟩:=h
  rfl
 ·obtain⟨k,rfl,q⟩:=h
  obtain⟨aE,eE,hE⟩:=T.x_ENDS
  have T_r_ENDS:RelV (.ref aE) t.u_ENDS:=by rw[eE]; rfl
  refine⟨_,(ae (au (ak eZ (pv 0) (aQ (by rfl) T.g_ENDS T_r_ENDS) (by rfl))
    (ag bU)
    al)
   (ag (ap (aR wg (aQ (by rfl) T.g_ENDS T_r_ENDS) (pv 0))))),?_⟩
  refine⟨_,U,_,aE,endsD,U,U,hE,_,U,?_⟩
  rw[k.inEnds]
  exact⟨_,U,_,aE,endsD,_,U,U,hE,k.atEnds,nM,q⟩
theorem vj:FnScope ["kind"] ["kind"] (aj vB):={}
theorem lZ (T:Txt K mg t):FnOk P w K mg base CX0 1 t.f_Jv t.d_Jv ["kind"] rT:=by
 refine T.F_Jv.ok vj (fun vs H Q E h=>?_) (fun cdv A outer s H vs Q E hr h=>?_)
 ·obtain⟨_,rfl,_⟩:=h
  rfl
 ·obtain⟨k,rfl,q⟩:=h
  obtain⟨aE,eE,hE⟩:=T.x_ENDS
  have T_r_ENDS:RelV (.ref aE) t.u_ENDS:=by rw[eE]; rfl
  obtain⟨aP,oP,its,n,eP,h1,h2,h3,h4,h5⟩:=T.x_POINTS
  have T_r_POINTS:RelV (.ref aP) t.u_POINTS:=by rw[eP]; rfl
  refine⟨_,(ae (au (ak eZ (pv 0) (aQ (by rfl) T.g_ENDS T_r_ENDS) (by rfl))
    (ag bU)
    al)
   (ag (ap (bC jf (pv 0) (aQ (by rfl) T.g_POINTS T_r_POINTS) (by rfl))))),?_⟩
  refine⟨_,U,_,aE,endsD,U,U,hE,_,U,?_⟩
  rw[k.inEnds]
  refine⟨_,U,aP,_,U,.inr (.inr ⟨oP,its,n,h1,h2,h3,h4,h5⟩),U,by decide,?_⟩
  rw[if_neg Bool.false_ne_true,k.inPoints]
  exact q
theorem scCe:FnScope ["kind","end","many"] ["kind","end"] (aj vL):={}
theorem py (T:Txt K mg t):FnOk P w K mg base CX0 2 t.f_Jl t.d_Jl ["kind","end"] sp_Jl:=by
 refine T.F_Jl.ok scCe (fun vs H Q E h=>?_) (fun cdv A outer s H vs Q E hr h=>?_)
 ·obtain⟨_,_,rfl,_⟩:=h
  rfl
 ·obtain⟨k,e,rfl,e0,e1,q⟩:=h
  refine⟨_,(ae (ax (i:=2) scCe.nd rfl (Or.inl rfl) (pcl (k9 T) hr T.m_J61 T.F_J61.kp (mS T) (aa (pv 0) af)))
   (ag (au (PW.pt (cQ (ak cG (pv 1) ai (am _)) (ck (ak ii (pv 1) (pv 2) (am _)))))
    (ag bU)
    al))),?_⟩
  refine⟨_,U,k,U,?_⟩
  refine⟨_,U,_,_,U,U,_,U,?_⟩
  refine ifF (decide_eq_false (by omega)) ?_
  refine⟨_,U,_,U,_,_,U,U,_,U,?_⟩
  exact ifF (decide_eq_false (by omega)) q
theorem vo:FnScope ["side"] ["side"] (aj vT):={}
theorem l9 (T:Txt K mg t):FnOk P w K mg base CX0 1 t.f_Jd t.d_Jd ["side"] sp_Jd:=by
 refine T.F_Jd.ok vo (fun vs H Q E h=>?_) (fun cdv A outer s H vs Q E hr h=>?_)
 ·obtain⟨_,rfl,_⟩:=h
  rfl
 ·obtain⟨z,rfl,hz,q⟩:=h
  refine⟨_,(ag (au (PW.pt (bM (ak ig (pv 0) ai (am _)) (bq (ak ig (pv 0) ai (am _)))))
    (ag bU)
    al)),?_⟩
  refine⟨_,U,U,_,U,?_⟩
  rw[fE]
  refine re (fun hc=>?_) (fun hc=>bL q)
  refine⟨_,U,U,_,U,?_⟩
  rw[fE]
  exact ifF (by simp; omega) q
theorem scPp:FnScope ["kind","end","side"] ["kind","end","side"] (aj vZ):={}
theorem ok_J7 (T:Txt K mg t):FnOk P w K mg base CX0 1 t.f_J7 t.d_J7 ["kind","end","side"] sp_J7:=by
 refine T.F_J7.ok scPp (fun vs H Q E h=>?_) (fun cdv A outer s H vs Q E hr h=>?_)
 ·obtain⟨_,_,_,rfl,_⟩:=h
  rfl
 ·obtain⟨k,e,z,rfl,hk,q⟩:=h
  have ns:¬ k=.stop:=fun h=>by rw[h] at hk; cases hk
  refine⟨_,(ae (au (ak bp (pv 1) (aQ (by rfl) T.g_STEM T.r_STEM) (am _))
    (ag (ap (aF (aa (pv 2) (aa (dO (ak bp (pv 0) ah (am _)) (aC dD ai (pv 2)) (pv 2)) af)))))
    al)
   (ag (ap (aF (aa (aQ (by rfl) T.g_STEM T.r_STEM) (aa (dO (ak bp (pv 0) ah (am _)) (pv 1) (pv 2)) af)))))),?_⟩
  refine⟨_,U,U,_,U,?_⟩
  rw[fE]
  refine kB (fun hc=>?_) (fun hc=>?_)
  ·have he:e=0:=of_decide_eq_true hc
   refine⟨_,U,_,U,U,_,U,?_⟩
   rw[k.isTurning]
   have o1:k.out e z=.int z:=by unfold Kd.out; rw[if_neg ns,if_pos hk,if_pos he]
   have o2:k.side e z=if k=.turning then 3 - z else z:=by unfold Kd.side; rw[if_pos hk,if_pos he]
   rw[o1,o2] at q
   refine kB (fun hc=>?_) (fun hc=>?_)
   ·rw[if_pos (of_decide_eq_true hc)] at q
    exact⟨_,U,_,_,U,U,(show 2<=sizeLine by decide),fun p hp=>q p hp⟩
   ·rw[if_neg (fun h=>hc (decide_eq_true h))] at q
    exact⟨_,U,(show 2<=sizeLine by decide),fun p hp=>q p hp⟩
  ·have he:¬ e=0:=fun h=>hc (decide_eq_true h)
   refine⟨_,U,U,_,U,?_⟩
   rw[k.isLazy]
   have o1:k.out e z=.int 0:=by unfold Kd.out; rw[if_neg ns,if_pos hk,if_neg he]
   have o2:k.side e z=if k=.lazy then e else z:=by unfold Kd.side; rw[if_pos hk,if_neg he]
   rw[o1,o2] at q
   refine kB (fun hc=>?_) (fun hc=>?_)
   ·rw[if_pos (of_decide_eq_true hc)] at q
    exact⟨_,U,(show 2<=sizeLine by decide),fun p hp=>q p hp⟩
   ·rw[if_neg (fun h=>hc (decide_eq_true h))] at q
    exact⟨_,U,(show 2<=sizeLine by decide),fun p hp=>q p hp⟩
theorem scPa:FnScope ["kind","end","side"] ["kind","end","side"] (aj sf):={}
theorem uc (T:Txt K mg t):FnOk P w K mg base CX0 3 t.f_J51 t.d_J51 ["kind","end","side"] sp_J51:=by
 refine T.F_J51.ok scPa (fun vs H Q E h=>?_) (fun cdv A outer s H vs Q E hr h=>?_)
 ·obtain⟨_,_,_,_,rfl,_⟩:=h
  rfl
 ·obtain⟨k,e,z,v,rfl,e0,e1,hs,q⟩:=h
  refine⟨_,(ae (av (pcl (py T) hr T.m_Jl T.F_Jl.kp (vb T) (aa (pv 0) (aa (pv 1) af))))
   (ae (au (bj (pcl (lZ T) hr T.m_Jv T.F_Jv.kp (rD T) (aa (pv 0) af)))
    (ae (av (pcl (l9 T) hr T.m_Jd T.F_Jd.kp (qu T) (aa (pv 2) af)))
     (ag (ap (pcl (ok_J7 T) hr T.m_J7 T.F_J7.kp (b_J7 T) (aa (pv 0) (aa (pv 1) (aa (pv 2) af)))))))
    al)
   (ae (au (ak bp (pv 0) ah (am _))
    (ag (ap (aF (aa aK (aa (pv 2) af)))))
    al)
   (ag (ap (aF (aa (aC dD ai (pv 1)) (aa (pv 2) af)))))))),?_⟩
  refine⟨_,U,_,U,k,e,U,e0,e1,?_⟩
  refine⟨_,U,k,U,_,U,?_⟩
  refine kB (fun hc=>?_) (fun hc=>?_)
  ·obtain⟨rfl,hz⟩:=hs hc
   rw[if_pos hc] at q
   exact⟨_,U,z,U,hz,_,U,_,U,_,U,k,e,z,U,hc,q⟩
  ·rw[if_neg hc] at q
   refine⟨_,U,U,_,U,?_⟩
   rw[k.isStop]
   refine kB (fun hc2=>?_) (fun hc2=>?_)
   ·have hk:k=.stop:=of_decide_eq_true hc2
    subst hk
    exact⟨_,U,(show 2<=sizeLine by decide),fun p hp=>q p hp⟩
   ·have hk:¬ k=.stop:=fun h=>hc2 (decide_eq_true h)
    have o1:k.out e z=.int (1 - e):=by unfold Kd.out; rw[if_neg hk,if_neg hc]
    rw[o1] at q
    exact⟨_,U,_,_,U,U,_,U,(show 2<=sizeLine by decide),fun p hp=>q p hp⟩
end
def qE:Sp:=fun vs H Q _=>∃ k:Kd,vs=[.str k.str]/\Q (.int k.many) H
section
variable {P:Program}{w:World}{K:PySem.W.Frag}{mg:Str->Option Value}{base:Heap}{t:Adr}
theorem scMa:FnScope ["_law_kind_here"] ["_law_kind_here"] (aj oJ):={}
theorem e9 (T:Txt K mg t):FnOk P w K mg base CX0 1 t.f_many t.d_many ["_law_kind_here"] qE:=by
 refine T.F_many.ok scMa (fun vs H Q E h=>?_) (fun cdv A outer s H vs Q E hr h=>?_)
 ·obtain⟨_,rfl,_⟩:=h
  rfl
 ·obtain⟨k,rfl,q⟩:=h
  refine⟨_,(ae (au (ak bp (pv 0) ah (am _))
    (ag (ap ai))
    al)
   (ae (au (PW.pt (cQ (ak bp (pv 0) ah (am _)) (ck (ak bp (pv 0) ah (am _)))))
    (ag (ap ai))
    al)
   (ag (ap ai)))),?_⟩
  refine⟨_,U,U,_,U,?_⟩
  rw[k.isStop]
  refine ifd (fun h=>?_) (fun h1=>?_)
  ·subst h; exact q
  refine⟨_,U,U,_,U,?_⟩
  rw[k.isLine]
  refine ifd (fun h=>?_) (fun h2=>?_)
  ·subst h; exact cP q
  refine⟨_,U,U,_,U,?_⟩
  rw[k.isBell]
  refine ifd (fun h=>?_) (fun h3=>?_)
  ·subst h; exact q
  have e:k.many=3:=by cases k <;> first | rfl | contradiction
  rw[e] at q
  exact q
end
theorem Kd.out_point {k:Kd} (h:k.point=true) (e s:Int):k.out e s=if e=0 then .int s else .int 0:=by
 have ns:¬ k=.stop:=fun h'=>by rw[h'] at h; cases h
 unfold Kd.out; rw[if_neg ns,if_pos h]
theorem Kd.out_int {k:Kd} (h:¬ k=.stop) (e s:Int):∃ i,k.out e s=.int i:=by
 unfold Kd.out; rw[if_neg h]
 split
 ·split
  ·exact⟨_,U⟩
  ·exact⟨_,U⟩
 ·exact⟨_,U⟩
theorem Kd.many_point {k:Kd} (h:k.point=true):k.many=3:=by cases k <;> first | rfl | cases h
theorem Kd.side12 {k:Kd}{e s:Int} (e0:0<=e) (e1:e<k.many) (h:s=1∨s=2):k.side e s=1∨k.side e s=2:=by
 unfold Kd.side
 split
 ·rename_i hp
  have:=Kd.many_point hp
  split
  ·split <;> omega
  ·split <;> omega
 ·exact h
inductive sp_Ja1 (vs:List V) (H:Hp) (Q:VK) (E_:XK):Prop
 | mk (a b:Addr) (xs ys:List Int) (i j:Nat) (L:Kn) (_:vs=[.ref a,.ref b]) (_:Has H L) (_:L[i]?=some (a,.lst (xs.map V.int))) (_:L[j]?=some (b,.lst (ys.map V.int))) (_:xs.length<=100000) (_:∀ H',Has H' L->Q (.bl (decide (xs=ys))) H'):sp_Ja1 vs H Q E_
theorem qx:∀ {xs ys:List Int},xs.length=ys.length->((xs.zip ys).map fun p=>decide (p.1=p.2)).all id=decide (xs=ys)
 | [],[],_=>rfl
 | x::xs,y::ys,h=>by
  have ih:=qx (xs:=xs) (ys:=ys) (by simpa using h)
  rw[List.zip_cons_cons,wN,List.all_cons,ih]
  by_cases e:x=y
  ·subst e; simp
  ·simp[e]
section
variable {P:Program}{w:World}{K:PySem.W.Frag}{mg:Str->Option Value}{base:Heap}{t:Adr}
theorem scIr:FnScope ["_law_found","_law_due_here"] ["_law_found","_law_due_here"] (aj oR):={}
theorem jI (T:Txt K mg t):FnOk P w K mg base CX0 3 t.f_Ja1 t.d_Ja1 ["_law_found","_law_due_here"] sp_Ja1:=by
 refine T.F_Ja1.ok scIr (fun vs H Q E h=>?_) (fun cdv A outer s H vs Q E hr h=>?_)
 ·obtain⟨_,_,_,_,_,_,_,rfl,_⟩:=h
  rfl
 ·obtain⟨a,b,xs,ys,i,j,L,rfl,hH,hi,hj,hxl,q⟩:=h
  refine⟨_,(ae (au (PW.pt (cQ (bZ (bj (ay eV (by rfl) T.z_isinstance (by rfl) (aa (pv 0) (aa (eW (v:=.ty "list") (by rfl) T.z_list (by rfl) rfl) af))))) (ck (ak ig (ay aL (by rfl) T.z_len (by rfl) (aa (pv 0) af)) (ay aL (by rfl) T.z_len (by rfl) (aa (pv 1) af)) (am _)))))
    (ag (ap cM))
    al)
   (ag (ap (ay (qo rfl) (by rfl) T.z_all (by rfl) (aa (o8 (esc:=aj oR) (k:=2) ["_law_one","_law_other","_law_found","_law_due_here"] rfl (tV (by rfl) T.z_zip (aa (pv 0) (aa (pv 1) af))) (fun _ _ _ _ _=>by exact(lT (K:=K) (n:=2) rfl rfl (aU (aI (i:=0) (show List.Nodup (["_law_one","_law_other","_law_found","_law_due_here"]:List Str) from by decide +kernel) rfl (Or.inl rfl)) (aU (aI (i:=1) (show List.Nodup (["_law_one","_law_other","_law_found","_law_due_here"]:List Str) from by decide +kernel) rfl (Or.inl rfl)) cL)))) (fun _ _ _ _ _=>by exact lQ) (fun _ _ _ _ _=>by exact(pcl (fR T) hr T.m_is T.F_is.kp (jZ T) (aa (pv 0) (aa (pv 1) af)))) rfl (by decide +kernel) (by decide +kernel) rfl (by decide +kernel) (by rfl) (fun _ _ h _=>h) (by decide +kernel)) af))))),?_⟩
  refine⟨_,U,_,_,_,_,U,.lst (hH.get i hi),uG K,_,U,bL ?_⟩
  refine⟨_,U,a,_,U,.inl (SqL.of (hH.get i hi)),_,U,b,_,U,.inl (SqL.of (hH.get j hj)),U,_,U,?_⟩
  rw[wF,wF,fE]
  refine re (fun hc=>?_) (fun hc=>?_)
  ·have e:decide (xs=ys)=false:=decide_eq_false (fun z=>hc (by rw[z]))
   rw[e] at q
   exact q _ hH
  ·have hl:xs.length=ys.length:=by omega
   refine⟨_,U,_,U,a,b,U,⟨_,SqL.of (hH.get i hi)⟩,⟨_,SqL.of (hH.get j hj)⟩,fun D hD=>?_⟩
   refine⟨fun n m zs H'=>m=xs.length - n/\n<=xs.length/\zs=((xs.zip ys).take n).map (fun p=>V.bl (decide (p.1=p.2)))/\Has H' ((D,.lst zs)::L),⟨xs.length,by simp,Nat.zero_le _,U,hH.alloc hD _⟩,?_⟩
   rintro n m zs H' ⟨rfl,hn,rfl,h1⟩
   refine⟨h1.get 0 U,?_⟩
   have ga:=h1.get (i+1) (by simpa using hi)
   have gb:=h1.get (j+1) (by simpa using hj)
   by_cases hlt:n<xs.length
   ·refine .inr ⟨⟨_,_,_,_,SqL.of ga,(by rw[wM,wH hlt]; rfl),SqL.of gb,(by rw[wM,wH (by omega)]; rfl)⟩,?_⟩
    rintro x H2 ⟨p,x1,y1,rfl,hp,rfl,hx1,hy1⟩
    have hx2:=hx1 _ (SqL.of ga)
    have hy2:=hy1 _ (SqL.of gb)
    rw[wM,wH hlt] at hx2
    rw[wM,wH (by omega)] at hy2
    cases hx2
    cases hy2
    have h2:=h1.alloc hp (.tup [.int xs[n],.int (ys[n]'(by omega))])
    refine⟨p,_,U,SqT.of (h2.get 0 U),U,_,_,U,_,_,U,U,U,?_⟩
    refine oh ?_
    refine⟨_,U,_,U,_,_,U,?_⟩
    refine⟨?_,h2.get 1 U,xs.length - (n+1),by omega,U,hlt,?_,?_⟩
    ·rw[wF,wV]
     exact aS (by omega)
    ·rw[List.take_succ,wL,wH (by rw[List.length_zip]; omega),List.getElem_zip]
     rfl
    ·exact(h2.puti 1 U _).tail
   ·have en:n=xs.length:=by omega
    refine .inl ⟨⟨_,_,SqL.of ga,SqL.of gb,.inl (by rw[wF]; omega)⟩,?_⟩
    refine⟨D,((xs.zip ys).map fun p=>decide (p.1=p.2)),U,?_,?_⟩
    ·have e:((xs.zip ys).take n).map (fun p=>V.bl (decide (p.1=p.2)))=((xs.zip ys).map fun p=>decide (p.1=p.2)).map V.bl:=by
      rw[List.take_of_length_le (by rw[List.length_zip]; omega),xg]; rfl
     rw[<- e]
     exact SqL.of (h1.get 0 U)
    ·rw[qx hl]
     exact q _ h1.tail
end
structure YA where
 p:Addr
 dx:Addr
 tr:Addr
 k:Addr
 n:Addr
 r:Addr
 s:Addr
 m:Addr
 g:Addr
structure YR where
 next:Int
 kinds:List (Key×V)
 notes:List (Key×V)
 rods:List (Key×V)
 sides:List V
 mates:List (List Key×V)
 eng:V
 rung:List V
 trail:List V
def fl (A:YA) (next:Int) (eng:V):List (Str×V) :=
 [("next_piece",.int next),("kinds",.ref A.k),("notes",.ref A.n),("rods_under",.ref A.r),("sides",.ref A.s),("mates",.ref A.m),("engine_end",eng),("rung",.ref A.g),("trail",.ref A.tr)]
def yL (C:Addr) (A:YA) (y:YR):Kn :=
 [(A.tr,.lst y.trail),(A.p,.ins C A.dx (fl A y.next y.eng)),(A.dx,.own A.p),(A.k,.dK y.kinds),(A.n,.dK y.notes),(A.r,.dK y.rods),(A.s,.lst y.sides),(A.m,.dT y.mates),(A.g,.lst y.rung)]
def y0:YR:=⟨0,[],[],[],[],[],.non,[],[]⟩
section
variable (A:YA) (next:Int) (eng:V)
theorem jW:(fl A next eng).lookup ("next_piece" : Str)=some (.int next):=by kernel_rfl
theorem cg:(fl A next eng).lookup ("kinds" : Str)=some (.ref A.k):=by kernel_rfl
theorem cf:(fl A next eng).lookup ("notes" : Str)=some (.ref A.n):=by kernel_rfl
theorem cB:(fl A next eng).lookup ("rods_under" : Str)=some (.ref A.r):=by kernel_rfl
theorem bX:(fl A next eng).lookup ("sides" : Str)=some (.ref A.s):=by kernel_rfl
theorem bv:(fl A next eng).lookup ("mates" : Str)=some (.ref A.m):=by kernel_rfl
theorem d9:(fl A next eng).lookup ("engine_end" : Str)=some eng:=by kernel_rfl
theorem fc:(fl A next eng).lookup ("rung" : Str)=some (.ref A.g):=by kernel_rfl
theorem iI:(fl A next eng).lookup ("trail" : Str)=some (.ref A.tr):=by kernel_rfl
theorem jR (q:Addr):bR "trail" (.ref q) (fl A next eng)=fl { A with tr:=q } next eng:=by kernel_rfl
theorem gO (n':Int):bR "next_piece" (.int n') (fl A next eng)=fl A n' eng:=by kernel_rfl
theorem bJ (e':V):bR "engine_end" e' (fl A next eng)=fl A next e':=by kernel_rfl
end
theorem bY (A:YA) (next:Int) (eng:V):(fl A next eng).lookup ("lay" : Str)=none/\(fl A next eng).lookup ("new_rod" : Str)=none/\(fl A next eng).lookup ("throw" : Str)=none/\(fl A next eng).lookup ("rods" : Str)=none/\(fl A next eng).lookup ("rod" : Str)=none /\
  (fl A next eng).lookup ("side" : Str)=none/\(fl A next eng).lookup ("end_trail" : Str)=none/\(fl A next eng).lookup ("check_piece" : Str)=none/\(fl A next eng).lookup ("check_rod" : Str)=none :=
 ⟨by kernel_rfl,by kernel_rfl,by kernel_rfl,by kernel_rfl,by kernel_rfl,by kernel_rfl,by kernel_rfl,by kernel_rfl,by kernel_rfl⟩
inductive sp_init (C:Addr) (vs:List V) (H:Hp) (Q:VK) (E_:XK):Prop
 | mk (p dx:Addr) (L:Kn) (_:vs=[.ref p]) (_:Has H ((p,.ins C dx [])::(dx,.own p)::L)) (_:∀ H' A,A.p=p->Has H' (yL C A y0++L)->Q .non H'):sp_init C vs H Q E_
inductive sp_end_trail (C:Addr) (vs:List V) (H:Hp) (Q:VK) (E_:XK):Prop
 | mk (A:YA) (y:YR) (L:Kn) (_:vs=[.ref A.p]) (_:Has H (yL C A y++L)) (_:∀ H' q,Has H' (yL C { A with tr:=q } { y with trail:=[] }++L)->Q .non H'):sp_end_trail C vs H Q E_
variable{H:Hp}{L:Kn}
theorem nF {C p dx a1 a2 a3 a4 a5 a7 a8:Addr}{fs:List (Str×V)} (h:Has H ((a8,.lst [])::(a7,.lst [])::(a5,.dT [])::(a4,.lst [])::(a3,.dK [])::(a2,.dK [])::(a1,.dK [])::(p,.ins C dx fs)::(dx,.own p)::L)) :
  Has H ([(a8,.lst []),(p,.ins C dx fs),(dx,.own p),(a1,.dK []),(a2,.dK []),(a3,.dK []),(a4,.lst []),(a5,.dT []),(a7,.lst [])]++L):=by
 refine h.perm ?_
 refine .cons _ ?_
 show List.Perm ([(a7,HO.lst []),(a5,.dT []),(a4,.lst []),(a3,.dK []),(a2,.dK []),(a1,.dK []),(p,.ins C dx fs),(dx,.own p)]++L) ([(p,.ins C dx fs),(dx,.own p),(a1,.dK []),(a2,.dK []),(a3,.dK []),(a4,.lst []),(a5,.dT []),(a7,.lst [])]++L)
 refine List.Perm.append_right L ?_
 have e:[(a7,HO.lst []),(a5,.dT []),(a4,.lst []),(a3,.dK []),(a2,.dK []),(a1,.dK []),(p,.ins C dx fs),(dx,.own p)]=[(a7,HO.lst []),(a5,.dT []),(a4,.lst []),(a3,.dK []),(a2,.dK []),(a1,.dK [])]++[(p,.ins C dx fs),(dx,.own p)]:=rfl
 rw[e]
 refine List.perm_append_comm.trans ?_
 refine .cons _ (.cons _ ?_)
 exact List.reverse_perm [(a1,HO.dK []),(a2,.dK []),(a3,.dK []),(a4,.lst []),(a5,.dT []),(a7,.lst [])]
section
variable {P:Program}{w:World}{K:PySem.W.Frag}{mg:Str->Option Value}{base:Heap}{t:Adr}
theorem scYi:FnScope ["self"] ["self"] (aj vK):={}
theorem sG (T:Txt K mg t):FnOk P w K mg base CX0 1 t.f_Jm t.d_Jm ["self"] (sp_init t.c_Yard):=by
 refine T.F_Jm.ok scYi (fun vs H Q E h=>?_) (fun cdv A outer s H vs Q E hr h=>?_)
 ·obtain⟨_,_,_,rfl,_⟩:=h
  rfl
 ·obtain⟨p,dx,L,rfl,hH,q⟩:=h
  refine⟨_,(ae (bH (pv 0) ai rfl)
   (ae (bH (pv 0) dQ rfl)
   (ae (bH (pv 0) dQ rfl)
   (ae (bH (pv 0) dQ rfl)
   (ae (bH (pv 0) (aN af) rfl)
   (ae (bH (pv 0) kj rfl)
   (ae (bH (pv 0) aK rfl)
   (ae (bH (pv 0) (aN af) rfl)
   (ag (bH (pv 0) (aN af) rfl)))))))))),?_⟩
  refine⟨_,U,p,_,dx,_,U,hH.get 0 U,T.cl_Yard,T.n_Yard_next_piece,(show 0<1000 by decide),?_⟩
  have h1:=hH.puti 0 U (.ins t.c_Yard dx (bR ("next_piece" : Str) (V.int 0) ([]:List (Str×V))))
  rw[show bR ("next_piece" : Str) (V.int 0) ([]:List (Str×V))=([(("next_piece" : Str),V.int 0)]:List (Str×V)) from by kernel_rfl] at h1 ⊢
  generalize upd H p _=H1 at h1 ⊢
  intro a1 n1
  refine⟨_,U,p,_,dx,_,U,(h1.alloc n1 (.dK [])).get 1 U,T.cl_Yard,T.n_Yard_kinds,(show 1<1000 by decide),?_⟩
  have h2:=(h1.alloc n1 (.dK [])).puti 1 U (.ins t.c_Yard dx (bR ("kinds" : Str) (V.ref a1) ([(("next_piece" : Str),V.int 0)]:List (Str×V))))
  rw[show bR ("kinds" : Str) (V.ref a1) ([(("next_piece" : Str),V.int 0)]:List (Str×V))=([(("next_piece" : Str),V.int 0),(("kinds" : Str),V.ref a1)]:List (Str×V)) from by kernel_rfl] at h2 ⊢
  generalize upd (upd H1 a1 _) p _=H2 at h2 ⊢
  intro a2 n2
  refine⟨_,U,p,_,dx,_,U,(h2.alloc n2 (.dK [])).get 2 U,T.cl_Yard,T.n_Yard_notes,(show 2<1000 by decide),?_⟩
  have h3:=(h2.alloc n2 (.dK [])).puti 2 U (.ins t.c_Yard dx (bR ("notes" : Str) (V.ref a2) ([(("next_piece" : Str),V.int 0),(("kinds" : Str),V.ref a1)]:List (Str×V))))
  rw[show bR ("notes" : Str) (V.ref a2) ([(("next_piece" : Str),V.int 0),(("kinds" : Str),V.ref a1)]:List (Str×V))=([(("next_piece" : Str),V.int 0),(("kinds" : Str),V.ref a1),(("notes" : Str),V.ref a2)]:List (Str×V)) from by kernel_rfl] at h3 ⊢
  generalize upd (upd H2 a2 _) p _=H3 at h3 ⊢
  intro a3 n3
  refine⟨_,U,p,_,dx,_,U,(h3.alloc n3 (.dK [])).get 3 U,T.cl_Yard,T.n_Js_under,(show 3<1000 by decide),?_⟩
  have h4:=(h3.alloc n3 (.dK [])).puti 3 U (.ins t.c_Yard dx (bR ("rods_under" : Str) (V.ref a3) ([(("next_piece" : Str),V.int 0),(("kinds" : Str),V.ref a1),(("notes" : Str),V.ref a2)]:List (Str×V))))
  rw[show bR ("rods_under" : Str) (V.ref a3) ([(("next_piece" : Str),V.int 0),(("kinds" : Str),V.ref a1),(("notes" : Str),V.ref a2)]:List (Str×V))=([(("next_piece" : Str),V.int 0),(("kinds" : Str),V.ref a1),(("notes" : Str),V.ref a2),(("rods_under" : Str),V.ref a3)]:List (Str×V)) from by kernel_rfl] at h4 ⊢
  generalize upd (upd H3 a3 _) p _=H4 at h4 ⊢
  refine⟨by decide,fun a4 n4=>?_⟩
  refine⟨_,U,p,_,dx,_,U,(h4.alloc n4 (.lst [])).get 4 U,T.cl_Yard,T.n_Yard_sides,(show 4<1000 by decide),?_⟩
  have h5:=(h4.alloc n4 (.lst [])).puti 4 U (.ins t.c_Yard dx (bR ("sides" : Str) (V.ref a4) ([(("next_piece" : Str),V.int 0),(("kinds" : Str),V.ref a1),(("notes" : Str),V.ref a2),(("rods_under" : Str),V.ref a3)]:List (Str×V))))
  rw[show bR ("sides" : Str) (V.ref a4) ([(("next_piece" : Str),V.int 0),(("kinds" : Str),V.ref a1),(("notes" : Str),V.ref a2),(("rods_under" : Str),V.ref a3)]:List (Str×V))=([(("next_piece" : Str),V.int 0),(("kinds" : Str),V.ref a1),(("notes" : Str),V.ref a2),(("rods_under" : Str),V.ref a3),(("sides" : Str),V.ref a4)]:List (Str×V)) from by kernel_rfl] at h5 ⊢
  generalize upd (upd H4 a4 _) p _=H5 at h5 ⊢
  intro a5 n5
  refine⟨_,U,p,_,dx,_,U,(h5.alloc n5 (.dT [])).get 5 U,T.cl_Yard,T.n_Yard_mates,(show 5<1000 by decide),?_⟩
  have h6:=(h5.alloc n5 (.dT [])).puti 5 U (.ins t.c_Yard dx (bR ("mates" : Str) (V.ref a5) ([(("next_piece" : Str),V.int 0),(("kinds" : Str),V.ref a1),(("notes" : Str),V.ref a2),(("rods_under" : Str),V.ref a3),(("sides" : Str),V.ref a4)]:List (Str×V))))
  rw[show bR ("mates" : Str) (V.ref a5) ([(("next_piece" : Str),V.int 0),(("kinds" : Str),V.ref a1),(("notes" : Str),V.ref a2),(("rods_under" : Str),V.ref a3),(("sides" : Str),V.ref a4)]:List (Str×V))=([(("next_piece" : Str),V.int 0),(("kinds" : Str),V.ref a1),(("notes" : Str),V.ref a2),(("rods_under" : Str),V.ref a3),(("sides" : Str),V.ref a4),(("mates" : Str),V.ref a5)]:List (Str×V)) from by kernel_rfl] at h6 ⊢
  generalize upd (upd H5 a5 _) p _=H6 at h6 ⊢
  refine⟨_,U,p,_,dx,_,U,h6.get 5 U,T.cl_Yard,T.n_Ja_end,(show 6<1000 by decide),?_⟩
  have h7:=h6.puti 5 U (.ins t.c_Yard dx (bR ("engine_end" : Str) (V.non) ([(("next_piece" : Str),V.int 0),(("kinds" : Str),V.ref a1),(("notes" : Str),V.ref a2),(("rods_under" : Str),V.ref a3),(("sides" : Str),V.ref a4),(("mates" : Str),V.ref a5)]:List (Str×V))))
  rw[show bR ("engine_end" : Str) (V.non) ([(("next_piece" : Str),V.int 0),(("kinds" : Str),V.ref a1),(("notes" : Str),V.ref a2),(("rods_under" : Str),V.ref a3),(("sides" : Str),V.ref a4),(("mates" : Str),V.ref a5)]:List (Str×V))=([(("next_piece" : Str),V.int 0),(("kinds" : Str),V.ref a1),(("notes" : Str),V.ref a2),(("rods_under" : Str),V.ref a3),(("sides" : Str),V.ref a4),(("mates" : Str),V.ref a5),(("engine_end" : Str),V.non)]:List (Str×V)) from by kernel_rfl] at h7 ⊢
  generalize upd H6 p _=H7 at h7 ⊢
  refine⟨by decide,fun a7 n7=>?_⟩
  refine⟨_,U,p,_,dx,_,U,(h7.alloc n7 (.lst [])).get 6 U,T.cl_Yard,T.n_Yard_rung,(show 7<1000 by decide),?_⟩
  have h8:=(h7.alloc n7 (.lst [])).puti 6 U (.ins t.c_Yard dx (bR ("rung" : Str) (V.ref a7) ([(("next_piece" : Str),V.int 0),(("kinds" : Str),V.ref a1),(("notes" : Str),V.ref a2),(("rods_under" : Str),V.ref a3),(("sides" : Str),V.ref a4),(("mates" : Str),V.ref a5),(("engine_end" : Str),V.non)]:List (Str×V))))
  rw[show bR ("rung" : Str) (V.ref a7) ([(("next_piece" : Str),V.int 0),(("kinds" : Str),V.ref a1),(("notes" : Str),V.ref a2),(("rods_under" : Str),V.ref a3),(("sides" : Str),V.ref a4),(("mates" : Str),V.ref a5),(("engine_end" : Str),V.non)]:List (Str×V))=([(("next_piece" : Str),V.int 0),(("kinds" : Str),V.ref a1),(("notes" : Str),V.ref a2),(("rods_under" : Str),V.ref a3),(("sides" : Str),V.ref a4),(("mates" : Str),V.ref a5),(("engine_end" : Str),V.non),(("rung" : Str),V.ref a7)]:List (Str×V)) from by kernel_rfl] at h8 ⊢
  generalize upd (upd H7 a7 _) p _=H8 at h8 ⊢
  refine⟨by decide,fun a8 n8=>?_⟩
  refine⟨_,U,p,_,dx,_,U,(h8.alloc n8 (.lst [])).get 7 U,T.cl_Yard,T.n_Yard_trail,(show 8<1000 by decide),?_⟩
  refine q _ ⟨p,dx,a8,a1,a2,a3,a4,a5,a7⟩ rfl ?_
  have h9:=(h8.alloc n8 (.lst [])).puti 7 U (.ins t.c_Yard dx (bR ("trail" : Str) (V.ref a8) ([(("next_piece" : Str),V.int 0),(("kinds" : Str),V.ref a1),(("notes" : Str),V.ref a2),(("rods_under" : Str),V.ref a3),(("sides" : Str),V.ref a4),(("mates" : Str),V.ref a5),(("engine_end" : Str),V.non),(("rung" : Str),V.ref a7)]:List (Str×V))))
  rw[show bR ("trail" : Str) (V.ref a8) ([(("next_piece" : Str),V.int 0),(("kinds" : Str),V.ref a1),(("notes" : Str),V.ref a2),(("rods_under" : Str),V.ref a3),(("sides" : Str),V.ref a4),(("mates" : Str),V.ref a5),(("engine_end" : Str),V.non),(("rung" : Str),V.ref a7)]:List (Str×V))=([(("next_piece" : Str),V.int 0),(("kinds" : Str),V.ref a1),(("notes" : Str),V.ref a2),(("rods_under" : Str),V.ref a3),(("sides" : Str),V.ref a4),(("mates" : Str),V.ref a5),(("engine_end" : Str),V.non),(("rung" : Str),V.ref a7),(("trail" : Str),V.ref a8)]:List (Str×V)) from by kernel_rfl] at h9 ⊢
  exact nF h9
end
def dq (y:YR) (k:Kd) (note:Int) (rod:V):YR :=
 { y with next:=y.next+1,kinds:=aG y.kinds (Sum.inl y.next) (.str k.str),notes:=if k=.bell then aG y.notes (Sum.inl y.next) (.int note) else y.notes,rods:=if k.point then aG y.rods (Sum.inl y.next) (if rod=.non then .int y.sides.length else rod) else y.rods,sides:=if k.point/\rod=.non then y.sides++[.int 1] else y.sides,trail:=[] }
structure Small (y:YR):Prop where
 k:y.kinds.length<=10000
 n:y.notes.length<=10000
 r:y.rods.length<=10000
 s:y.sides.length<=10000
 m:y.mates.length<=30000
 g:y.rung.length<=300000
 t:y.trail.length<=300000
inductive sp_check_piece (C:Addr) (vs:List V) (H:Hp) (Q:VK) (E_:XK):Prop
 | mk (A:YA) (y:YR) (L:Kn) (n:Int) (v:V) (_:vs=[.ref A.p,.int n]) (_:Has H (yL C A y++L)) (_:az y.kinds (Sum.inl n)=some v) (_:Q .non H):sp_check_piece C vs H Q E_
inductive sp_check_rod (C:Addr) (vs:List V) (H:Hp) (Q:VK) (E_:XK):Prop
 | mk (A:YA) (y:YR) (L:Kn) (r:Int) (_:vs=[.ref A.p,.int r]) (_:Has H (yL C A y++L)) (_:0<=r) (_:r<y.sides.length) (_:Q .non H):sp_check_rod C vs H Q E_
inductive sp_Jf (vs:List V) (H:Hp) (Q:VK) (E_:XK):Prop
 | mk (n:Int) (_:vs=[.int n]) (_:0<=n) (_:n<=9999) (_:Q .non H):sp_Jf vs H Q E_
inductive sp_new_rod (C:Addr) (vs:List V) (H:Hp) (Q:VK) (E_:XK):Prop
 | mk (A:YA) (y:YR) (L:Kn) (s:Int) (_:vs=[.ref A.p,.int s]) (_:Has H (yL C A y++L)) (_:(s=1∨s=2)) (_:y.sides.length<=10000) (_:∀ H' q,Has H' (yL C { A with tr:=q } { y with sides:=y.sides++[.int s],trail:=[] }++L)->Q (.int y.sides.length) H'):sp_new_rod C vs H Q E_
inductive sp_throw (C:Addr) (vs:List V) (H:Hp) (Q:VK) (E_:XK):Prop
 | mk (A:YA) (y:YR) (L:Kn) (r s:Int) (_:vs=[.ref A.p,.int r,.int s]) (_:Has H (yL C A y++L)) (_:0<=r) (_:r<y.sides.length) (_:(s=1∨s=2)) (_:∀ H' q,Has H' (yL C { A with tr:=q } { y with sides:=y.sides.set r.toNat (.int s),trail:=[] }++L)->Q .non H'):sp_throw C vs H Q E_
inductive sp_rods (C:Addr) (vs:List V) (H:Hp) (Q:VK) (E_:XK):Prop
 | mk (A:YA) (y:YR) (L:Kn) (_:vs=[.ref A.p]) (_:Has H (yL C A y++L)) (_:Small y) (_:∀ H' l,Has H' ((l,.lst (eO y.sides.length))::(yL C A y++L))->Q (.ref l) H'):sp_rods C vs H Q E_
inductive sp_side (C:Addr) (vs:List V) (H:Hp) (Q:VK) (E_:XK):Prop
 | mk (A:YA) (y:YR) (L:Kn) (r:Int) (v:V) (_:vs=[.ref A.p,.int r]) (_:Has H (yL C A y++L)) (_:0<=r) (_:y.sides[r.toNat]?=some v) (_:Q v H):sp_side C vs H Q E_
inductive sp_rod (C:Addr) (vs:List V) (H:Hp) (Q:VK) (E_:XK):Prop
 | mk (A:YA) (y:YR) (L:Kn) (n:Int) (u v:V) (_:vs=[.ref A.p,.int n]) (_:Has H (yL C A y++L)) (_:az y.kinds (Sum.inl n)=some u) (_:az y.rods (Sum.inl n)=some v) (_:Q v H):sp_rod C vs H Q E_
inductive sp_lay (C:Addr) (vs:List V) (H:Hp) (Q:VK) (E_:XK):Prop
 | mk (A:YA) (y:YR) (L:Kn) (k:Kd) (note:Int) (rod:V) (_:vs=[.ref A.p,.str k.str,.int note,rod]) (_:Has H (yL C A y++L)) (_:Small y) (_:(k=.bell->0<=note/\note<=9999)) (_:(k.point=true->rod≠.non->∃ r:Int,rod=.int r/\0<=r/\r<y.sides.length)) (_:∀ H' q,Has H' (yL C { A with tr:=q } (dq y k note rod)++L)->Q (.int y.next) H'):sp_lay C vs H Q E_
section
variable {P:Program}{w:World}{K:PySem.W.Frag}{mg:Str->Option Value}{base:Heap}{t:Adr}
theorem scEt:FnScope ["self"] ["self"] (aj v7):={}
theorem dj (T:Txt K mg t):FnOk P w K mg base CX0 1 t.f_J2 t.d_J2 ["self"] (sp_end_trail t.c_Yard):=by
 refine T.F_J2.ok scEt (fun vs H Q E h=>?_) (fun cdv A outer s H vs Q E hr h=>?_)
 ·obtain⟨_,_,_,rfl,_⟩:=h
  rfl
 ·obtain⟨A,y,L,rfl,hH,q⟩:=h
  refine⟨_,(ag (bH (pv 0) (aN af) rfl)),?_⟩
  refine⟨by decide,fun a ha=>?_⟩
  have h1:=hH.alloc ha (.lst [])
  refine⟨_,U,A.p,_,A.dx,_,U,h1.get 2 U,T.cl_Yard,T.n_Yard_trail,(show 9<1000 by decide),?_⟩
  refine q _ a ?_
  rw[jR]
  have h2:=(h1.puti 2 U (.ins t.c_Yard A.dx (fl { A with tr:=a } y.next y.eng)))
  exact(h2.swap2).tail
theorem vp:FnScope ["self","rod"] ["self","rod"] (aj v6):={}
theorem me (T:Txt K mg t):FnOk P w K mg base CX0 1 t.f_J3 t.d_J3 ["self","rod"] (sp_check_rod t.c_Yard):=by
 refine T.F_J3.ok vp (fun vs H Q E h=>?_) (fun cdv A outer s H vs Q E hr h=>?_)
 ·obtain⟨_,_,_,_,rfl,_⟩:=h
  rfl
 ·obtain⟨A,y,L,r,rfl,hH,r0,r1,q⟩:=h
  refine⟨_,(ag (au (PW.pt (cQ (ak cG (pv 1) ai (am _)) (ck (ak ii (pv 1) (ay aL (by rfl) T.z_len (by rfl) (aa (aw (pv 0) rfl) af)) (am _)))))
    (ag bU)
    al)),?_⟩
  refine⟨_,U,_,_,U,U,_,U,ifF (decide_eq_false (by omega)) ?_⟩
  refine⟨_,U,_,U,A.p,_,A.dx,_,_,U,hH.get 1 U,T.cl_Yard,T.n_Yard_sides,bX _ _ _,A.s,_,U,.inl (SqL.of (hH.get 6 U)),_,_,U,U,_,U,?_⟩
  exact ifF (decide_eq_false (by omega)) q
theorem vt:FnScope ["note"] ["note"] (aj vR):={}
theorem sJ (T:Txt K mg t):FnOk P w K mg base CX0 1 t.f_Jf t.d_Jf ["note"] sp_Jf:=by
 refine T.F_Jf.ok vt (fun vs H Q E h=>?_) (fun cdv A outer s H vs Q E hr h=>?_)
 ·obtain⟨_,rfl,_⟩:=h
  rfl
 ·obtain⟨n,rfl,n0,n1,q⟩:=h
  refine⟨_,(ag (au (PW.pt (cQ (ak cG (pv 0) ai (am _)) (ck (ak fO (pv 0) (aQ (by rfl) T.g_LAST_NOTE T.r_LAST_NOTE) (am _)))))
    (ag bU)
    al)),?_⟩
  refine⟨_,U,_,_,U,U,_,U,ifF (decide_eq_false (by omega)) ?_⟩
  refine⟨_,U,_,_,U,U,_,U,ifF (decide_eq_false (by omega)) q⟩
theorem vq:FnScope ["self","piece"] ["self","piece"] (aj v8):={}
theorem jh (T:Txt K mg t):FnOk P w K mg base CX0 1 t.f_J1 t.d_J1 ["self","piece"] (sp_check_piece t.c_Yard):=by
 refine T.F_J1.ok vq (fun vs H Q E h=>?_) (fun cdv A outer s H vs Q E hr h=>?_)
 ·obtain⟨_,_,_,_,_,rfl,_⟩:=h
  rfl
 ·obtain⟨A,y,L,n,v,rfl,hH,hv,q⟩:=h
  have hu:=bi hr
  refine⟨_,(ag (au (bB (cv hu (pv 1) (aw (pv 0) rfl)))
    (ag bU)
    al)),?_⟩
  refine⟨_,U,_,U,A.p,_,A.dx,_,_,U,hH.get 1 U,T.cl_Yard,T.n_Yard_kinds,cg _ _ _,A.k,_,U,DGet.k (k:=Sum.inl n) (hH.get 3 U),_,U,?_⟩
  exact ifF (by rw[hv]; rfl) q
theorem vi:FnScope ["self","side"] ["self","side"] (aj vX):={}
theorem ok_J9 (T:Txt K mg t):FnOk P w K mg base CX0 2 t.f_J9 t.d_J9 ["self","side"] (sp_new_rod t.c_Yard):=by
 refine T.F_J9.ok vi (fun vs H Q E h=>?_) (fun cdv A outer s H vs Q E hr h=>?_)
 ·obtain⟨_,_,_,_,rfl,_⟩:=h
  rfl
 ·obtain⟨A,y,L,z,rfl,hH,hz,sm,q⟩:=h
  refine⟨_,(ae (av (pcl (l9 T) hr T.m_Jd T.F_Jd.kp (qu T) (aa (pv 1) af)))
   (ae (av (fi PySem.F.plainAttrs_list PySem.F.slot_list_append PySem.F.type_list_append bW (aw (pv 0) rfl) (aa (pv 1) af)))
   (ae (av (aO (pv 0) T.cl_Yard T.M_J2 (dj T) hr (fG T) .nil aM))
   (ag (ap (aC dD (ay aL (by rfl) T.z_len (by rfl) (aa (aw (pv 0) rfl) af)) ai)))))),?_⟩
  refine⟨_,U,z,U,hz,?_⟩
  refine⟨_,U,A.p,_,A.dx,_,_,U,hH.get 1 U,T.cl_Yard,T.n_Yard_sides,bX _ _ _,.inl ⟨U,_,SqL.of (hH.get 6 U)⟩,_,U,A.s,_,_,U,U,hH.get 6 U,aS (by omega),?_⟩
  have h1:Has _ (yL t.c_Yard A { y with sides:=y.sides++[.int z] }++L):=hH.puti 6 U (.lst (y.sides++[.int z]))
  refine⟨_,U,A.p,A.dx,_,U,h1.get 1 U,(bY _ _ _).2.2.2.2.2.2.1,A,_,L,U,h1,fun H' a h2=>?_⟩
  refine⟨_,U,A.p,_,A.dx,_,_,U,h2.get 1 U,T.cl_Yard,T.n_Yard_sides,bX _ _ _,A.s,_,U,.inl (SqL.of (h2.get 6 U)),_,_,U,U,?_⟩
  have e:((y.sides++[V.int z]).length:Int) - 1=y.sides.length:=by rw[wK,wT]; omega
  show Q (.int (((y.sides++[V.int z]).length:Int) - 1)) H'
  rw[e]
  exact q H' a h2
theorem vg:FnScope ["self","rod","side"] ["self","rod","side"] (aj vO):={}
theorem ok_Ji (T:Txt K mg t):FnOk P w K mg base CX0 2 t.f_Ji t.d_Ji ["self","rod","side"] (sp_throw t.c_Yard):=by
 refine T.F_Ji.ok vg (fun vs H Q E h=>?_) (fun cdv A outer s H vs Q E hr h=>?_)
 ·obtain⟨_,_,_,_,_,rfl,_⟩:=h
  rfl
 ·obtain⟨A,y,L,r,z,rfl,hH,r0,r1,hz,q⟩:=h
  refine⟨_,(ae (av (aH (pv 0) T.cl_Yard T.M_J3 (me T) hr (qv T) .nil aM (aa (pv 1) af)))
   (ae (av (pcl (l9 T) hr T.m_Jd T.F_Jd.kp (qu T) (aa (pv 2) af)))
   (ae (cD (pv 2) (gl (aw (pv 0) rfl) (pv 1) dN))
   (ag (av (aO (pv 0) T.cl_Yard T.M_J2 (dj T) hr (fG T) .nil aM)))))),?_⟩
  refine⟨_,U,A.p,A.dx,_,U,hH.get 1 U,(bY _ _ _).2.2.2.2.2.2.2.2,_,U,A,y,L,r,U,hH,r0,r1,?_⟩
  refine⟨_,U,z,U,hz,?_⟩
  have hj:ixN y.sides.length r=some r.toNat:=by unfold ixN; rw[if_pos r0,if_pos r1]
  refine⟨_,U,_,U,A.p,_,A.dx,_,_,U,hH.get 1 U,T.cl_Yard,T.n_Yard_sides,bX _ _ _,_,U,A.s,_,r,r.toNat,U,U,hH.get 6 U,hj,?_⟩
  have h1:Has _ (yL t.c_Yard A { y with sides:=y.sides.set r.toNat (.int z) }++L):=hH.puti 6 U (.lst (y.sides.set r.toNat (.int z)))
  exact⟨_,U,A.p,A.dx,_,U,h1.get 1 U,(bY _ _ _).2.2.2.2.2.2.1,A,_,L,U,h1,fun H' a h2=>q H' a h2⟩
theorem scRs:FnScope ["self"] ["self"] (aj vE):={}
theorem sC (T:Txt K mg t):FnOk P w K mg base CX0 1 t.f_Js t.d_Js ["self"] (sp_rods t.c_Yard):=by
 refine T.F_Js.ok scRs (fun vs H Q E h=>?_) (fun cdv A outer s H vs Q E hr h=>?_)
 ·obtain⟨_,_,_,rfl,_⟩:=h
  rfl
 ·obtain⟨A,y,L,rfl,hH,sm,q⟩:=h
  refine⟨_,(ag (ap (aZ (fq rfl) (by rfl) T.z_list (by rfl) (aa (aZ gP (by rfl) T.z_range (by rfl) (aa (ay aL (by rfl) T.z_len (by rfl) (aa (aw (pv 0) rfl) af)) af)) af)))),?_⟩
  have:=sm.s
  refine⟨_,U,A.p,_,A.dx,_,_,U,hH.get 1 U,T.cl_Yard,T.n_Yard_sides,bX _ _ _,A.s,_,U,.inl (SqL.of (hH.get 6 U)),_,U,fun a ha=>?_⟩
  have h1:=hH.alloc ha (.rng 0 y.sides.length)
  refine⟨a,_,U,h1.get 0 U,by omega,by omega,fun l hl=>?_⟩
  have h2:=h1.alloc hl (.lst (eO ((y.sides.length:Int)).toNat))
  refine q _ l ?_
  exact h2.swap2.tail
theorem scSi:FnScope ["self","rod"] ["self","rod"] (aj vG):={}
theorem sD (T:Txt K mg t):FnOk P w K mg base CX0 2 t.f_Jq t.d_Jq ["self","rod"] (sp_side t.c_Yard):=by
 refine T.F_Jq.ok scSi (fun vs H Q E h=>?_) (fun cdv A outer s H vs Q E hr h=>?_)
 ·obtain⟨_,_,_,_,_,rfl,_⟩:=h
  rfl
 ·obtain⟨A,y,L,r,v,rfl,hH,r0,hv,q⟩:=h
  have r1:r<y.sides.length:=by have:=(List.getElem?_eq_some_iff.mp hv).1; omega
  have er:(r.toNat:Int)=r:=by omega
  refine⟨_,(ae (av (aH (pv 0) T.cl_Yard T.M_J3 (me T) hr (qv T) .nil aM (aa (pv 1) af)))
   (ag (ap (aR bc (aw (pv 0) rfl) (pv 1))))),?_⟩
  refine⟨_,U,A.p,A.dx,_,U,hH.get 1 U,(bY _ _ _).2.2.2.2.2.2.2.2,_,U,A,y,L,r,U,hH,r0,r1,?_⟩
  exact⟨_,U,A.p,_,A.dx,_,_,U,hH.get 1 U,T.cl_Yard,T.n_Yard_sides,bX _ _ _,_,U,A.s,_,r,v,U,U,SqL.of (hH.get 6 U),(by rw[<- er]; exact bh hv),q⟩
theorem scRo:FnScope ["self","piece"] ["self","piece"] (aj vw):={}
theorem sB (T:Txt K mg t):FnOk P w K mg base CX0 2 t.f_Jz t.d_Jz ["self","piece"] (sp_rod t.c_Yard):=by
 refine T.F_Jz.ok scRo (fun vs H Q E h=>?_) (fun cdv A outer s H vs Q E hr h=>?_)
 ·obtain⟨_,_,_,_,_,_,rfl,_⟩:=h
  rfl
 ·obtain⟨A,y,L,n,u,v,rfl,hH,hk,hv,q⟩:=h
  have hu:=bi hr
  refine⟨_,(ae (av (aH (pv 0) T.cl_Yard T.M_J1 (jh T) hr (lE T) .nil aM (aa (pv 1) af)))
   (ae (au (bB (cv hu (pv 1) (aw (pv 0) rfl)))
    (ag bU)
    al)
   (ag (ap (aq hu (aw (pv 0) rfl) (pv 1)))))),?_⟩
  refine⟨_,U,A.p,A.dx,_,U,hH.get 1 U,(bY _ _ _).2.2.2.2.2.2.2.1,_,U,A,y,L,n,u,U,hH,hk,?_⟩
  refine⟨_,U,_,U,A.p,_,A.dx,_,_,U,hH.get 1 U,T.cl_Yard,T.n_Js_under,cB _ _ _,A.r,_,U,DGet.k (k:=Sum.inl n) (hH.get 5 U),_,U,ifF (by rw[hv]; rfl) ?_⟩
  refine⟨_,U,A.p,_,A.dx,_,_,U,hH.get 1 U,T.cl_Yard,T.n_Js_under,cB _ _ _,_,U,A.r,_,U,?_,q⟩
  rw[<- hv]
  exact DGet.k (k:=Sum.inl n) (hH.get 5 U)
theorem scLy:FnScope ["self","kind","note","rod","point","piece"] ["self","kind","note","rod"] (aj vz):={}
theorem ok_Jx (T:Txt K mg t):FnOk P w K mg base CX0 3 t.f_Jx t.d_Jx ["self","kind","note","rod"] (sp_lay t.c_Yard):=by
 obtain⟨ds_nr,hd_J9_1,hb_J9_1⟩:=mU T
 refine T.F_Jx.ok scLy (fun vs H Q E h=>?_) (fun cdv A outer s H vs Q E hr h=>?_)
 ·obtain⟨_,_,_,_,_,_,rfl,_⟩:=h
  rfl
 ·obtain⟨A,y,L,k,note,rod,rfl,hH,sm,hnote,hrod,q⟩:=h
  have hu:=bi hr
  refine⟨_,(ae (ax (i:=4) scLy.nd rfl (Or.inl rfl) (pcl (lZ T) hr T.m_Jv T.F_Jv.kp (rD T) (aa (pv 1) af)))
   (ae (au (ak bp (pv 1) ah (am _))
    (ag (av (pcl (sJ T) hr T.m_Jf T.F_Jf.kp (wx T) (aa (pv 2) af))))
    al)
   (ae (au (PW.pt (bM (bj (pv 4)) (bq (ak cZ (pv 3) aK (am _)))))
    (ag (av (aH (pv 0) T.cl_Yard T.M_J3 (me T) hr (qv T) .nil aM (aa (pv 3) af))))
    al)
   (ae (ax (i:=5) scLy.nd rfl (Or.inl rfl) (aw (pv 0) rfl))
   (ae (jc (pv 0) ai pU)
   (ae (aJ hu (aw (pv 0) rfl) (pv 5) (pv 1) rfl)
   (ae (au (ak bp (pv 1) ah (am _))
    (ag (aJ hu (aw (pv 0) rfl) (pv 5) (pv 2) rfl))
    al)
   (ae (au (bj (pv 4))
    (ag (aJ hu (aw (pv 0) rfl) (pv 5) (dO (ak cm (pv 3) aK (am _)) (aO (pv 0) T.cl_Yard T.M_J9 (ok_J9 T) hr hb_J9_1 hd_J9_1 aM) (pv 3)) rfl))
    al)
   (ae (av (aO (pv 0) T.cl_Yard T.M_J2 (dj T) hr (fG T) .nil aM))
   (ag (ap (pv 5)))))))))))),?_⟩
  refine⟨_,U,k,U,?_⟩
  refine⟨_,U,U,_,U,ifJ (fun hc g=>?_) ?_⟩
  ·rw[k.isBell] at hc
   have hb:=hnote (of_decide_eq_true hc)
   exact⟨_,U,note,U,hb.1,hb.2,g⟩
  refine⟨_,U,_,U,?_⟩
  refine(fun(g:_)=>if2 (fun hp=>⟨_,U,U,_,U,ifJ (fun hc g'=>?a) g⟩) (fun hp=>bL g)) ?b
  case a=>
   have hn:rod≠.non:=by simpa using hc
   obtain⟨r,rfl,r0,r1⟩:=hrod hp hn
   exact⟨_,U,A.p,A.dx,_,U,hH.get 1 U,(bY _ _ _).2.2.2.2.2.2.2.2,_,U,A,y,L,r,U,hH,r0,r1,g'⟩
  refine⟨_,U,A.p,_,A.dx,_,_,U,hH.get 1 U,T.cl_Yard,T.n_Yard_next_piece,jW _ _ _,?_⟩
  refine⟨_,U,A.p,_,A.dx,_,_,U,hH.get 1 U,T.cl_Yard,T.n_Yard_next_piece,jW _ _ _,_,_,U,U,_,_,hH.get 1 U,(show 9<1000 by decide),?_⟩
  rw[gO]
  have h1:Has _ (yL t.c_Yard A { y with next:=y.next+1 }++L):=hH.puti 1 U (.ins t.c_Yard A.dx (fl A (y.next+1) y.eng))
  generalize upd H A.p _=H1 at h1 ⊢
  refine⟨_,U,_,U,A.p,_,A.dx,_,_,U,h1.get 1 U,T.cl_Yard,T.n_Yard_kinds,cg _ _ _,_,U,A.k,_,U,DPut.k (k:=Sum.inl y.next) (h1.get 3 U) (aS (show y.kinds.length<=1000000 by have:=sm.k; omega)),?_⟩
  have h2:Has _ (yL t.c_Yard A { y with next:=y.next+1,kinds:=aG y.kinds (Sum.inl y.next) (.str k.str) }++L):=h1.puti 3 U (.dK (aG y.kinds (Sum.inl y.next) (.str k.str)))
  generalize upd H1 A.k _=H2 at h2 ⊢
  refine⟨_,U,U,_,U,?_⟩
  rw[k.isBell]
  have fin:∀ (H3:Hp) (A3:YA) (y3:YR),A3.p=A.p->(∀ q,{ A3 with tr:=q }={ A with tr:=q })->{ y3 with trail:=[] }=dq y k note rod->Has H3 (yL t.c_Yard A3 y3++L) ->
    jx (rR (oi t.c_Yard "end_trail" (sp_end_trail t.c_Yard) [] E0 (dg 0) fL)) (qB (dg 5)) { nx:=fun _ H'=>Q .non H',rt:=Q } [some (.ref A.p),some (.str k.str),some (.int note),some rod,some (.bl k.point),some (.int y.next)] H3:=fun H3 A3 y3 e1 e2 e3 h3=>by
   have g1:=h3.get 1 rfl
   rw[e1] at g1
   refine⟨_,U,A.p,A3.dx,_,U,g1,(bY _ _ _).2.2.2.2.2.2.1,A3,y3,L,(by rw[e1]; rfl),h3,fun H4 a h4=>⟨_,U,?_⟩⟩
   rw[e2,e3] at h4
   exact q H4 a h4
  refine ifd (fun hb=>?_) (fun hb=>?_)
  ·subst hb
   refine⟨_,U,_,U,A.p,_,A.dx,_,_,U,h2.get 1 U,T.cl_Yard,T.n_Yard_notes,cf _ _ _,_,U,A.n,_,U,DPut.k (k:=Sum.inl y.next) (h2.get 4 U) (aS (show y.notes.length<=1000000 by have:=sm.n; omega)),?_⟩
   have h3:Has _ (yL t.c_Yard A { y with next:=y.next+1,kinds:=aG y.kinds (Sum.inl y.next) (.str Kd.bell.str),notes:=aG y.notes (Sum.inl y.next) (.int note) }++L):=h2.puti 4 U (.dK (aG y.notes (Sum.inl y.next) (.int note)))
   refine⟨_,U,_,U,bL ?_⟩
   exact fin _ A _ rfl (fun _=>rfl) rfl h3
  ·refine⟨_,U,_,U,if2 (fun hp=>?_) (fun hp=>?_)⟩
   ·refine⟨_,U,U,_,U,ifd (fun hn=>?_) (fun hn=>?_)⟩
    ·subst hn
     refine⟨_,U,A.p,A.dx,_,U,h2.get 1 U,(bY _ _ _).2.1,A,_,L,1,U,h2,.inl rfl,sm.s,fun H3 a h3=>?_⟩
     refine⟨_,U,A.p,_,A.dx,_,_,U,h3.get 1 U,T.cl_Yard,T.n_Js_under,cB _ _ _,_,U,A.r,_,U,DPut.k (k:=Sum.inl y.next) (h3.get 5 U) (aS (show y.rods.length<=1000000 by have:=sm.r; omega)),?_⟩
     have h4:Has _ (yL t.c_Yard { A with tr:=a } { y with next:=y.next+1,kinds:=aG y.kinds (Sum.inl y.next) (.str k.str),rods:=aG y.rods (Sum.inl y.next) (.int y.sides.length),sides:=y.sides++[.int 1],trail:=[] }++L):=h3.puti 5 U (.dK (aG y.rods (Sum.inl y.next) (.int y.sides.length)))
     exact fin _ { A with tr:=a } _ rfl (fun _=>rfl) (by unfold dq; rw[if_neg hb,if_pos hp,if_pos rfl,if_pos ⟨hp,U⟩]) h4
    ·refine⟨_,U,_,U,A.p,_,A.dx,_,_,U,h2.get 1 U,T.cl_Yard,T.n_Js_under,cB _ _ _,_,U,A.r,_,U,DPut.k (k:=Sum.inl y.next) (h2.get 5 U) (aS (show y.rods.length<=1000000 by have:=sm.r; omega)),?_⟩
     have h3:Has _ (yL t.c_Yard A { y with next:=y.next+1,kinds:=aG y.kinds (Sum.inl y.next) (.str k.str),rods:=aG y.rods (Sum.inl y.next) rod }++L):=h2.puti 5 U (.dK (aG y.rods (Sum.inl y.next) rod))
     exact fin _ A _ rfl (fun _=>rfl) (by unfold dq; rw[if_neg hb,if_pos hp,if_neg hn,if_neg (fun z=>hn z.2)]) h3
   ·exact fin _ A _ rfl (fun _=>rfl) (by unfold dq; rw[if_neg hb,if_neg (by rw[hp]; exact Bool.false_ne_true),if_neg (fun z=>by rw[hp] at z; exact Bool.false_ne_true z.1)]) h2
end
abbrev kE (n e:Int):List Key:=[Sum.inl n,Sum.inl e]
theorem cH (A:YA) (next:Int) (eng:V):(fl A next eng).lookup ("check_there" : Str)=none/\(fl A next eng).lookup ("mate" : Str)=none/\(fl A next eng).lookup ("link" : Str)=none/\(fl A next eng).lookup ("unlink" : Str)=none :=
 ⟨by kernel_rfl,by kernel_rfl,by kernel_rfl,by kernel_rfl⟩
def eF (y:YR) (n e:Int):Prop:=∃ k:Kd,az y.kinds (Sum.inl n)=some (.str k.str)/\0<=e/\e<k.many
inductive sp_check_there (C:Addr) (vs:List V) (H:Hp) (Q:VK) (E_:XK):Prop
 | mk (A:YA) (y:YR) (L:Kn) (b:Addr) (n e:Int) (j:Nat) (_:vs=[.ref A.p,.ref b]) (_:Has H (yL C A y++L)) (_:L[j]?=some (b,.tup [.int n,.int e])) (_:eF y n e) (_:Q .non H):sp_check_there C vs H Q E_
inductive sp_mate (C:Addr) (vs:List V) (H:Hp) (Q:VK) (E_:XK):Prop
 | mk (A:YA) (y:YR) (L:Kn) (b:Addr) (n e:Int) (j:Nat) (_:vs=[.ref A.p,.ref b]) (_:Has H (yL C A y++L)) (_:L[j]?=some (b,.tup [.int n,.int e])) (_:eF y n e) (_:Q ((az y.mates (kE n e)).getD .non) H):sp_mate C vs H Q E_
inductive sp_link (C:Addr) (vs:List V) (H:Hp) (Q:VK) (E_:XK):Prop
 | mk (A:YA) (y:YR) (L:Kn) (b1 b2:Addr) (n1 e1 n2 e2:Int) (j1 j2:Nat) (_:vs=[.ref A.p,.ref b1,.ref b2]) (_:Has H (yL C A y++L)) (_:L[j1]?=some (b1,.tup [.int n1,.int e1])) (_:L[j2]?=some (b2,.tup [.int n2,.int e2])) (_:eF y n1 e1) (_:eF y n2 e2) (_:¬ kE n1 e1=kE n2 e2) (_:az y.mates (kE n1 e1)=none) (_:az y.mates (kE n2 e2)=none) (_:y.mates.length<=30000) (_:∀ H' q,Has H' (yL C { A with tr:=q } { y with mates:=aG (aG y.mates (kE n1 e1) (.ref b2)) (kE n2 e2) (.ref b1),trail:=[] }++L)->Q .non H'):sp_link C vs H Q E_
inductive sp_J91 (C:Addr) (vs:List V) (H:Hp) (Q:VK) (E_:XK):Prop
 | mk (A:YA) (y:YR) (L:Kn) (b1 b2:Addr) (n1 e1 n2 e2:Int) (j1 j2:Nat) (v:V) (_:vs=[.ref A.p,.ref b1]) (_:Has H (yL C A y++L)) (_:L[j1]?=some (b1,.tup [.int n1,.int e1])) (_:L[j2]?=some (b2,.tup [.int n2,.int e2])) (_:eF y n1 e1) (_:¬ kE n2 e2=kE n1 e1) (_:az y.mates (kE n1 e1)=some (.ref b2)) (_:az y.mates (kE n2 e2)=some v) (_:∀ H' q,Has H' (yL C { A with tr:=q } { y with mates:=ar (ar y.mates (kE n1 e1)) (kE n2 e2),trail:=[] }++L)->Q .non H'):sp_J91 C vs H Q E_
theorem cr {κ:Type} [DecidableEq κ] {kvs:List (κ×V)}{k j:κ} (h:¬ j=k):az (ar kvs k) j=az kvs j:=by
 induction kvs with
 | nil=>rfl
 | cons p r ih=>
  by_cases e:p.1=k
  ·rw[fe e,ih,bx (fun z=>h (z.symm.trans e))]
  ·rw[dX e]
   by_cases e2:p.1=j
   ·rw[bQ e2,bQ e2]
   ·rw[bx e2,bx e2,ih]
theorem cI {κ:Type} [DecidableEq κ] {kvs:List (κ×V)}{k:κ}:az (ar kvs k) k=none:=by
 induction kvs with
 | nil=>rfl
 | cons p r ih=>
  by_cases e:p.1=k
  ·rw[fe e,ih]
  ·rw[dX e,bx e,ih]
section
variable {P:Program}{w:World}{K:PySem.W.Frag}{mg:Str->Option Value}{base:Heap}{t:Adr}
theorem scCt:FnScope ["self","end","piece","place"] ["self","end"] (aj v9):={}
theorem ji (T:Txt K mg t):FnOk P w K mg base CX0 3 t.f_J0 t.d_J0 ["self","end"] (sp_check_there t.c_Yard):=by
 refine T.F_J0.ok scCt (fun vs H Q E h=>?_) (fun cdv A outer s H vs Q E hr h=>?_)
 ·obtain⟨_,_,_,_,_,_,_,rfl,_⟩:=h
  rfl
 ·obtain⟨A,y,L,b,n,e,j,rfl,hH,hj,⟨k,hk,e0,e1⟩,q⟩:=h
  have hu:=bi hr
  refine⟨_,(ae (cD (pv 1) (dC rfl (aU (aI (i:=2) scCt.nd rfl (Or.inl rfl)) (aU (aI (i:=3) scCt.nd rfl (Or.inl rfl)) cL))))
   (ae (av (aH (pv 0) T.cl_Yard T.M_J1 (jh T) hr (lE T) .nil aM (aa (pv 2) af)))
   (ag (av (pcl (py T) hr T.m_Jl T.F_Jl.kp (vb T) (aa (aq hu (aw (pv 0) rfl) (pv 2)) (aa (pv 3) af))))))),?_⟩
  have gb:=hH.get (j+9) (by simpa [yL] using hj)
  refine⟨_,U,b,_,U,SqT.of gb,U,_,_,U,_,_,U,U,?_⟩
  refine⟨_,U,A.p,A.dx,_,U,hH.get 1 U,(bY _ _ _).2.2.2.2.2.2.2.1,_,U,A,y,L,n,_,U,hH,hk,?_⟩
  refine⟨_,U,A.p,_,A.dx,_,_,U,hH.get 1 U,T.cl_Yard,T.n_Yard_kinds,cg _ _ _,_,U,A.k,_,U,?_,_,U,k,e,U,e0,e1,q⟩
  rw[<- hk]
  exact DGet.k (k:=Sum.inl n) (hH.get 3 U)
theorem scMt:FnScope ["self","end"] ["self","end"] (aj vH):={}
theorem sE (T:Txt K mg t):FnOk P w K mg base CX0 4 t.f_Jp t.d_Jp ["self","end"] (sp_mate t.c_Yard):=by
 refine T.F_Jp.ok scMt (fun vs H Q E h=>?_) (fun cdv A outer s H vs Q E hr h=>?_)
 ·obtain⟨_,_,_,_,_,_,_,rfl,_⟩:=h
  rfl
 ·obtain⟨A,y,L,b,n,e,j,rfl,hH,hj,th,q⟩:=h
  have hu:=bi hr
  refine⟨_,(ae (av (aH (pv 0) T.cl_Yard T.M_J0 (ji T) hr (j3 T) .nil aM (aa (pv 1) af)))
   (ag (ap (ic hu (aw (pv 0) rfl) (pv 1) ⟨U,U,U,U⟩)))),?_⟩
  have gb:=hH.get (j+9) (by simpa [yL] using hj)
  refine⟨_,U,A.p,A.dx,_,U,hH.get 1 U,(cH _ _ _).1,_,U,A,y,L,b,n,e,j,U,hH,hj,th,?_⟩
  exact⟨_,U,A.p,_,A.dx,_,_,U,hH.get 1 U,T.cl_Yard,T.n_Yard_mates,bv _ _ _,A.m,U,.inr ⟨_,.inl (hH.get 7 U)⟩,_,U,_,DGet.t (k:=kE n e) (hH.get 7 U) gb,q⟩
theorem scLk:FnScope ["self","one","other","end"] ["self","one","other"] (aj vJ):={}
theorem ok_Jn (T:Txt K mg t):FnOk P w K mg base CX0 4 t.f_Jn t.d_Jn ["self","one","other"] (sp_link t.c_Yard):=by
 refine T.F_Jn.ok scLk (fun vs H Q E h=>?_) (fun cdv A outer s H vs Q E hr h=>?_)
 ·obtain⟨_,_,_,_,_,_,_,_,_,_,_,rfl,_⟩:=h
  rfl
 ·obtain⟨A,y,L,b1,b2,n1,e1,n2,e2,j1,j2,rfl,hH,hj1,hj2,t1,t2,ne,v1,v2,hl,q⟩:=h
  have hu:=bi hr
  refine⟨_,(ae (av (aH (pv 0) T.cl_Yard T.M_J0 (ji T) hr (j3 T) .nil aM (aa (pv 1) af)))
   (ae (av (aH (pv 0) T.cl_Yard T.M_J0 (ji T) hr (j3 T) .nil aM (aa (pv 2) af)))
   (ae (au (ak (jH hr.units) (pv 1) (pv 2) (am _))
    (ag bU)
    al)
   (ae (cK PassesOwn.never rfl (oZ (aF (aa (pv 1) (aa (pv 2) af)))) (aI (i:=3) scLk.nd rfl (Or.inl rfl))
    (ag (au (bB (cU hu (pv 3) (aw (pv 0) rfl)))
      (ag bU)
      al)))
   (ae (aJ hu (aw (pv 0) rfl) (pv 1) (pv 2) rfl)
   (ae (aJ hu (aw (pv 0) rfl) (pv 2) (pv 1) rfl)
   (ag (av (aO (pv 0) T.cl_Yard T.M_J2 (dj T) hr (fG T) .nil aM))))))))),?_⟩
  have g1:=hH.get (j1+9) (by simpa [yL] using hj1)
  have g2:=hH.get (j2+9) (by simpa [yL] using hj2)
  refine⟨_,U,A.p,A.dx,_,U,hH.get 1 U,(cH _ _ _).1,_,U,A,y,L,b1,n1,e1,j1,U,hH,hj1,t1,?_⟩
  refine⟨_,U,A.p,A.dx,_,U,hH.get 1 U,(cH _ _ _).1,_,U,A,y,L,b2,n2,e2,j2,U,hH,hj2,t2,?_⟩
  have ne':¬ [n1,e1]=[n2,e2]:=fun z=>ne (by cases z; rfl)
  refine⟨_,U,_,U,b1,b2,[n1,e1],[n2,e2],U,U,g1,g2,_,U,ifF (decide_eq_false ne') ?_⟩
  refine⟨_,U,_,U,(show 2<=sizeLine by decide),fun p hp=>?_⟩
  have h1:=(hH.alloc hp (.tup [.ref b1,.ref b2]))
  generalize upd H p _=H1 at h1 ⊢
  refine⟨p,U,⟨_,SqT.of (h1.get 0 U)⟩,mF (xs:=[.ref b1,.ref b2]) (fun i σ H'=>H'=H1/\∃ o,σ=[some (.ref A.p),some (.ref b1),some (.ref b2),o]) ⟨U,_,U⟩ (fun i σ H' _ ⟨e,_⟩=>by rw[e]; exact SqT.of (h1.get 0 U)) ?_ ?_⟩
  ·rintro i x σ H' hx ⟨rfl,o,rfl⟩
   have k1:=h1.get (j1+10) (by simpa [yL] using hj1)
   have k2:=h1.get (j2+10) (by simpa [yL] using hj2)
   match i,hx with
   | 0,hx=>
    cases hx
    refine⟨_,U,_,U,A.p,_,A.dx,_,_,U,h1.get 2 U,T.cl_Yard,T.n_Yard_mates,bv _ _ _,A.m,_,U,DGet.t (k:=kE n1 e1) (h1.get 8 U) k1,_,U,ifF (by rw[v1]; rfl) ⟨U,_,U⟩⟩
   | 1,hx=>
    cases hx
    refine⟨_,U,_,U,A.p,_,A.dx,_,_,U,h1.get 2 U,T.cl_Yard,T.n_Yard_mates,bv _ _ _,A.m,_,U,DGet.t (k:=kE n2 e2) (h1.get 8 U) k2,_,U,ifF (by rw[v2]; rfl) ⟨U,_,U⟩⟩
  ·rintro σ H' ⟨rfl,o,rfl⟩
   have h2:=h1.tail
   have k1:=h2.get (j1+9) (by simpa [yL] using hj1)
   refine⟨_,U,_,U,A.p,_,A.dx,_,_,U,h2.get 1 U,T.cl_Yard,T.n_Yard_mates,bv _ _ _,_,U,A.m,_,U,DPut.t (k:=kE n1 e1) (h2.get 7 U) k1 (aS (by omega)),?_⟩
   have h3:Has _ (yL t.c_Yard A { y with mates:=aG y.mates (kE n1 e1) (.ref b2) }++L):=h2.puti 7 U (.dT (aG y.mates (kE n1 e1) (.ref b2)))
   generalize upd H' A.m _=H3 at h3 ⊢
   have k2:=h3.get (j2+9) (by simpa [yL] using hj2)
   refine⟨_,U,_,U,A.p,_,A.dx,_,_,U,h3.get 1 U,T.cl_Yard,T.n_Yard_mates,bv _ _ _,_,U,A.m,_,U,DPut.t (k:=kE n2 e2) (h3.get 7 U) k2 (aS (Nat.le_trans (bF _ _ _) (by omega))),?_⟩
   have h4:Has _ (yL t.c_Yard A { y with mates:=aG (aG y.mates (kE n1 e1) (.ref b2)) (kE n2 e2) (.ref b1) }++L):=h3.puti 7 U (.dT (aG (aG y.mates (kE n1 e1) (.ref b2)) (kE n2 e2) (.ref b1)))
   exact⟨_,U,A.p,A.dx,_,U,h4.get 1 U,(bY _ _ _).2.2.2.2.2.2.1,A,_,L,U,h4,fun H' a h2=>q H' a h2⟩
theorem scUl:FnScope ["self","end","other"] ["self","end"] (aj vV):={}
theorem ok_Jb (T:Txt K mg t):FnOk P w K mg base CX0 4 t.f_Jb t.d_Jb ["self","end"] (sp_J91 t.c_Yard):=by
 refine T.F_Jb.ok scUl (fun vs H Q E h=>?_) (fun cdv A outer s H vs Q E hr h=>?_)
 ·obtain⟨_,_,_,_,_,_,_,_,_,_,_,_,rfl,_⟩:=h
  rfl
 ·obtain⟨A,y,L,b1,b2,n1,e1,n2,e2,j1,j2,v,rfl,hH,hj1,hj2,t1,ne,v1,v2,q⟩:=h
  have hu:=bi hr
  refine⟨_,(ae (av (aH (pv 0) T.cl_Yard T.M_J0 (ji T) hr (j3 T) .nil aM (aa (pv 1) af)))
   (ae (au (bB (cv hu (pv 1) (aw (pv 0) rfl)))
    (ag bU)
    al)
   (ae (ax (i:=2) scUl.nd rfl (Or.inl rfl) (aq hu (aw (pv 0) rfl) (pv 1)))
   (ae (fN hu (aw (pv 0) rfl) (pv 1))
   (ae (fN hu (aw (pv 0) rfl) (pv 2))
   (ag (av (aO (pv 0) T.cl_Yard T.M_J2 (dj T) hr (fG T) .nil aM)))))))),?_⟩
  have g1:=hH.get (j1+9) (by simpa [yL] using hj1)
  have g2:=hH.get (j2+9) (by simpa [yL] using hj2)
  refine⟨_,U,A.p,A.dx,_,U,hH.get 1 U,(cH _ _ _).1,_,U,A,y,L,b1,n1,e1,j1,U,hH,hj1,t1,?_⟩
  refine⟨_,U,_,U,A.p,_,A.dx,_,_,U,hH.get 1 U,T.cl_Yard,T.n_Yard_mates,bv _ _ _,A.m,_,U,DGet.t (k:=kE n1 e1) (hH.get 7 U) g1,_,U,ifF (by rw[v1]; rfl) ?_⟩
  refine⟨_,U,A.p,_,A.dx,_,_,U,hH.get 1 U,T.cl_Yard,T.n_Yard_mates,bv _ _ _,_,U,A.m,.ref b2,U,?_,?_⟩
  ·rw[<- v1]; exact DGet.t (k:=kE n1 e1) (hH.get 7 U) g1
  refine⟨_,U,A.p,_,A.dx,_,_,U,hH.get 1 U,T.cl_Yard,T.n_Yard_mates,bv _ _ _,_,U,A.m,b1,_,kE n1 e1,_,U,U,hH.get 7 U,g1,v1,?_⟩
  have h3:Has _ (yL t.c_Yard A { y with mates:=ar y.mates (kE n1 e1) }++L):=hH.puti 7 U (.dT (ar y.mates (kE n1 e1)))
  generalize upd H A.m _=H3 at h3 ⊢
  have k2:=h3.get (j2+9) (by simpa [yL] using hj2)
  refine⟨_,U,A.p,_,A.dx,_,_,U,h3.get 1 U,T.cl_Yard,T.n_Yard_mates,bv _ _ _,_,U,A.m,b2,_,kE n2 e2,v,U,U,h3.get 7 U,k2,(by rw[<- v2]; exact cr ne),?_⟩
  have h4:Has _ (yL t.c_Yard A { y with mates:=ar (ar y.mates (kE n1 e1)) (kE n2 e2) }++L):=h3.puti 7 U (.dT (ar (ar y.mates (kE n1 e1)) (kE n2 e2)))
  exact⟨_,U,A.p,A.dx,_,U,h4.get 1 U,(bY _ _ _).2.2.2.2.2.2.1,A,_,L,U,h4,fun H' a h2=>q H' a h2⟩
end
theorem dm (A:YA) (next:Int) (eng:V):(fl A next eng).lookup ("put" : Str)=none/\(fl A next eng).lookup ("off" : Str)=none/\(fl A next eng).lookup ("carry" : Str)=none/\(fl A next eng).lookup ("pieces" : Str)=none/\(fl A next eng).lookup ("kind" : Str)=none /\
  (fl A next eng).lookup ("note" : Str)=none/\(fl A next eng).lookup ("engine" : Str)=none/\(fl A next eng).lookup ("bells" : Str)=none/\(fl A next eng).lookup ("steps" : Str)=none :=
 ⟨by kernel_rfl,by kernel_rfl,by kernel_rfl,by kernel_rfl,by kernel_rfl,by kernel_rfl,by kernel_rfl,by kernel_rfl,by kernel_rfl⟩
inductive sp_put (C:Addr) (vs:List V) (H:Hp) (Q:VK) (E_:XK):Prop
 | mk (A:YA) (y:YR) (L:Kn) (b:Addr) (n e:Int) (j:Nat) (_:vs=[.ref A.p,.ref b]) (_:Has H (yL C A y++L)) (_:L[j]?=some (b,.tup [.int n,.int e])) (_:eF y n e) (_:∀ H' q,Has H' (yL C { A with tr:=q } { y with eng:=.ref b,trail:=[] }++L)->Q .non H'):sp_put C vs H Q E_
inductive sp_off (C:Addr) (vs:List V) (H:Hp) (Q:VK) (E_:XK):Prop
 | mk (A:YA) (y:YR) (L:Kn) (_:vs=[.ref A.p]) (_:Has H (yL C A y++L)) (_:∀ H' q,Has H' (yL C { A with tr:=q } { y with eng:=.non,trail:=[] }++L)->Q .non H'):sp_off C vs H Q E_
inductive sp_engine (C:Addr) (vs:List V) (H:Hp) (Q:VK) (E_:XK):Prop
 | mk (A:YA) (y:YR) (L:Kn) (_:vs=[.ref A.p]) (_:Has H (yL C A y++L)) (_:Q y.eng H):sp_engine C vs H Q E_
inductive sp_steps (C:Addr) (vs:List V) (H:Hp) (Q:VK) (E_:XK):Prop
 | mk (A:YA) (y:YR) (L:Kn) (_:vs=[.ref A.p]) (_:Has H (yL C A y++L)) (_:Q (.int y.trail.length) H):sp_steps C vs H Q E_
inductive sp_bells (C:Addr) (vs:List V) (H:Hp) (Q:VK) (E_:XK):Prop
 | mk (A:YA) (y:YR) (L:Kn) (_:vs=[.ref A.p]) (_:Has H (yL C A y++L)) (_:∀ H' l,Has H' ((l,.lst y.rung)::(yL C A y++L))->Q (.ref l) H'):sp_bells C vs H Q E_
inductive sp_pieces (C:Addr) (vs:List V) (H:Hp) (Q:VK) (E_:XK):Prop
 | mk (A:YA) (y:YR) (L:Kn) (_:vs=[.ref A.p]) (_:Has H (yL C A y++L)) (_:∀ H' l,Has H' ((l,.lst (y.kinds.map fun kv=>kV kv.1))::(yL C A y++L))->Q (.ref l) H'):sp_pieces C vs H Q E_
inductive sp_ykind (C:Addr) (vs:List V) (H:Hp) (Q:VK) (E_:XK):Prop
 | mk (A:YA) (y:YR) (L:Kn) (n:Int) (v:V) (_:vs=[.ref A.p,.int n]) (_:Has H (yL C A y++L)) (_:az y.kinds (Sum.inl n)=some v) (_:Q v H):sp_ykind C vs H Q E_
inductive sp_ynote (C:Addr) (vs:List V) (H:Hp) (Q:VK) (E_:XK):Prop
 | mk (A:YA) (y:YR) (L:Kn) (n:Int) (u v:V) (_:vs=[.ref A.p,.int n]) (_:Has H (yL C A y++L)) (_:az y.kinds (Sum.inl n)=some u) (_:az y.notes (Sum.inl n)=some v) (_:Q v H):sp_ynote C vs H Q E_
section
variable {P:Program}{w:World}{K:PySem.W.Frag}{mg:Str->Option Value}{base:Heap}{t:Adr}
theorem vh:FnScope ["self","end"] ["self","end"] (aj vy):={}
theorem ok_Jy (T:Txt K mg t):FnOk P w K mg base CX0 4 t.f_Jy t.d_Jy ["self","end"] (sp_put t.c_Yard):=by
 refine T.F_Jy.ok vh (fun vs H Q E h=>?_) (fun cdv A outer s H vs Q E hr h=>?_)
 ·obtain⟨_,_,_,_,_,_,_,rfl,_⟩:=h
  rfl
 ·obtain⟨A,y,L,b,n,e,j,rfl,hH,hj,th,q⟩:=h
  refine⟨_,(ae (av (aH (pv 0) T.cl_Yard T.M_J0 (ji T) hr (j3 T) .nil aM (aa (pv 1) af)))
   (ae (bH (pv 0) (pv 1) rfl)
   (ag (av (aO (pv 0) T.cl_Yard T.M_J2 (dj T) hr (fG T) .nil aM))))),?_⟩
  refine⟨_,U,A.p,A.dx,_,U,hH.get 1 U,(cH _ _ _).1,_,U,A,y,L,b,n,e,j,U,hH,hj,th,?_⟩
  refine⟨_,U,_,U,A.p,_,A.dx,_,U,hH.get 1 U,T.cl_Yard,T.n_Ja_end,(show 9<1000 by decide),?_⟩
  rw[bJ]
  have h1:Has _ (yL t.c_Yard A { y with eng:=.ref b }++L):=hH.puti 1 U (.ins t.c_Yard A.dx (fl A y.next (.ref b)))
  exact⟨_,U,A.p,A.dx,_,U,h1.get 1 U,(bY _ _ _).2.2.2.2.2.2.1,A,_,L,U,h1,fun H' a h2=>q H' a h2⟩
theorem scOf:FnScope ["self"] ["self"] (aj so):={}
theorem ue (T:Txt K mg t):FnOk P w K mg base CX0 2 t.f_J01 t.d_J01 ["self"] (sp_off t.c_Yard):=by
 refine T.F_J01.ok scOf (fun vs H Q E h=>?_) (fun cdv A outer s H vs Q E hr h=>?_)
 ·obtain⟨_,_,_,rfl,_⟩:=h
  rfl
 ·obtain⟨A,y,L,rfl,hH,q⟩:=h
  refine⟨_,(ae (bH (pv 0) aK rfl)
   (ag (av (aO (pv 0) T.cl_Yard T.M_J2 (dj T) hr (fG T) .nil aM)))),?_⟩
  refine⟨_,U,A.p,_,A.dx,_,U,hH.get 1 U,T.cl_Yard,T.n_Ja_end,(show 9<1000 by decide),?_⟩
  rw[bJ]
  have h1:Has _ (yL t.c_Yard A { y with eng:=.non }++L):=hH.puti 1 U (.ins t.c_Yard A.dx (fl A y.next .non))
  exact⟨_,U,A.p,A.dx,_,U,h1.get 1 U,(bY _ _ _).2.2.2.2.2.2.1,A,_,L,U,h1,fun H' a h2=>q H' a h2⟩
theorem scEg:FnScope ["self"] ["self"] (aj vW):={}
theorem ma (T:Txt K mg t):FnOk P w K mg base CX0 1 t.f_Ja t.d_Ja ["self"] (sp_engine t.c_Yard):=by
 refine T.F_Ja.ok scEg (fun vs H Q E h=>?_) (fun cdv A outer s H vs Q E hr h=>?_)
 ·obtain⟨_,_,_,rfl,_⟩:=h
  rfl
 ·obtain⟨A,y,L,rfl,hH,q⟩:=h
  refine⟨_,(ag (ap (aw (pv 0) rfl))),?_⟩
  exact⟨_,U,A.p,_,A.dx,_,_,U,hH.get 1 U,T.cl_Yard,T.n_Ja_end,d9 _ _ _,q⟩
theorem scSt:FnScope ["self"] ["self"] (aj vQ):={}
theorem sI (T:Txt K mg t):FnOk P w K mg base CX0 1 t.f_Jg t.d_Jg ["self"] (sp_steps t.c_Yard):=by
 refine T.F_Jg.ok scSt (fun vs H Q E h=>?_) (fun cdv A outer s H vs Q E hr h=>?_)
 ·obtain⟨_,_,_,rfl,_⟩:=h
  rfl
 ·obtain⟨A,y,L,rfl,hH,q⟩:=h
  refine⟨_,(ag (ap (ay aL (by rfl) T.z_len (by rfl) (aa (aw (pv 0) rfl) af)))),?_⟩
  exact⟨_,U,A.p,_,A.dx,_,_,U,hH.get 1 U,T.cl_Yard,T.n_Yard_trail,iI _ _ _,A.tr,_,U,.inl (SqL.of (hH.get 0 U)),q⟩
theorem scBe:FnScope ["self"] ["self"] (aj vN):={}
theorem ok_Jj (T:Txt K mg t):FnOk P w K mg base CX0 1 t.f_Jj t.d_Jj ["self"] (sp_bells t.c_Yard):=by
 refine T.F_Jj.ok scBe (fun vs H Q E h=>?_) (fun cdv A outer s H vs Q E hr h=>?_)
 ·obtain⟨_,_,_,rfl,_⟩:=h
  rfl
 ·obtain⟨A,y,L,rfl,hH,q⟩:=h
  refine⟨_,(ag (ap (aZ cx (by rfl) T.z_list (by rfl) (aa (aw (pv 0) rfl) af)))),?_⟩
  exact⟨_,U,A.p,_,A.dx,_,_,U,hH.get 1 U,T.cl_Yard,T.n_Yard_rung,fc _ _ _,A.g,_,U,.inl (SqL.of (hH.get 8 U)),fun l hl=>q _ l (hH.alloc hl _)⟩
theorem scPc:FnScope ["self"] ["self"] (aj vU):={}
theorem ok_Jc (T:Txt K mg t):FnOk P w K mg base CX0 1 t.f_Jc t.d_Jc ["self"] (sp_pieces t.c_Yard):=by
 refine T.F_Jc.ok scPc (fun vs H Q E h=>?_) (fun cdv A outer s H vs Q E hr h=>?_)
 ·obtain⟨_,_,_,rfl,_⟩:=h
  rfl
 ·obtain⟨A,y,L,rfl,hH,q⟩:=h
  refine⟨_,(ag (ap (aZ (f9 rfl) (by rfl) T.z_list (by rfl) (aa (aw (pv 0) rfl) af)))),?_⟩
  exact⟨_,U,A.p,_,A.dx,_,_,U,hH.get 1 U,T.cl_Yard,T.n_Yard_kinds,cg _ _ _,A.k,_,U,.inl (hH.get 3 U),fun l hl=>q _ l (hH.alloc hl _)⟩
theorem scYk:FnScope ["self","piece"] ["self","piece"] (aj vI):={}
theorem sF (T:Txt K mg t):FnOk P w K mg base CX0 2 t.f_Jo t.d_Jo ["self","piece"] (sp_ykind t.c_Yard):=by
 refine T.F_Jo.ok scYk (fun vs H Q E h=>?_) (fun cdv A outer s H vs Q E hr h=>?_)
 ·obtain⟨_,_,_,_,_,rfl,_⟩:=h
  rfl
 ·obtain⟨A,y,L,n,v,rfl,hH,hv,q⟩:=h
  have hu:=bi hr
  refine⟨_,(ae (av (aH (pv 0) T.cl_Yard T.M_J1 (jh T) hr (lE T) .nil aM (aa (pv 1) af)))
   (ag (ap (aq hu (aw (pv 0) rfl) (pv 1))))),?_⟩
  refine⟨_,U,A.p,A.dx,_,U,hH.get 1 U,(bY _ _ _).2.2.2.2.2.2.2.1,_,U,A,y,L,n,v,U,hH,hv,?_⟩
  refine⟨_,U,A.p,_,A.dx,_,_,U,hH.get 1 U,T.cl_Yard,T.n_Yard_kinds,cg _ _ _,_,U,A.k,_,U,?_,q⟩
  rw[<- hv]
  exact DGet.k (k:=Sum.inl n) (hH.get 3 U)
theorem scYn:FnScope ["self","piece"] ["self","piece"] (aj vD):={}
theorem ok_Jt (T:Txt K mg t):FnOk P w K mg base CX0 2 t.f_Jt t.d_Jt ["self","piece"] (sp_ynote t.c_Yard):=by
 refine T.F_Jt.ok scYn (fun vs H Q E h=>?_) (fun cdv A outer s H vs Q E hr h=>?_)
 ·obtain⟨_,_,_,_,_,_,rfl,_⟩:=h
  rfl
 ·obtain⟨A,y,L,n,u,v,rfl,hH,hk,hv,q⟩:=h
  have hu:=bi hr
  refine⟨_,(ae (av (aH (pv 0) T.cl_Yard T.M_J1 (jh T) hr (lE T) .nil aM (aa (pv 1) af)))
   (ae (au (bB (cv hu (pv 1) (aw (pv 0) rfl)))
    (ag bU)
    al)
   (ag (ap (aq hu (aw (pv 0) rfl) (pv 1)))))),?_⟩
  refine⟨_,U,A.p,A.dx,_,U,hH.get 1 U,(bY _ _ _).2.2.2.2.2.2.2.1,_,U,A,y,L,n,u,U,hH,hk,?_⟩
  refine⟨_,U,_,U,A.p,_,A.dx,_,_,U,hH.get 1 U,T.cl_Yard,T.n_Yard_notes,cf _ _ _,A.n,_,U,DGet.k (k:=Sum.inl n) (hH.get 4 U),_,U,ifF (by rw[hv]; rfl) ?_⟩
  refine⟨_,U,A.p,_,A.dx,_,_,U,hH.get 1 U,T.cl_Yard,T.n_Yard_notes,cf _ _ _,_,U,A.n,_,U,?_,q⟩
  rw[<- hv]
  exact DGet.k (k:=Sum.inl n) (hH.get 4 U)
end
def u5 (y:Str):Prop:=(endsD.any fun p=>decide (y=p.1))=false
def gS (C:Addr):Sp:=fun vs H Q E=>∃ y:Str,vs=[.str y]/\u5 y/\(reprText y).length<=1000/\∀ a,E (.ref C) (some a) H
def oz (CK CE:Addr):Sp:=fun vs H Q E=>∃ (y:Str) (e:Int),vs=[.str y,.int e]/\((u5 y/\(reprText y).length<=1000/\∀ a,E (.ref CK) (some a) H)∨∃ k:Kd,y=k.str/\(e<0∨k.many<=e)/\L2.Small e/\∀ a,E (.ref CE) (some a) H)
def oB (C:Addr):Sp:=fun vs H Q E=>∃ s:Int,vs=[.int s]/\s≠1/\s≠2/\L2.Small s/\∀ a,E (.ref C) (some a) H
theorem Kd.len (k:Kd):k.str.length<=7/\4<=k.str.length:=by cases k <;> decide +kernel
section
variable {P:Program}{w:World}{K:PySem.W.Frag}{mg:Str->Option Value}{base:Heap}{t:Adr}
theorem qV (T:Txt K mg t):FnOk P w K mg base (CXr P w) 1 t.f_J61 t.d_J61 ["kind"] (gS t.c_NoKind):=by
 refine T.F_J61.okR vn (fun vs H Q E h=>?_) (fun cdv A outer s H vs Q E hr h=>?_)
 ·obtain⟨_,rfl,_⟩:=h
  rfl
 ·obtain⟨y,rfl,hb,hy,q⟩:=h
  obtain⟨aE,eE,hE⟩:=T.x_ENDS
  have T_r_ENDS:RelV (.ref aE) t.u_ENDS:=by rw[eE]; rfl
  refine⟨_,(ae (au (ak eZ (pv 0) (aQ (by rfl) T.g_ENDS T_r_ENDS) (by rfl))
    (ag (b8 cA rfl (by rfl) T.m_NoKind (bP T.x_NoKind) (bN (aV ah (aV (lU (pv 0)) cW)))))
    al)
   (ag (ap (aR wg (aQ (by rfl) T.g_ENDS T_r_ENDS) (pv 0))))),?_⟩
  refine⟨_,U,_,aE,endsD,U,U,hE,_,U,?_⟩
  rw[show(endsD.any fun p=>decide (y=p.1))=false from hb]
  exact cP (rzR rfl hy q)
theorem mn (T:Txt K mg t):FnOk P w K mg base (CXr P w) 1 t.f_J61 t.d_J61 ["kind"] (fun vs H Q E=>ou vs H Q E∨gS t.c_NoKind vs H Q E):=(k9 T).lift.or (qV T)
theorem uh (T:Txt K mg t):FnOk P w K mg base (CXr P w) 1 t.f_Jv t.d_Jv ["kind"] (gS t.c_NoKind):=by
 refine T.F_Jv.okR vj (fun vs H Q E h=>?_) (fun cdv A outer s H vs Q E hr h=>?_)
 ·obtain⟨_,rfl,_⟩:=h
  rfl
 ·obtain⟨y,rfl,hb,hy,q⟩:=h
  obtain⟨aE,eE,hE⟩:=T.x_ENDS
  have T_r_ENDS:RelV (.ref aE) t.u_ENDS:=by rw[eE]; rfl
  obtain⟨aP,oP,its,n,eP,h1,h2,h3,h4,h5⟩:=T.x_POINTS
  have T_r_POINTS:RelV (.ref aP) t.u_POINTS:=by rw[eP]; rfl
  refine⟨_,(ae (au (ak eZ (pv 0) (aQ (by rfl) T.g_ENDS T_r_ENDS) (by rfl))
    (ag (b8 cA rfl (by rfl) T.m_NoKind (bP T.x_NoKind) (bN (aV ah (aV (lU (pv 0)) cW)))))
    al)
   (ag (ap (bC jf (pv 0) (aQ (by rfl) T.g_POINTS T_r_POINTS) (by rfl))))),?_⟩
  refine⟨_,U,_,aE,endsD,U,U,hE,_,U,?_⟩
  rw[show(endsD.any fun p=>decide (y=p.1))=false from hb]
  exact cP (rzR rfl hy q)
theorem uz (T:Txt K mg t):FnOk P w K mg base (CXr P w) 1 t.f_Jv t.d_Jv ["kind"] (fun vs H Q E=>rT vs H Q E∨gS t.c_NoKind vs H Q E):=(lZ T).lift.or (uh T)
theorem uk (T:Txt K mg t):FnOk P w K mg base (CXr P w) 2 t.f_Jl t.d_Jl ["kind","end"] (oz t.c_NoKind t.c_NoEnd):=by
 refine T.F_Jl.okR scCe (fun vs H Q E h=>?_) (fun cdv A outer s H vs Q E hr h=>?_)
 ·obtain⟨_,_,rfl,_⟩:=h
  rfl
 ·obtain⟨y,e,rfl,h⟩:=h
  refine⟨_,(ae (ax (i:=2) scCe.nd rfl (Or.inl rfl) (dy (mn T) (hr.mono (by decide)) (by rfl) T.m_J61 T.F_J61.kp (mS T) .nil cY (aa (pv 0) af)))
   (ag (au (PW.pt (cQ (ak cG (pv 1) ai (am _)) (ck (ak ii (pv 1) (pv 2) (am _)))))
    (ag (b8 cA rfl (by rfl) T.m_NoEnd (bP T.x_NoEnd) (bN (aV ah (aV (dZ (pv 0)) (aV ah (aV (dZ (pv 1)) cW)))))))
    al))),?_⟩
  rcases h with ⟨hb,hy,q⟩ | ⟨k,rfl,he,hs,q⟩
  ·exact⟨_,U,.inr ⟨y,U,hb,hy,q⟩⟩
  ·refine⟨_,U,.inl ⟨k,U,?_⟩⟩
   have hl:k.str.length<=1000:=Nat.le_trans k.len.1 (by decide)
   by_cases h0:e<0
   ·exact⟨_,U,_,_,U,U,_,U,ifT (decide_eq_true h0) (cP (rz2 rfl hl rfl hs q))⟩
   ·refine⟨_,U,_,_,U,U,_,U,ifF (decide_eq_false h0) ?_⟩
    exact⟨_,U,_,U,_,_,U,U,_,U,ifT (decide_eq_true (by omega)) (rz2 rfl hl rfl hs q)⟩
theorem uA (T:Txt K mg t):FnOk P w K mg base (CXr P w) 2 t.f_Jl t.d_Jl ["kind","end"] (fun vs H Q E=>sp_Jl vs H Q E∨oz t.c_NoKind t.c_NoEnd vs H Q E):=(py T).lift.or (uk T)
theorem uq (T:Txt K mg t):FnOk P w K mg base (CXr P w) 1 t.f_Jd t.d_Jd ["side"] (oB t.c_NoSide):=by
 refine T.F_Jd.okR vo (fun vs H Q E h=>?_) (fun cdv A outer s H vs Q E hr h=>?_)
 ·obtain⟨_,rfl,_⟩:=h
  rfl
 ·obtain⟨z,rfl,h1,h2,hs,q⟩:=h
  refine⟨_,(ag (au (PW.pt (bM (ak ig (pv 0) ai (am _)) (bq (ak ig (pv 0) ai (am _)))))
    (ag (b8 cA rfl (by rfl) T.m_NoSide (bP T.x_NoSide) (bN (aV ah (aV (dZ (pv 0)) cW)))))
    al)),?_⟩
  refine⟨_,U,U,_,U,?_⟩
  rw[fE]
  refine ifT (by simp[h1]) ?_
  refine⟨_,U,U,_,U,?_⟩
  rw[fE]
  exact ifT (by simp[h2]) (rz1 rfl hs q)
theorem pG (T:Txt K mg t):FnOk P w K mg base (CXr P w) 1 t.f_Jd t.d_Jd ["side"] (fun vs H Q E=>sp_Jd vs H Q E∨oB t.c_NoSide vs H Q E):=(l9 T).lift.or (uq T)
end
def gc (P E:Addr) (y:YR) (n e:Int) (X:XK) (H:Hp):Prop :=
 (az y.kinds (Sum.inl n)=none/\L2.Small n/\∀ a,X (.ref P) (some a) H)∨∃ k:Kd,az y.kinds (Sum.inl n)=some (.str k.str)/\(e<0∨k.many<=e)/\L2.Small e/\∀ a,X (.ref E) (some a) H
def eu (C X:Addr):Sp:=fun vs H _ E=>∃ (A:YA) (y:YR) (L:Kn) (n:Int),vs=[.ref A.p,.int n]/\Has H (yL C A y++L)/\az y.kinds (Sum.inl n)=none/\L2.Small n/\∀ a,E (.ref X) (some a) H
def fh (C X:Addr):Sp:=fun vs H _ E=>∃ (A:YA) (y:YR) (L:Kn) (r:Int),vs=[.ref A.p,.int r]/\Has H (yL C A y++L)/\(r<0∨(y.sides.length:Int)<=r)/\L2.Small r/\∀ a,E (.ref X) (some a) H
def oA (X:Addr):Sp:=fun vs H _ E=>∃ n:Int,vs=[.int n]/\(n<0∨9999<n)/\L2.Small n/\∀ a,E (.ref X) (some a) H
def gg (C P X:Addr):Sp:=fun vs H _ E=>∃ (A:YA) (y:YR) (L:Kn) (b:Addr) (n e:Int) (j:Nat),vs=[.ref A.p,.ref b]/\Has H (yL C A y++L)/\L[j]?=some (b,.tup [.int n,.int e])/\gc P X y n e E H
section
variable {P:Program}{w:World}{K:PySem.W.Frag}{mg:Str->Option Value}{base:Heap}{t:Adr}
theorem uv (T:Txt K mg t):FnOk P w K mg base (CXr P w) 1 t.f_J1 t.d_J1 ["self","piece"] (eu t.c_Yard t.c_NoPiece):=by
 refine T.F_J1.okR vq (fun vs H Q E h=>?_) (fun cdv A outer s H vs Q E hr h=>?_)
 ·obtain⟨_,_,_,_,rfl,_⟩:=h
  rfl
 ·obtain⟨A,y,L,n,rfl,hH,hv,hs,q⟩:=h
  have hu:=bi hr
  refine⟨_,(ag (au (bB (cv hu (pv 1) (aw (pv 0) rfl)))
    (ag (b8 cA rfl (by rfl) T.m_NoPiece (bP T.x_NoPiece) (bN (aV ah (aV (dZ (pv 1)) cW)))))
    al)),?_⟩
  refine⟨_,U,_,U,A.p,_,A.dx,_,_,U,hH.get 1 U,T.cl_Yard,T.n_Yard_kinds,cg _ _ _,A.k,_,U,DGet.k (k:=Sum.inl n) (hH.get 3 U),_,U,?_⟩
  exact ifT (by rw[hv]; rfl) (rz1 rfl hs q)
theorem pI (T:Txt K mg t):FnOk P w K mg base (CXr P w) 1 t.f_J1 t.d_J1 ["self","piece"] (fun vs H Q E=>sp_check_piece t.c_Yard vs H Q E∨eu t.c_Yard t.c_NoPiece vs H Q E):=(jh T).lift.or (uv T)
theorem uu (T:Txt K mg t):FnOk P w K mg base (CXr P w) 1 t.f_J3 t.d_J3 ["self","rod"] (fh t.c_Yard t.c_NoRod):=by
 refine T.F_J3.okR vp (fun vs H Q E h=>?_) (fun cdv A outer s H vs Q E hr h=>?_)
 ·obtain⟨_,_,_,_,rfl,_⟩:=h
  rfl
 ·obtain⟨A,y,L,r,rfl,hH,hb,hs,q⟩:=h
  refine⟨_,(ag (au (PW.pt (cQ (ak cG (pv 1) ai (am _)) (ck (ak ii (pv 1) (ay aL (by rfl) T.z_len (by rfl) (aa (aw (pv 0) rfl) af)) (am _)))))
    (ag (b8 cA rfl (by rfl) T.m_NoRod (bP T.x_NoRod) (bN (aV ah (aV (dZ (pv 1)) cW)))))
    al)),?_⟩
  by_cases h0:r<0
  ·exact⟨_,U,_,_,U,U,_,U,ifT (decide_eq_true h0) (cP (rz1 rfl hs q))⟩
  ·refine⟨_,U,_,_,U,U,_,U,ifF (decide_eq_false h0) ?_⟩
   refine⟨_,U,_,U,A.p,_,A.dx,_,_,U,hH.get 1 U,T.cl_Yard,T.n_Yard_sides,bX _ _ _,A.s,_,U,.inl (SqL.of (hH.get 6 U)),_,_,U,U,_,U,?_⟩
   exact ifT (decide_eq_true (by omega)) (rz1 rfl hs q)
theorem pH (T:Txt K mg t):FnOk P w K mg base (CXr P w) 1 t.f_J3 t.d_J3 ["self","rod"] (fun vs H Q E=>sp_check_rod t.c_Yard vs H Q E∨fh t.c_Yard t.c_NoRod vs H Q E):=(me T).lift.or (uu T)
theorem uo (T:Txt K mg t):FnOk P w K mg base (CXr P w) 1 t.f_Jf t.d_Jf ["note"] (oA t.c_NoNote):=by
 refine T.F_Jf.okR vt (fun vs H Q E h=>?_) (fun cdv A outer s H vs Q E hr h=>?_)
 ·obtain⟨_,rfl,_⟩:=h
  rfl
 ·obtain⟨n,rfl,hb,hs,q⟩:=h
  refine⟨_,(ag (au (PW.pt (cQ (ak cG (pv 0) ai (am _)) (ck (ak fO (pv 0) (aQ (by rfl) T.g_LAST_NOTE T.r_LAST_NOTE) (am _)))))
    (ag (b8 cA rfl (by rfl) T.m_NoNote (bP T.x_NoNote) (bN (aV ah (aV (dZ (pv 0)) cW)))))
    al)),?_⟩
  by_cases h0:n<0
  ·exact⟨_,U,_,_,U,U,_,U,ifT (decide_eq_true h0) (cP (rz1 rfl hs q))⟩
  ·refine⟨_,U,_,_,U,U,_,U,ifF (decide_eq_false h0) ?_⟩
   exact⟨_,U,_,_,U,U,_,U,ifT (decide_eq_true (by omega)) (rz1 rfl hs q)⟩
theorem uB (T:Txt K mg t):FnOk P w K mg base (CXr P w) 1 t.f_Jf t.d_Jf ["note"] (fun vs H Q E=>sp_Jf vs H Q E∨oA t.c_NoNote vs H Q E):=(sJ T).lift.or (uo T)
theorem uw (T:Txt K mg t):FnOk P w K mg base (CXr P w) 3 t.f_J0 t.d_J0 ["self","end"] (gg t.c_Yard t.c_NoPiece t.c_NoEnd):=by
 refine T.F_J0.okR scCt (fun vs H Q E h=>?_) (fun cdv A outer s H vs Q E hr h=>?_)
 ·obtain⟨_,_,_,_,_,_,_,rfl,_⟩:=h
  rfl
 ·obtain⟨A,y,L,b,n,e,j,rfl,hH,hj,hN⟩:=h
  have hu:=bi hr
  refine⟨_,(ae (cD (pv 1) (dC rfl (aU (aI (i:=2) scCt.nd rfl (Or.inl rfl)) (aU (aI (i:=3) scCt.nd rfl (Or.inl rfl)) cL))))
   (ae (av (aH (pv 0) T.cl_Yard T.M_J1 (pI T) hr (lE T) .nil cY (aa (pv 2) af)))
   (ag (av (dy (uA T) (hr.mono (by decide)) (by rfl) T.m_Jl T.F_Jl.kp (vb T) .nil cY (aa (aq hu (aw (pv 0) rfl) (pv 2)) (aa (pv 3) af))))))),?_⟩
  have gb:=hH.get (j+9) (by simpa [yL] using hj)
  refine⟨_,U,b,_,U,SqT.of gb,U,_,_,U,_,_,U,U,?_⟩
  rcases hN with ⟨hv,hs,q⟩ | ⟨k,hk,he,hs,q⟩
  ·exact⟨_,U,A.p,A.dx,_,U,hH.get 1 U,(bY _ _ _).2.2.2.2.2.2.2.1,_,U,.inr ⟨A,y,L,n,U,hH,hv,hs,q⟩⟩
  ·refine⟨_,U,A.p,A.dx,_,U,hH.get 1 U,(bY _ _ _).2.2.2.2.2.2.2.1,_,U,.inl ⟨A,y,L,n,_,U,hH,hk,?_⟩⟩
   refine⟨_,U,A.p,_,A.dx,_,_,U,hH.get 1 U,T.cl_Yard,T.n_Yard_kinds,cg _ _ _,_,U,A.k,_,U,(by rw[<- hk]; exact DGet.k (k:=Sum.inl n) (hH.get 3 U)),_,U,.inr ⟨k.str,e,U,.inr ⟨k,U,he,hs,q⟩⟩⟩
theorem jK (T:Txt K mg t):FnOk P w K mg base (CXr P w) 3 t.f_J0 t.d_J0 ["self","end"] (fun vs H Q E=>sp_check_there t.c_Yard vs H Q E∨gg t.c_Yard t.c_NoPiece t.c_NoEnd vs H Q E):=(ji T).lift.or (uw T)
theorem uf (T:Txt K mg t):FnOk P w K mg base (CXr P w) 4 t.f_Jy t.d_Jy ["self","end"] (gg t.c_Yard t.c_NoPiece t.c_NoEnd):=by
 refine T.F_Jy.okR vh (fun vs H Q E h=>?_) (fun cdv A outer s H vs Q E hr h=>?_)
 ·obtain⟨_,_,_,_,_,_,_,rfl,_⟩:=h
  rfl
 ·obtain⟨A,y,L,b,n,e,j,rfl,hH,hj,hN⟩:=h
  have hu:=bi hr
  refine⟨_,(ae (av (aH (pv 0) T.cl_Yard T.M_J0 (jK T) hr (j3 T) .nil cY (aa (pv 1) af)))
   (ae (bH (pv 0) (pv 1) rfl)
   (ag (av (aO (pv 0) T.cl_Yard T.M_J2 (dj T) hr (fG T) .nil aM))))),?_⟩
  exact⟨_,U,A.p,A.dx,_,U,hH.get 1 U,(cH _ _ _).1,_,U,.inr ⟨A,y,L,b,n,e,j,U,hH,hj,hN⟩⟩
def qG (C P X Y:Addr):Sp:=fun vs H _ E=>∃ (A:YA) (y:YR) (L:Kn) (b:Addr) (n e:Int) (j:Nat),vs=[.ref A.p,.ref b]/\Has H (yL C A y++L)/\L[j]?=some (b,.tup [.int n,.int e])/\(gc P X y n e E H∨(eF y n e/\az y.mates (kE n e)=none/\L2.Small n/\L2.Small e/\∀ a,E (.ref Y) (some a) H))
theorem ur (T:Txt K mg t):FnOk P w K mg base (CXr P w) 4 t.f_Jb t.d_Jb ["self","end"] (qG t.c_Yard t.c_NoPiece t.c_NoEnd t.c_NotLinked):=by
 refine T.F_Jb.okR scUl (fun vs H Q E h=>?_) (fun cdv A outer s H vs Q E hr h=>?_)
 ·obtain⟨_,_,_,_,_,_,_,rfl,_⟩:=h
  rfl
 ·obtain⟨A,y,L,b,n,e,j,rfl,hH,hj,hN⟩:=h
  have hu:=bi hr
  have gb:=hH.get (j+9) (by simpa [yL] using hj)
  refine⟨_,(ae (av (aH (pv 0) T.cl_Yard T.M_J0 (jK T) hr (j3 T) .nil cY (aa (pv 1) af)))
   (ae (au (bB (cv hu (pv 1) (aw (pv 0) rfl)))
    (ag (b8 cA rfl (by rfl) T.m_NotLinked (bP T.x_NotLinked) (bN (aV (jG hr.gd hr.units (pv 1)) (aV ah cW)))))
    al)
   (ae (ax (i:=2) scUl.nd rfl (Or.inl rfl) (aq hu (aw (pv 0) rfl) (pv 1)))
   (ae (fN hu (aw (pv 0) rfl) (pv 1))
   (ae (fN hu (aw (pv 0) rfl) (pv 2))
   (ag (av (aO (pv 0) T.cl_Yard T.M_J2 (dj T) hr (fG T) .nil aM)))))))),?_⟩
  rcases hN with hN | ⟨th,hv,sn,se,q⟩
  ·exact⟨_,U,A.p,A.dx,_,U,hH.get 1 U,(cH _ _ _).1,_,U,.inr ⟨A,y,L,b,n,e,j,U,hH,hj,hN⟩⟩
  ·refine⟨_,U,A.p,A.dx,_,U,hH.get 1 U,(cH _ _ _).1,_,U,.inl ⟨A,y,L,b,n,e,j,U,hH,hj,th,?_⟩⟩
   refine⟨_,U,_,U,A.p,_,A.dx,_,_,U,hH.get 1 U,T.cl_Yard,T.n_Yard_mates,bv _ _ _,A.m,_,U,DGet.t (k:=kE n e) (hH.get 7 U) gb,_,U,ifT (by rw[hv]; rfl) ?_⟩
   exact rzT rfl gb sn se q
def ow (C P X S Y:Addr):Sp:=fun vs H _ E=>∃ (A:YA) (y:YR) (L:Kn) (b1 b2:Addr) (n1 e1 n2 e2:Int) (j1 j2:Nat),vs=[.ref A.p,.ref b1,.ref b2]/\Has H (yL C A y++L)/\L[j1]?=some (b1,.tup [.int n1,.int e1])/\L[j2]?=some (b2,.tup [.int n2,.int e2]) /\
 (gc P X y n1 e1 E H∨(eF y n1 e1/\gc P X y n2 e2 E H) ∨
  (eF y n1 e1/\eF y n2 e2/\L2.Small n1/\L2.Small e1/\L2.Small n2/\L2.Small e2/\((n1=n2/\e1=e2/\∀ a,E (.ref S) (some a) H) ∨
   (¬ (n1=n2/\e1=e2)/\(az y.mates (kE n1 e1)≠none∨az y.mates (kE n2 e2)≠none)/\∀ H' N a,Has H' (N++(yL C A y++L))->E (.ref Y) (some a) H'))))
theorem uj (T:Txt K mg t):FnOk P w K mg base (CXr P w) 4 t.f_Jn t.d_Jn ["self","one","other"] (ow t.c_Yard t.c_NoPiece t.c_NoEnd t.c_SameEnd t.c_Linked):=by
 refine T.F_Jn.okR scLk (fun vs H Q E h=>?_) (fun cdv A outer s H vs Q E hr h=>?_)
 ·obtain⟨_,_,_,_,_,_,_,_,_,_,_,rfl,_⟩:=h
  rfl
 ·obtain⟨A,y,L,b1,b2,n1,e1,n2,e2,j1,j2,rfl,hH,hj1,hj2,hN⟩:=h
  have hu:=bi hr
  have g1:=hH.get (j1+9) (by simpa [yL] using hj1)
  have g2:=hH.get (j2+9) (by simpa [yL] using hj2)
  refine⟨_,(ae (av (aH (pv 0) T.cl_Yard T.M_J0 (jK T) hr (j3 T) .nil cY (aa (pv 1) af)))
   (ae (av (aH (pv 0) T.cl_Yard T.M_J0 (jK T) hr (j3 T) .nil cY (aa (pv 2) af)))
   (ae (au (ak (jH hr.units) (pv 1) (pv 2) (am _))
    (ag (b8 cA rfl (by rfl) T.m_SameEnd (bP T.x_SameEnd) (bN (aV (jG hr.gd hr.units (pv 1)) (aV ah cW)))))
    al)
   (ae (cK PassesOwn.leaving rfl (oZ (aF (aa (pv 1) (aa (pv 2) af)))) (aI (i:=3) scLk.nd rfl (Or.inl rfl))
    (ag (au (bB (cU hu (pv 3) (aw (pv 0) rfl)))
      (ag (b8 cA rfl (by rfl) T.m_Linked (bP T.x_Linked) (bN (aV (jG hr.gd hr.units (pv 3)) (aV ah cW)))))
      al)))
   (ae (aJ hu (aw (pv 0) rfl) (pv 1) (pv 2) rfl)
   (ae (aJ hu (aw (pv 0) rfl) (pv 2) (pv 1) rfl)
   (ag (av (aO (pv 0) T.cl_Yard T.M_J2 (dj T) hr (fG T) .nil aM))))))))),?_⟩
  rcases hN with hN | ⟨t1,hN⟩ | ⟨t1,t2,sn1,se1,sn2,se2,hN⟩
  ·exact⟨_,U,A.p,A.dx,_,U,hH.get 1 U,(cH _ _ _).1,_,U,.inr ⟨A,y,L,b1,n1,e1,j1,U,hH,hj1,hN⟩⟩
  ·refine⟨_,U,A.p,A.dx,_,U,hH.get 1 U,(cH _ _ _).1,_,U,.inl ⟨A,y,L,b1,n1,e1,j1,U,hH,hj1,t1,?_⟩⟩
   exact⟨_,U,A.p,A.dx,_,U,hH.get 1 U,(cH _ _ _).1,_,U,.inr ⟨A,y,L,b2,n2,e2,j2,U,hH,hj2,hN⟩⟩
  ·refine⟨_,U,A.p,A.dx,_,U,hH.get 1 U,(cH _ _ _).1,_,U,.inl ⟨A,y,L,b1,n1,e1,j1,U,hH,hj1,t1,?_⟩⟩
   refine⟨_,U,A.p,A.dx,_,U,hH.get 1 U,(cH _ _ _).1,_,U,.inl ⟨A,y,L,b2,n2,e2,j2,U,hH,hj2,t2,?_⟩⟩
   rcases hN with ⟨rfl,rfl,q⟩ | ⟨ne,hm,q⟩
   ·refine⟨_,U,_,U,b1,b2,[n1,e1],[n1,e1],U,U,g1,g2,_,U,ifT (decide_eq_true rfl) ?_⟩
    exact rzT rfl g1 sn1 se1 q
   ·have ne':¬ [n1,e1]=[n2,e2]:=fun z=>ne (by cases z; exact⟨U,U⟩)
    refine⟨_,U,_,U,b1,b2,[n1,e1],[n2,e2],U,U,g1,g2,_,U,ifF (decide_eq_false ne') ?_⟩
    refine⟨_,U,_,U,(show 2<=sizeLine by decide),fun p hp=>?_⟩
    have h1:=(hH.alloc hp (.tup [.ref b1,.ref b2]))
    generalize upd H p _=H1 at h1 ⊢
    refine⟨p,U,⟨_,SqT.of (h1.get 0 U)⟩,mF (xs:=[.ref b1,.ref b2]) (fun i σ H'=>H'=H1/\(∃ o,σ=[some (.ref A.p),some (.ref b1),some (.ref b2),o])/\(1<=i->az y.mates (kE n1 e1)=none)/\i<=1) ⟨U,⟨_,U⟩,fun h=>absurd h (by decide),by decide⟩ (fun i σ H' _ ⟨e,_⟩=>by rw[e]; exact SqT.of (h1.get 0 U)) ?_ ?_⟩
    ·rintro i x σ H' hx ⟨rfl,⟨o,rfl⟩,hv,hi⟩
     have k1:=h1.get (j1+10) (by simpa [yL] using hj1)
     have k2:=h1.get (j2+10) (by simpa [yL] using hj2)
     match i,hx,hv,hi with
     | 0,hx,hv,hi=>
      cases hx
      by_cases v1:az y.mates (kE n1 e1)=none
      ·exact⟨_,U,_,U,A.p,_,A.dx,_,_,U,h1.get 2 U,T.cl_Yard,T.n_Yard_mates,bv _ _ _,A.m,_,U,DGet.t (k:=kE n1 e1) (h1.get 8 U) k1,_,U,ifF (by rw[v1]; rfl) ⟨U,⟨_,U⟩,fun _=>v1,by decide⟩⟩
      ·refine⟨_,U,_,U,A.p,_,A.dx,_,_,U,h1.get 2 U,T.cl_Yard,T.n_Yard_mates,bv _ _ _,A.m,_,U,DGet.t (k:=kE n1 e1) (h1.get 8 U) k1,_,U,ifT (by cases e:az y.mates (kE n1 e1) with | none=>exact absurd e v1 | some v=>rfl) ?_⟩
       exact rzT rfl k1 sn1 se1 (fun a=>q H' [_] a h1)
     | 1,hx,hv,hi=>
      cases hx
      have v2:az y.mates (kE n2 e2)≠none:=hm.resolve_left (fun z=>z (hv (by decide)))
      refine⟨_,U,_,U,A.p,_,A.dx,_,_,U,h1.get 2 U,T.cl_Yard,T.n_Yard_mates,bv _ _ _,A.m,_,U,DGet.t (k:=kE n2 e2) (h1.get 8 U) k2,_,U,ifT (by cases e:az y.mates (kE n2 e2) with | none=>exact absurd e v2 | some v=>rfl) ?_⟩
      exact rzT rfl k2 sn2 se2 (fun a=>q H' [_] a h1)
    ·rintro σ H' ⟨rfl,_,_,hi⟩
     exact absurd hi (show ¬ 2<=1 by decide)
def nc (C X Y:Addr):Sp:=fun vs H _ E=>∃ (A:YA) (y:YR) (L:Kn) (r s:Int),vs=[.ref A.p,.int r,.int s]/\Has H (yL C A y++L)/\(((r<0∨(y.sides.length:Int)<=r)/\L2.Small r/\∀ a,E (.ref X) (some a) H)∨(0<=r/\r<y.sides.length/\s≠1/\s≠2/\L2.Small s/\∀ a,E (.ref Y) (some a) H))
theorem um (T:Txt K mg t):FnOk P w K mg base (CXr P w) 2 t.f_Ji t.d_Ji ["self","rod","side"] (nc t.c_Yard t.c_NoRod t.c_NoSide):=by
 refine T.F_Ji.okR vg (fun vs H Q E h=>?_) (fun cdv A outer s H vs Q E hr h=>?_)
 ·obtain⟨_,_,_,_,_,rfl,_⟩:=h
  rfl
 ·obtain⟨A,y,L,r,z,rfl,hH,hN⟩:=h
  refine⟨_,(ae (av (aH (pv 0) T.cl_Yard T.M_J3 (pH T) hr (qv T) .nil cY (aa (pv 1) af)))
   (ae (av (dy (pG T) (hr.mono (by decide)) (by rfl) T.m_Jd T.F_Jd.kp (qu T) .nil cY (aa (pv 2) af)))
   (ae (cD (pv 2) (gl (aw (pv 0) rfl) (pv 1) dN))
   (ag (av (aO (pv 0) T.cl_Yard T.M_J2 (dj T) hr (fG T) .nil aM)))))),?_⟩
  refine⟨_,U,A.p,A.dx,_,U,hH.get 1 U,(bY _ _ _).2.2.2.2.2.2.2.2,_,U,?_⟩
  rcases hN with ⟨hb,hs,q⟩ | ⟨r0,r1,s1,s2,hs,q⟩
  ·exact .inr ⟨A,y,L,r,U,hH,hb,hs,q⟩
  ·refine .inl ⟨A,y,L,r,U,hH,r0,r1,?_⟩
   exact⟨_,U,.inr ⟨z,U,s1,s2,hs,q⟩⟩
def j9 (X:Addr):Sp:=fun vs H _ E=>∃ (p:Addr) (s:Int),vs=[.ref p,.int s]/\s≠1/\s≠2/\L2.Small s/\∀ a,E (.ref X) (some a) H
theorem ut (T:Txt K mg t):FnOk P w K mg base (CXr P w) 2 t.f_J9 t.d_J9 ["self","side"] (j9 t.c_NoSide):=by
 refine T.F_J9.okR vi (fun vs H Q E h=>?_) (fun cdv A outer s H vs Q E hr h=>?_)
 ·obtain⟨_,_,rfl,_⟩:=h
  rfl
 ·obtain⟨p,z,rfl,s1,s2,hs,q⟩:=h
  refine⟨_,(ae (av (dy (pG T) (hr.mono (by decide)) (by rfl) T.m_Jd T.F_Jd.kp (qu T) .nil cY (aa (pv 1) af)))
   (ae (av (fi PySem.F.plainAttrs_list PySem.F.slot_list_append PySem.F.type_list_append bW (aw (pv 0) rfl) (aa (pv 1) af)))
   (ae (av (aO (pv 0) T.cl_Yard T.M_J2 (dj T) hr (fG T) .nil aM))
   (ag (ap (aC dD (ay aL (by rfl) T.z_len (by rfl) (aa (aw (pv 0) rfl) af)) ai)))))),?_⟩
  exact⟨_,U,.inr ⟨z,U,s1,s2,hs,q⟩⟩
end
theorem sQ (A:YA) (next:Int) (eng:V):(fl A next eng).lookup ("lift" : Str)=none:=by kernel_rfl
def oy (C P Y O:Addr):Sp:=fun vs H _ E=>∃ (A:YA) (y:YR) (L:Kn) (n:Int),vs=[.ref A.p,.int n]/\Has H (yL C A y++L)/\L2.Small n /\
 ((az y.kinds (Sum.inl n)=none/\∀ a,E (.ref P) (some a) H)∨∃ k:Kd,az y.kinds (Sum.inl n)=some (.str k.str) /\
  (((∃ e:Int,0<=e/\e<k.many/\az y.mates (kE n e)≠none)/\∀ H' N a,Has H' (N++(yL C A y++L))->E (.ref Y) (some a) H') ∨
   ((∀ e:Int,0<=e->e<k.many->az y.mates (kE n e)=none)/\(∃ (b:Addr) (m:Int),y.eng=.ref b/\(b,HO.tup [.int n,.int m]) ∈ L)/\∀ H' a,Has H' (yL C A y++L)->E (.ref O) (some a) H')))
section
variable {P:Program}{w:World}{K:PySem.W.Frag}{mg:Str->Option Value}{base:Heap}{t:Adr}
theorem scLf:FnScope ["self","piece","end"] ["self","piece"] (aj vF):={}
theorem ui (T:Txt K mg t):FnOk P w K mg base (CXr P w) 2 t.f_Jr t.d_Jr ["self","piece"] (oy t.c_Yard t.c_NoPiece t.c_Linked t.c_Occupied):=by
 refine T.F_Jr.okR scLf (fun vs H Q E h=>?_) (fun cdv A outer s H vs Q E hr h=>?_)
 ·obtain⟨_,_,_,_,rfl,_⟩:=h
  rfl
 ·obtain⟨A,y,L,n,rfl,hH,hs,hN⟩:=h
  have hu:=bi hr
  refine⟨_,(ae (av (aH (pv 0) T.cl_Yard T.M_J1 (pI T) hr (lE T) .nil cY (aa (pv 1) af)))
   (ae (cK PassesOwn.leaving rfl (cu (by rfl) T.z_range (aa (dy (mn T) (hr.mono (by decide)) (by rfl) T.m_J61 T.F_J61.kp (mS T) .nil cY (aa (aq hu (aw (pv 0) rfl) (pv 1)) af)) af)) (aI (i:=2) scLf.nd rfl (Or.inl rfl))
    (ag (au (bB (cU hu (aF (aa (pv 1) (aa (pv 2) af))) (aw (pv 0) rfl)))
      (ag (b8 cA rfl (by rfl) T.m_Linked (bP T.x_Linked) (bN (aV ah (aV (dZ (pv 2)) (aV ah (aV (dZ (pv 1)) (aV ah cW))))))))
      al)))
   (ae (au (PW.pt (bM (ak cZ (aw (pv 0) rfl) aK (am _)) (bq (ak bp (aR bn (aw (pv 0) rfl) ai) (pv 1) (am _)))))
    (ag (b8 cA rfl (by rfl) T.m_Occupied (bP T.x_Occupied) (bN (aV ah (aV (dZ (pv 1)) cW)))))
    al)
   (ae (lR (aw (pv 0) rfl) (pv 1))
   (ae (av (dP (aw (pv 0) rfl) (pv 1) aK ⟨U,U,U,U⟩))
   (ae (av (dP (aw (pv 0) rfl) (pv 1) aK ⟨U,U,U,U⟩))
   (ag (av (aO (pv 0) T.cl_Yard T.M_J2 (dj T) hr (fG T) .nil aM))))))))),?_⟩
  rcases hN with ⟨hk,q⟩ | ⟨k,hk,hN⟩
  ·exact⟨_,U,A.p,A.dx,_,U,hH.get 1 U,(bY _ _ _).2.2.2.2.2.2.2.1,_,U,.inr ⟨A,y,L,n,U,hH,hk,hs,q⟩⟩
  have km:1<=k.many/\k.many<=3:=by cases k <;> decide
  refine⟨_,U,A.p,A.dx,_,U,hH.get 1 U,(bY _ _ _).2.2.2.2.2.2.2.1,_,U,.inl ⟨A,y,L,n,_,U,hH,hk,?_⟩⟩
  refine⟨_,U,A.p,_,A.dx,_,_,U,hH.get 1 U,T.cl_Yard,T.n_Yard_kinds,cg _ _ _,_,U,A.k,_,U,(by rw[<- hk]; exact DGet.k (k:=Sum.inl n) (hH.get 3 U)),.inl ⟨k,U,k.many,U,by omega,by omega,cw (fun i σ H'=>∃ o1:Option V,σ=[some (.ref A.p),some (.int n),o1]/\Has H' (yL t.c_Yard A y++L)/\∀ e:Int,0<=e->e<i->az y.mates (kE n e)=none) ⟨_,U,hH,fun e h0 h1=>absurd h1 (by omega)⟩ ?_ ?_⟩⟩
  ·rintro i σ H1 hi ⟨o1,rfl,h1,hv⟩
   refine⟨_,U,_,U,(show 2<=sizeLine by decide),fun b hb=>?_⟩
   have h2:=h1.alloc hb (.tup [.int n,.int (0+(i:Int))])
   by_cases hm:az y.mates (kE n (0+(i:Int)))=none
   ·refine⟨_,U,A.p,_,A.dx,_,_,U,h2.get 2 U,T.cl_Yard,T.n_Yard_mates,bv _ _ _,A.m,_,U,DGet.t (k:=kE n (0+(i:Int))) (h2.get 8 U) (h2.get 0 U),_,U,ifF (by rw[hm]; rfl) ?_⟩
    refine⟨_,U,h2.tail,fun e e0 e1=>?_⟩
    by_cases c:e=0+(i:Int)
    ·rw[c]; exact hm
    ·exact hv e e0 (by omega)
   ·refine⟨_,U,A.p,_,A.dx,_,_,U,h2.get 2 U,T.cl_Yard,T.n_Yard_mates,bv _ _ _,A.m,_,U,DGet.t (k:=kE n (0+(i:Int))) (h2.get 8 U) (h2.get 0 U),_,U,ifT (by cases e:az y.mates (kE n (0+(i:Int))) with | none=>exact absurd e hm | some v=>rfl) ?_⟩
    have hi3:i<3:=by have:=hi; omega
    rcases hN with ⟨_,q⟩ | ⟨hall,_⟩
    ·exact rz11c rfl (dh (Nat.lt_of_le_of_lt (show(0+(i:Int)).natAbs<=3 by omega) (by decide))) rfl hs (fun a=>q _ [_] a h2)
    ·exact absurd (hall _ (by omega) (by omega)) hm
  ·rintro σ H1 ⟨o1,rfl,h1,hv⟩
   have ek:((k.many).toNat:Int)=k.many:=by omega
   rcases hN with ⟨⟨e,e0,e1,hm⟩,_⟩ | ⟨_,⟨b,m,en,mb⟩,q⟩
   ·exact absurd (hv e e0 (by omega)) hm
   ·refine⟨_,U,A.p,_,A.dx,_,_,U,h1.get 1 U,T.cl_Yard,T.n_Ja_end,d9 _ _ _,U,_,U,ifT (by rw[en]; rfl) ?_⟩
    have gb:=h1.at_ _ (wD _ mb)
    dsimp only at gb
    refine⟨_,U,A.p,_,A.dx,_,_,U,h1.get 1 U,T.cl_Yard,T.n_Ja_end,d9 _ _ _,b,_,_,_,en,U,SqT.of gb,U,_,U,U,_,U,?_⟩
    rw[fE]
    exact ifT (decide_eq_true rfl) (rz1 rfl hs (fun a=>q _ a h1))
def qF (C KK N R:Addr):Sp:=fun vs H _ E=>∃ (A:YA) (y:YR) (L:Kn) (x:Str) (note:Int) (rod:V),vs=[.ref A.p,.str x,.int note,rod]/\Has H (yL C A y++L) /\
 ((u5 x/\(reprText x).length<=1000/\∀ a,E (.ref KK) (some a) H)∨(x=Kd.bell.str/\(note<0∨9999<note)/\L2.Small note/\∀ a,E (.ref N) (some a) H) ∨
  ∃ (k:Kd) (r:Int),x=k.str/\k.point=true/\rod=.int r/\(r<0∨(y.sides.length:Int)<=r)/\L2.Small r/\∀ a,E (.ref R) (some a) H)
theorem ug (T:Txt K mg t):FnOk P w K mg base (CXr P w) 3 t.f_Jx t.d_Jx ["self","kind","note","rod"] (qF t.c_Yard t.c_NoKind t.c_NoNote t.c_NoRod):=by
 obtain⟨ds_nr,hd_J9_1,hb_J9_1⟩:=mU T
 refine T.F_Jx.okR scLy (fun vs H Q E h=>?_) (fun cdv A outer s H vs Q E hr h=>?_)
 ·obtain⟨_,_,_,_,_,_,rfl,_⟩:=h
  rfl
 ·obtain⟨A,y,L,x,note,rod,rfl,hH,hN⟩:=h
  have hu:=bi hr
  refine⟨_,(ae (ax (i:=4) scLy.nd rfl (Or.inl rfl) (dy (uz T) (hr.mono (by decide)) (by rfl) T.m_Jv T.F_Jv.kp (rD T) .nil cY (aa (pv 1) af)))
   (ae (au (ak bp (pv 1) ah (am _))
    (ag (av (dy (uB T) (hr.mono (by decide)) (by rfl) T.m_Jf T.F_Jf.kp (wx T) .nil cY (aa (pv 2) af))))
    al)
   (ae (au (PW.pt (bM (bj (pv 4)) (bq (ak cZ (pv 3) aK (am _)))))
    (ag (av (aH (pv 0) T.cl_Yard T.M_J3 (pH T) hr (qv T) .nil cY (aa (pv 3) af))))
    al)
   (ae (ax (i:=5) scLy.nd rfl (Or.inl rfl) (aw (pv 0) rfl))
   (ae (jc (pv 0) ai pU)
   (ae (aJ hu (aw (pv 0) rfl) (pv 5) (pv 1) rfl)
   (ae (au (ak bp (pv 1) ah (am _))
    (ag (aJ hu (aw (pv 0) rfl) (pv 5) (pv 2) rfl))
    al)
   (ae (au (bj (pv 4))
    (ag (aJ hu (aw (pv 0) rfl) (pv 5) (dO (ak cm (pv 3) aK (am _)) (aO (pv 0) T.cl_Yard T.M_J9 (ut T) hr hb_J9_1 hd_J9_1 cY) (pv 3)) rfl))
    al)
   (ae (av (aO (pv 0) T.cl_Yard T.M_J2 (dj T) hr (fG T) .nil aM))
   (ag (ap (pv 5)))))))))))),?_⟩
  rcases hN with ⟨hb,hl,q⟩ | ⟨rfl,hn,hs,q⟩ | ⟨k,r,rfl,kp,rfl,hb,hs,q⟩
  ·exact⟨_,U,.inr ⟨x,U,hb,hl,q⟩⟩
  ·refine⟨_,U,.inl ⟨Kd.bell,U,?_⟩⟩
   refine⟨_,U,U,_,U,ifT (by rfl) ?_⟩
   exact⟨_,U,.inr ⟨note,U,hn,hs,q⟩⟩
  ·refine⟨_,U,.inl ⟨k,U,?_⟩⟩
   refine⟨_,U,U,_,U,?_⟩
   rw[k.isBell]
   refine ifF (decide_eq_false (fun e=>by rw[e] at kp; cases kp)) ?_
   refine⟨_,U,_,U,ifT kp ?_⟩
   refine⟨_,U,U,_,U,ifT (by simp) ?_⟩
   exact⟨_,U,A.p,A.dx,_,U,hH.get 1 U,(bY _ _ _).2.2.2.2.2.2.2.2,_,U,.inr ⟨A,y,L,r,U,hH,hb,hs,q⟩⟩
end
inductive sp_lift (C:Addr) (vs:List V) (H:Hp) (Q:VK) (E_:XK):Prop
 | mk (A:YA) (y:YR) (L:Kn) (n:Int) (k:Kd) (_:vs=[.ref A.p,.int n]) (_:Has H (yL C A y++L)) (_:az y.kinds (Sum.inl n)=some (.str k.str)) (_:(∀ e:Int,0<=e->e<k.many->az y.mates (kE n e)=none)) (_:(y.eng=.non∨∃ (b:Addr) (n1 e1:Int),y.eng=.ref b/\(b,HO.tup [.int n1,.int e1]) ∈ L/\n1≠n)) (_:∀ H' q,Has H' (yL C { A with tr:=q } { y with kinds:=ar y.kinds (Sum.inl n),notes:=ar y.notes (Sum.inl n),rods:=ar y.rods (Sum.inl n),trail:=[] }++L)->Q .non H'):sp_lift C vs H Q E_
theorem cE {κ:Type} [DecidableEq κ] {kvs:List (κ×V)}{k:κ} (h:az kvs k=none):ar kvs k=kvs:=by
 induction kvs with
 | nil=>rfl
 | cons p r ih=>
  by_cases e:p.1=k
  ·rw[bQ e] at h; cases h
  ·rw[bx e] at h
   rw[dX e,ih h]
section
variable {P:Program}{w:World}{K:PySem.W.Frag}{mg:Str->Option Value}{base:Heap}{t:Adr}
theorem ok_Jr (T:Txt K mg t):FnOk P w K mg base CX0 2 t.f_Jr t.d_Jr ["self","piece"] (sp_lift t.c_Yard):=by
 refine T.F_Jr.ok scLf (fun vs H Q E h=>?_) (fun cdv A outer s H vs Q E hr h=>?_)
 ·obtain⟨_,_,_,_,_,rfl,_⟩:=h
  rfl
 ·obtain⟨A,y,L,n,k,rfl,hH,hk,hm,en,q⟩:=h
  have hu:=bi hr
  refine⟨_,(ae (av (aH (pv 0) T.cl_Yard T.M_J1 (jh T) hr (lE T) .nil aM (aa (pv 1) af)))
   (ae (cK PassesOwn.never rfl (cu (by rfl) T.z_range (aa (pcl (k9 T) hr T.m_J61 T.F_J61.kp (mS T) (aa (aq hu (aw (pv 0) rfl) (pv 1)) af)) af)) (aI (i:=2) scLf.nd rfl (Or.inl rfl))
    (ag (au (bB (cU hu (aF (aa (pv 1) (aa (pv 2) af))) (aw (pv 0) rfl)))
      (ag bU)
      al)))
   (ae (au (PW.pt (bM (ak cZ (aw (pv 0) rfl) aK (am _)) (bq (ak bp (aR bn (aw (pv 0) rfl) ai) (pv 1) (am _)))))
    (ag bU)
    al)
   (ae (lR (aw (pv 0) rfl) (pv 1))
   (ae (av (dP (aw (pv 0) rfl) (pv 1) aK ⟨U,U,U,U⟩))
   (ae (av (dP (aw (pv 0) rfl) (pv 1) aK ⟨U,U,U,U⟩))
   (ag (av (aO (pv 0) T.cl_Yard T.M_J2 (dj T) hr (fG T) .nil aM))))))))),?_⟩
  refine⟨_,U,A.p,A.dx,_,U,hH.get 1 U,(bY _ _ _).2.2.2.2.2.2.2.1,_,U,A,y,L,n,_,U,hH,hk,?_⟩
  have km:1<=k.many/\k.many<=3:=by cases k <;> decide
  refine⟨_,U,A.p,_,A.dx,_,_,U,hH.get 1 U,T.cl_Yard,T.n_Yard_kinds,cg _ _ _,_,U,A.k,_,U,(by rw[<- hk]; exact DGet.k (k:=Sum.inl n) (hH.get 3 U)),k,U,k.many,U,by omega,by omega,cw (fun i σ H'=>∃ o1:Option V,σ=[some (.ref A.p),some (.int n),o1]/\Has H' (yL t.c_Yard A y++L)) ⟨_,U,hH⟩ ?_ ?_⟩
  ·rintro i σ H1 hi ⟨o1,rfl,h1⟩
   refine⟨_,U,_,U,(show 2<=sizeLine by decide),fun b hb=>?_⟩
   have h2:=h1.alloc hb (.tup [.int n,.int (0+(i:Int))])
   refine⟨_,U,A.p,_,A.dx,_,_,U,h2.get 2 U,T.cl_Yard,T.n_Yard_mates,bv _ _ _,A.m,_,U,DGet.t (k:=kE n (0+(i:Int))) (h2.get 8 U) (h2.get 0 U),_,U,ifF (by rw[hm _ (by omega) (by omega)]; rfl) ?_⟩
   exact⟨_,U,h2.tail⟩
  ·rintro σ H1 ⟨o1,rfl,h1⟩
   rcases en with en | ⟨eb,n1,e1,en,eL,ne⟩
   ·refine⟨_,U,A.p,_,A.dx,_,_,U,h1.get 1 U,T.cl_Yard,T.n_Ja_end,d9 _ _ _,U,_,U,ifF (by rw[en]; rfl) (bL ?_)⟩
    refine⟨_,U,A.p,_,A.dx,_,_,U,h1.get 1 U,T.cl_Yard,T.n_Yard_kinds,cg _ _ _,_,U,A.k,_,Sum.inl n,U,h1.get 3 U,U,by rw[hk]; rfl,?_⟩
    have h2:Has _ (yL t.c_Yard A { y with kinds:=ar y.kinds (Sum.inl n) }++L):=h1.puti 3 U (.dK (ar y.kinds (Sum.inl n)))
    generalize upd H1 A.k _=H2 at h2 ⊢
    refine⟨_,U,A.p,_,A.dx,_,_,U,h2.get 1 U,T.cl_Yard,T.n_Yard_notes,cf _ _ _,A.n,U,.inl ⟨_,.inl (h2.get 4 U)⟩,_,U,_,Sum.inl n,h2.get 4 U,U,fun v hv=>?_,fun hv=>?_⟩
    ·have h3:Has _ (yL t.c_Yard A { y with kinds:=ar y.kinds (Sum.inl n),notes:=ar y.notes (Sum.inl n) }++L):=h2.puti 4 U (.dK (ar y.notes (Sum.inl n)))
     refine⟨_,U,A.p,_,A.dx,_,_,U,h3.get 1 U,T.cl_Yard,T.n_Js_under,cB _ _ _,A.r,U,.inl ⟨_,.inl (h3.get 5 U)⟩,_,U,_,Sum.inl n,h3.get 5 U,U,fun v hv=>?_,fun hv=>?_⟩
     ·have h4:Has _ (yL t.c_Yard A { y with kinds:=ar y.kinds (Sum.inl n),notes:=ar y.notes (Sum.inl n),rods:=ar y.rods (Sum.inl n) }++L):=h3.puti 5 U (.dK (ar y.rods (Sum.inl n)))
      exact⟨_,U,A.p,A.dx,_,U,h4.get 1 U,(bY _ _ _).2.2.2.2.2.2.1,A,_,L,U,h4,fun H' a h5=>q H' a h5⟩
     ·have h4':∀ H,Has H (yL t.c_Yard A { y with kinds:=ar y.kinds (Sum.inl n),notes:=ar y.notes (Sum.inl n) }++L)->Has H (yL t.c_Yard A { y with kinds:=ar y.kinds (Sum.inl n),notes:=ar y.notes (Sum.inl n),rods:=ar y.rods (Sum.inl n) }++L):=fun H h=>by rw[cE (kvs:=y.rods) hv]; exact h
      have h4:=h4' _ h3
      exact⟨_,U,A.p,A.dx,_,U,h4.get 1 U,(bY _ _ _).2.2.2.2.2.2.1,A,_,L,U,h4,fun H' a h5=>q H' a h5⟩
    ·have h3:Has H2 (yL t.c_Yard A { y with kinds:=ar y.kinds (Sum.inl n),notes:=ar y.notes (Sum.inl n) }++L):=by rw[cE (kvs:=y.notes) hv]; exact h2
     refine⟨_,U,A.p,_,A.dx,_,_,U,h3.get 1 U,T.cl_Yard,T.n_Js_under,cB _ _ _,A.r,U,.inl ⟨_,.inl (h3.get 5 U)⟩,_,U,_,Sum.inl n,h3.get 5 U,U,fun v hv=>?_,fun hv=>?_⟩
     ·have h4:Has _ (yL t.c_Yard A { y with kinds:=ar y.kinds (Sum.inl n),notes:=ar y.notes (Sum.inl n),rods:=ar y.rods (Sum.inl n) }++L):=h3.puti 5 U (.dK (ar y.rods (Sum.inl n)))
      exact⟨_,U,A.p,A.dx,_,U,h4.get 1 U,(bY _ _ _).2.2.2.2.2.2.1,A,_,L,U,h4,fun H' a h5=>q H' a h5⟩
     ·have h4':∀ H,Has H (yL t.c_Yard A { y with kinds:=ar y.kinds (Sum.inl n),notes:=ar y.notes (Sum.inl n) }++L)->Has H (yL t.c_Yard A { y with kinds:=ar y.kinds (Sum.inl n),notes:=ar y.notes (Sum.inl n),rods:=ar y.rods (Sum.inl n) }++L):=fun H h=>by rw[cE (kvs:=y.rods) hv]; exact h
      have h4:=h4' _ h3
      exact⟨_,U,A.p,A.dx,_,U,h4.get 1 U,(bY _ _ _).2.2.2.2.2.2.1,A,_,L,U,h4,fun H' a h5=>q H' a h5⟩
   ·refine⟨_,U,A.p,_,A.dx,_,_,U,h1.get 1 U,T.cl_Yard,T.n_Ja_end,d9 _ _ _,U,_,U,ifT (by rw[en]; rfl) ?_⟩
    have gb:H1 eb=some (.tup [.int n1,.int e1]):=h1.at_ _ (wD _ eL)
    refine⟨_,U,A.p,_,A.dx,_,_,U,h1.get 1 U,T.cl_Yard,T.n_Ja_end,d9 _ _ _,eb,_,_,_,en,U,SqT.of gb,U,_,U,U,_,U,ifF (decide_eq_false (fun e=>ne (by injection e))) ?_⟩
    refine⟨_,U,A.p,_,A.dx,_,_,U,h1.get 1 U,T.cl_Yard,T.n_Yard_kinds,cg _ _ _,_,U,A.k,_,Sum.inl n,U,h1.get 3 U,U,by rw[hk]; rfl,?_⟩
    have h2:Has _ (yL t.c_Yard A { y with kinds:=ar y.kinds (Sum.inl n) }++L):=h1.puti 3 U (.dK (ar y.kinds (Sum.inl n)))
    generalize upd H1 A.k _=H2 at h2 ⊢
    refine⟨_,U,A.p,_,A.dx,_,_,U,h2.get 1 U,T.cl_Yard,T.n_Yard_notes,cf _ _ _,A.n,U,.inl ⟨_,.inl (h2.get 4 U)⟩,_,U,_,Sum.inl n,h2.get 4 U,U,fun v hv=>?_,fun hv=>?_⟩
    ·have h3:Has _ (yL t.c_Yard A { y with kinds:=ar y.kinds (Sum.inl n),notes:=ar y.notes (Sum.inl n) }++L):=h2.puti 4 U (.dK (ar y.notes (Sum.inl n)))
     refine⟨_,U,A.p,_,A.dx,_,_,U,h3.get 1 U,T.cl_Yard,T.n_Js_under,cB _ _ _,A.r,U,.inl ⟨_,.inl (h3.get 5 U)⟩,_,U,_,Sum.inl n,h3.get 5 U,U,fun v hv=>?_,fun hv=>?_⟩
     ·have h4:Has _ (yL t.c_Yard A { y with kinds:=ar y.kinds (Sum.inl n),notes:=ar y.notes (Sum.inl n),rods:=ar y.rods (Sum.inl n) }++L):=h3.puti 5 U (.dK (ar y.rods (Sum.inl n)))
      exact⟨_,U,A.p,A.dx,_,U,h4.get 1 U,(bY _ _ _).2.2.2.2.2.2.1,A,_,L,U,h4,fun H' a h5=>q H' a h5⟩
     ·have h4':∀ H,Has H (yL t.c_Yard A { y with kinds:=ar y.kinds (Sum.inl n),notes:=ar y.notes (Sum.inl n) }++L)->Has H (yL t.c_Yard A { y with kinds:=ar y.kinds (Sum.inl n),notes:=ar y.notes (Sum.inl n),rods:=ar y.rods (Sum.inl n) }++L):=fun H h=>by rw[cE (kvs:=y.rods) hv]; exact h
      have h4:=h4' _ h3
      exact⟨_,U,A.p,A.dx,_,U,h4.get 1 U,(bY _ _ _).2.2.2.2.2.2.1,A,_,L,U,h4,fun H' a h5=>q H' a h5⟩
    ·have h3:Has H2 (yL t.c_Yard A { y with kinds:=ar y.kinds (Sum.inl n),notes:=ar y.notes (Sum.inl n) }++L):=by rw[cE (kvs:=y.notes) hv]; exact h2
     refine⟨_,U,A.p,_,A.dx,_,_,U,h3.get 1 U,T.cl_Yard,T.n_Js_under,cB _ _ _,A.r,U,.inl ⟨_,.inl (h3.get 5 U)⟩,_,U,_,Sum.inl n,h3.get 5 U,U,fun v hv=>?_,fun hv=>?_⟩
     ·have h4:Has _ (yL t.c_Yard A { y with kinds:=ar y.kinds (Sum.inl n),notes:=ar y.notes (Sum.inl n),rods:=ar y.rods (Sum.inl n) }++L):=h3.puti 5 U (.dK (ar y.rods (Sum.inl n)))
      exact⟨_,U,A.p,A.dx,_,U,h4.get 1 U,(bY _ _ _).2.2.2.2.2.2.1,A,_,L,U,h4,fun H' a h5=>q H' a h5⟩
     ·have h4':∀ H,Has H (yL t.c_Yard A { y with kinds:=ar y.kinds (Sum.inl n),notes:=ar y.notes (Sum.inl n) }++L)->Has H (yL t.c_Yard A { y with kinds:=ar y.kinds (Sum.inl n),notes:=ar y.notes (Sum.inl n),rods:=ar y.rods (Sum.inl n) }++L):=fun H h=>by rw[cE (kvs:=y.rods) hv]; exact h
      have h4:=h4' _ h3
      exact⟨_,U,A.p,A.dx,_,U,h4.get 1 U,(bY _ _ _).2.2.2.2.2.2.1,A,_,L,U,h4,fun H' a h5=>q H' a h5⟩
end
theorem iR {α:Type}:∀ (L:List α) (i:Nat) (hi:i<L.length),L.Perm (L[i]::L.eraseIdx i)
 | x::L,0,_=>List.Perm.refl _
 | x::L,i+1,hi=>by
  have:=iR L i (by simpa using hi)
  simp only[List.getElem_cons_succ,List.eraseIdx_cons_succ]
  exact(this.cons x).trans (List.Perm.swap _ _ _)
theorem cF (h:Has H L) (i:Nat) {x:Addr×HO} (e:L[i]?=some x):Has H (x::L.eraseIdx i):=by
 obtain⟨hi,rfl⟩:=List.getElem?_eq_some_iff.mp e
 exact h.perm (iR L i hi)
theorem bu {L L':Kn} (h:Has H L) (e:L=L'):Has H L':=e ▸ h
theorem sz {n:Nat} (h:n<=1000000):n<=sizeLine:=Nat.le_of_lt (aS h)
theorem sz_ (n:Nat) (h:n<=1000000:=by decide):n<=sizeLine:=sz h
theorem nI:∀ i,i<22->((gY i).filter (·.2)).map (·.1)=[gu i]
 | 0,_=>rfl
 | 1,_=>rfl
 | 2,_=>rfl
 | 3,_=>rfl
 | 4,_=>rfl
 | 5,_=>rfl
 | 6,_=>rfl
 | 7,_=>rfl
 | 8,_=>rfl
 | 9,_=>rfl
 | 10,_=>rfl
 | 11,_=>rfl
 | 12,_=>rfl
 | 13,_=>rfl
 | 14,_=>rfl
 | 15,_=>rfl
 | 16,_=>rfl
 | 17,_=>rfl
 | 18,_=>rfl
 | 19,_=>rfl
 | 20,_=>rfl
 | 21,_=>rfl
 | i+22,h=>absurd h (by omega)
def eJ (ts:List (Addr×Str×Bool)):Kn:=ts.map fun z=>(z.1,HO.tup [.str z.2.1,.bl z.2.2])
def cT (ts:List (Addr×Str×Bool)):List V:=ts.map fun z=>V.ref z.1
inductive sp_names (K:PySem.W.Frag) (t:Adr) (vs:List V) (H:Hp) (Q:VK) (E_:XK):Prop
 | mk (a C:Addr) (i:Nat) (L:Kn) (_:vs=[.ref a]) (_:Has H L) (_:(a,HO.ext (ExcAt a C)) ∈ L) (_:bw K C t.c_RailError (eT t i)=true) (_:∀ H' p ts,ts.map (·.2)=gY i->Has H' ((p,.lst (cT ts))::((eJ ts).reverse++L))->Q (.ref p) H'):sp_names K t vs H Q E_
def sq (K:PySem.W.Frag) (t:Adr):(Hp->VK->XK->Prop)->Hp->VK->Prop:=fun spD H Q=>∃ (X0 L:Kn) (R:V->Kn->Prop) (RX:Nat->Kn->Prop),Has H (X0++L) /\
 (∀ H1 L1 Q1 E1,Has H1 (X0++L1)->(∀ v N H2,R v N->Has H2 (N++L1)->Q1 v H2)->(∀ C a i N H2,RX i N->i<22->bw K C t.c_RailError (eT t i)=true->Has H2 (N++L1)->E1 (.ref C) (some a) H2)->spD H1 Q1 E1) /\
 (∀ v N r H2,R v N->Has H2 ((r,.lst [])::(N++L))->Q (.ref r) H2) /\
 (∀ i N r H2,RX i N->i<22->Has H2 ((r,.lst [.str (gu i)])::(N++L))->Q (.ref r) H2)
def tRows (K:PySem.W.Frag) (rows:List (Str×Addr×Bool)) (tl:TA):TA:=rows.foldr (fun r acc=>cJ (tw (cJ (tC (.str r.1)) (cJ (tCB (fun xs H Q=>∃ (a D:Addr) (c:V) (b:Bool),xs=[V.ref a,c]/\(∃ z,c=.ref z∨∃ n,c=.ty n)/\H a=some (.ext (ExcAt a D))/\ExcCls K D/\W.kitOne K (.ref D) (rm c)=some b/\Q (.bl b) H) (cJ (dg 0) (cJ (tC (.ref r.2.1)) fL))) fL))) acc) tl
variable{K:PySem.W.Frag}
theorem mr {σ:St}{a C:Addr}{tl:TA} (e:σ[0]?=some (some (.ref a))) (hc:ExcCls K C):∀ (rows:List (Str×Addr×Bool)) {H:Hp}{L:Kn}{Q:List V->Hp->Prop},(∀ r ∈ rows,W.kitOne K (.ref C) (.ref r.2.1)=some r.2.2)->Has H L->(a,HO.ext (ExcAt a C)) ∈ L ->
  (∀ H' (ts:List (Addr×Str×Bool)),ts.map (·.2)=rows.map (fun r=>(r.1,r.2.2))->Has H' ((eJ ts).reverse++L)->tl σ H' (fun xs H2=>Q (cT ts++xs) H2))->tRows K rows tl σ H Q
 | [],H,_,_,_,h,_,k=>k H [] rfl h
 | r::rows,H,L,Q,hk,h,m,k=>⟨_,e,a,C,_,_,U,⟨_,.inl rfl⟩,h.at_ _ m,hc,hk r wJ,aY (show 2<=1000000 by decide),fun p hp=>
   mr e hc rows (fun r hr=>hk r (wE _ hr)) (h.alloc hp (.tup [.str r.1,.bl r.2.2])) (wE _ m) (fun H' ts et ht=>k H' ((p,r.1,r.2.2)::ts) (congrArg (_::·) et) (by
    show Has H' ((((p,HO.tup [.str r.1,.bl r.2.2]))::eJ ts).reverse++L)
    rw[List.reverse_cons,wG]
    exact ht))⟩
section
variable {P:Program}{w:World}{K:PySem.W.Frag}{mg:Str->Option Value}{base:Heap}{t:Adr}
theorem scNm:FnScope ["_law_e"] ["_law_e"] (aj lJ):={}
theorem pi (T:Txt K mg t):FnOkQ P w K mg base 1 t.f_names t.d_names ["_law_e"] (sp_names K t):=by
 refine T.F_names.okQ scNm (fun vs H Q E h=>?_) (fun cdv A outer s H vs Q E hr h=>?_)
 ·obtain⟨_,_,_,_,rfl,_⟩:=h
  rfl
 ·obtain⟨a,C,i,L,rfl,h0,m0,hx,q⟩:=h
  refine⟨_,(ag (ap (aN (@aa _ _ _ _ _ (aF (aa ah (aa (ay aT (by rfl) T.z_isinstance (by rfl) (aa (pv 0) (aa (aQ (v:=.ref t.c_NoKind) (by rfl) T.m_NoKind rfl) af))) af))) (@aa _ _ _ _ _ (aF (aa ah (aa (ay aT (by rfl) T.z_isinstance (by rfl) (aa (pv 0) (aa (aQ (v:=.ref t.c_NoEnd) (by rfl) T.m_NoEnd rfl) af))) af))) (@aa _ _ _ _ _ (aF (aa ah (aa (ay aT (by rfl) T.z_isinstance (by rfl) (aa (pv 0) (aa (aQ (v:=.ref t.c_NoSide) (by rfl) T.m_NoSide rfl) af))) af))) (@aa _ _ _ _ _ (aF (aa ah (aa (ay aT (by rfl) T.z_isinstance (by rfl) (aa (pv 0) (aa (aQ (v:=.ref t.c_NoNote) (by rfl) T.m_NoNote rfl) af))) af))) (@aa _ _ _ _ _ (aF (aa ah (aa (ay aT (by rfl) T.z_isinstance (by rfl) (aa (pv 0) (aa (aQ (v:=.ref t.c_NoPiece) (by rfl) T.m_NoPiece rfl) af))) af))) (@aa _ _ _ _ _ (aF (aa ah (aa (ay aT (by rfl) T.z_isinstance (by rfl) (aa (pv 0) (aa (aQ (v:=.ref t.c_NoRod) (by rfl) T.m_NoRod rfl) af))) af))) (@aa _ _ _ _ _ (aF (aa ah (aa (ay aT (by rfl) T.z_isinstance (by rfl) (aa (pv 0) (aa (aQ (v:=.ref t.c_NoPoint) (by rfl) T.m_NoPoint rfl) af))) af))) (@aa _ _ _ _ _ (aF (aa ah (aa (ay aT (by rfl) T.z_isinstance (by rfl) (aa (pv 0) (aa (aQ (v:=.ref t.c_NoBell) (by rfl) T.m_NoBell rfl) af))) af))) (@aa _ _ _ _ _ (aF (aa ah (aa (ay aT (by rfl) T.z_isinstance (by rfl) (aa (pv 0) (aa (aQ (v:=.ref t.c_SameEnd) (by rfl) T.m_SameEnd rfl) af))) af))) (@aa _ _ _ _ _ (aF (aa ah (aa (ay aT (by rfl) T.z_isinstance (by rfl) (aa (pv 0) (aa (aQ (v:=.ref t.c_Linked) (by rfl) T.m_Linked rfl) af))) af))) (@aa _ _ _ _ _ (aF (aa ah (aa (ay aT (by rfl) T.z_isinstance (by rfl) (aa (pv 0) (aa (aQ (v:=.ref t.c_NotLinked) (by rfl) T.m_NotLinked rfl) af))) af))) (@aa _ _ _ _ _ (aF (aa ah (aa (ay aT (by rfl) T.z_isinstance (by rfl) (aa (pv 0) (aa (aQ (v:=.ref t.c_Occupied) (by rfl) T.m_Occupied rfl) af))) af))) (@aa _ _ _ _ _ (aF (aa ah (aa (ay aT (by rfl) T.z_isinstance (by rfl) (aa (pv 0) (aa (aQ (v:=.ref t.c_NoStand) (by rfl) T.m_NoStand rfl) af))) af))) (@aa _ _ _ _ _ (aF (aa ah (aa (ay aT (by rfl) T.z_isinstance (by rfl) (aa (pv 0) (aa (aQ (v:=.ref t.c_NoMany) (by rfl) T.m_NoMany rfl) af))) af))) (@aa _ _ _ _ _ (aF (aa ah (aa (ay aT (by rfl) T.z_isinstance (by rfl) (aa (pv 0) (aa (aQ (v:=.ref t.c_NoStretch) (by rfl) T.m_NoStretch rfl) af))) af))) (@aa _ _ _ _ _ (aF (aa ah (aa (ay aT (by rfl) T.z_isinstance (by rfl) (aa (pv 0) (aa (aQ (v:=.ref t.c_NoRow) (by rfl) T.m_NoRow rfl) af))) af))) (@aa _ _ _ _ _ (aF (aa ah (aa (ay aT (by rfl) T.z_isinstance (by rfl) (aa (pv 0) (aa (aQ (v:=.ref t.c_NoMark) (by rfl) T.m_NoMark rfl) af))) af))) (@aa _ _ _ _ _ (aF (aa ah (aa (ay aT (by rfl) T.z_isinstance (by rfl) (aa (pv 0) (aa (aQ (v:=.ref t.c_NoCounter) (by rfl) T.m_NoCounter rfl) af))) af))) (@aa _ _ _ _ _ (aF (aa ah (aa (ay aT (by rfl) T.z_isinstance (by rfl) (aa (pv 0) (aa (aQ (v:=.ref t.c_NoWidth) (by rfl) T.m_NoWidth rfl) af))) af))) (@aa _ _ _ _ _ (aF (aa ah (aa (ay aT (by rfl) T.z_isinstance (by rfl) (aa (pv 0) (aa (aQ (v:=.ref t.c_NoValue) (by rfl) T.m_NoValue rfl) af))) af))) (@aa _ _ _ _ _ (aF (aa ah (aa (ay aT (by rfl) T.z_isinstance (by rfl) (aa (pv 0) (aa (aQ (v:=.ref t.c_FallsOut) (by rfl) T.m_FallsOut rfl) af))) af))) (@aa _ _ _ _ _ (aF (aa ah (aa (ay aT (by rfl) T.z_isinstance (by rfl) (aa (pv 0) (aa (aQ (v:=.ref t.c_NoText) (by rfl) T.m_NoText rfl) af))) af))) (@aa _ _ _ _ _ (aF (aa ah (aa (o0 (ay aT (by rfl) T.z_isinstance (by rfl) (aa (pv 0) (aa (eW (v:=.ty "ValueError") (by rfl) T.z_ValueError (by rfl) rfl) af)))) af))) af (by rfl)) (by rfl)) (by rfl)) (by rfl)) (by rfl)) (by rfl)) (by rfl)) (by rfl)) (by rfl)) (by rfl)) (by rfl)) (by rfl)) (by rfl)) (by rfl)) (by rfl)) (by rfl)) (by rfl)) (by rfl)) (by rfl)) (by rfl)) (by rfl)) (by rfl)) (by rfl))))),?_⟩
  obtain⟨rows,er⟩:∃ rows:List (Str×Addr×Bool),rows=[⟨"NoKind",t.c_NoKind,i == 0⟩,⟨"NoEnd",t.c_NoEnd,i == 1⟩,⟨"NoSide",t.c_NoSide,i == 2⟩,⟨"NoNote",t.c_NoNote,i == 3⟩,⟨"NoPiece",t.c_NoPiece,i == 4⟩,⟨"NoRod",t.c_NoRod,i == 5⟩,⟨"NoPoint",t.c_NoPoint,i == 6⟩,⟨"NoBell",t.c_NoBell,i == 7⟩,⟨"SameEnd",t.c_SameEnd,i == 8⟩,⟨"Linked",t.c_Linked,i == 9⟩,⟨"NotLinked",t.c_NotLinked,i == 10⟩,⟨"Occupied",t.c_Occupied,i == 11⟩,⟨"NoStand",t.c_NoStand,i == 12⟩,⟨"NoMany",t.c_NoMany,i == 13⟩,⟨"NoStretch",t.c_NoStretch,i == 14⟩,⟨"NoRow",t.c_NoRow,i == 15⟩,⟨"NoMark",t.c_NoMark,i == 16⟩,⟨"NoCounter",t.c_NoCounter,i == 17⟩,⟨"NoWidth",t.c_NoWidth,i == 18⟩,⟨"NoValue",t.c_NoValue,i == 19⟩,⟨"FallsOut",t.c_FallsOut,i == 20⟩,⟨"NoText",t.c_NoText,i == 21⟩]:=⟨_,U⟩
  have hk:∀ r ∈ rows,W.kitOne K (.ref C) (.ref r.2.1)=some r.2.2:=fun r hr=>by
   obtain⟨j,hj⟩:=List.getElem?_of_mem hr
   refine lA hx j ?_
   have e1:rows.map (·.2)=eT t i:=by rw[er]; rfl
   rw[<- e1,wM,hj]
   rfl
  have fin:=mr (tl:=cJ (tw (cJ (tC (.str "plain")) (cJ (rO (tCB (fun xs H Q=>∃ (a D:Addr) (c:V) (b:Bool),xs=[V.ref a,c]/\(∃ z,c=.ref z∨∃ n,c=.ty n)/\H a=some (.ext (ExcAt a D))/\ExcCls K D/\W.kitOne K (.ref D) (rm c)=some b/\Q (.bl b) H) (cJ (dg 0) (cJ (tC (.ty "ValueError")) fL)))) fL))) fL) (K:=K) (σ:=[some (.ref a)]) (a:=a) rfl (iJ hx) rows (Q:=fun xs H1=>xs.length<=sizeLine/\∀ p,H1 p=none->Q (.ref p) (upd H1 p (.lst xs))) hk h0 m0 (fun H' ts et ht=>by
   refine⟨_,U,a,C,_,_,U,⟨0,.inr ⟨_,U⟩⟩,ht.at_ _ (wD _ m0),iJ hx,nL hx,_,U,aY (show 2<=1000000 by decide),fun tp htp=>?_⟩
   have h2:=ht.alloc htp (.tup [.str "plain",.bl (!true)])
   have el:(cT ts++[V.ref tp]).length=23:=by
    have:=congrArg List.length et
    rw[er,wF] at this
    unfold cT
    rw[wK,wF,this]
    rfl
   refine⟨by rw[el]; exact aY (show 23<=1000000 by decide),fun p hp=>?_⟩
   have h3:=h2.alloc hp (.lst (cT ts++[V.ref tp]))
   refine q _ p (ts++[⟨tp,"plain",false⟩]) ?_ ?_
   ·rw[wL,et,er]
    rfl
   ·unfold cT eJ
    rw[wL,wL,List.reverse_append]
    exact h3)
  subst er
  exact fin
theorem scRf:FnScope ["_law_deed","_law_pairs","_law_e"] ["_law_deed"] (aj kc):={}
theorem gq (T:Txt K mg t):RefOk P w K mg base 10 8 t.f_J11 (sq K t):=by
 refine(T.e_J11 ▸ T.F_J11).refOk (N:=["_law_deed","_law_pairs","_law_e"]) (y := "_law_deed") scRf (b_J11 T) (fun cdv A outer s H g spD Q hr D hrs=>?_)
 obtain⟨X0,L,R,RX,hH,hD,hR,hRX⟩:=hrs
 obtain⟨t3,h3,fin⟩:∃ t3:TS,PSs (eG CX0 P w K mg base ["_law_deed","_law_pairs","_law_e"] "_law_refused" (aj kc) t.f_J11 cdv A outer s H E0).nox ((bK kc).drop 2) t3 /\
   ∀ (o:Option V) (H1:Hp) (p:Addr) (ts:List (Addr×Str×Bool)) (L1:Kn) (D1:Ends),ts.length<=1000->Has H1 ((p,.lst (cT ts))::((eJ ts).reverse++L1)) ->
    (∀ H2 r,Has H2 ((r,.lst (((ts.map (·.2)).filter (·.2)).map fun z=>.str z.1))::L1)->D1.rt (.ref r) H2)->t3 D1 [some (.ref g),some (.ref p),o] H1:=by
  refine⟨_,(ag (ap (o8 (esc:=aj kc) (k:=2) ["_law_name","_law_so","_law_deed","_law_pairs","_law_e"] rfl (gT (pv 1)) (fun _ _ _ _ _=>by exact(lT (K:=K) (n:=2) rfl rfl (aU (aI (i:=0) (show List.Nodup (["_law_name","_law_so","_law_deed","_law_pairs","_law_e"]:List Str) from by decide +kernel) rfl (Or.inl rfl)) (aU (aI (i:=1) (show List.Nodup (["_law_name","_law_so","_law_deed","_law_pairs","_law_e"]:List Str) from by decide +kernel) rfl (Or.inl rfl)) cL)))) (fun _ _ _ _ _=>by exact(qK (bj (pv 1)))) (fun _ _ _ _ _=>by exact(pv 0)) rfl (by decide +kernel) (by decide +kernel) rfl (by decide +kernel) (by rfl) (fun _ _ h _=>h) (by decide +kernel)))),?_⟩
  intro o H1 p ts L1 D1 hts h1 hq
  have inT:∀ {H2:Hp}{c:Addr×HO}{j:Nat}{z:Addr×Str×Bool},Has H2 (c::(p,.lst (cT ts))::((eJ ts).reverse++L1))->ts[j]?=some z->H2 z.1=some (.tup [.str z.2.1,.bl z.2.2]):=fun {H2 c j z} h e=>by
   refine h.at_ (z.1,_) (wE _ (wE _ (wY _ (List.mem_reverse.mpr ?_))))
   exact wX.mpr ⟨z,wI e,U⟩
  refine⟨_,U,p,U,⟨_,SqL.of (h1.get 0 U)⟩,fun Dl hDl=>?_⟩
  refine⟨fun n m zs H2=>m=ts.length - n/\n<=ts.length/\zs=(((ts.take n).map (·.2)).filter (·.2)).map (fun z=>V.str z.1)/\Has H2 ((Dl,.lst zs)::(p,.lst (cT ts))::((eJ ts).reverse++L1)),⟨_,U,Nat.zero_le _,U,h1.alloc hDl _⟩,?_⟩
  rintro n m zs H2 ⟨rfl,hn,ez,h2⟩
  refine⟨h2.get 0 U,?_⟩
  have g0:=h2.get 1 rfl
  by_cases hlt:n<ts.length
  ·have hx0:(cT ts)[n]?=some (.ref ts[n].1):=by unfold cT; rw[wM,wH hlt]; rfl
   have e0:ts[n]?=some ts[n]:=wH hlt
   refine .inr ⟨⟨_,_,SqL.of g0,hx0⟩,?_⟩
   rintro x H3 ⟨rfl,hx⟩
   have e1:=hx _ (SqL.of g0)
   rw[hx0] at e1
   cases e1
   have lz:zs.length<=1000:=by
    rw[ez,wF]
    refine Nat.le_trans (List.length_filter_le _ _) ?_
    rw[wF,wV]
    omega
   have tk:ts.take (n+1)=ts.take n++[ts[n]]:=by rw[List.take_succ,e0]; rfl
   refine⟨ts[n].1,_,U,SqT.of (inT h2 e0),U,_,_,U,_,_,U,U,?_⟩
   refine⟨U,_,U,_,U,?_⟩
   cases hb:ts[n].2.2 with
   | true=>
    refine cP ⟨_,U,aS (by omega),h2.get 0 U,ts.length - (n+1),by omega,U,hlt,?_,h2.puti 0 U _⟩
    rw[tk,wL,List.filter_append,wL,<- ez]
    show zs++[V.str ts[n].2.1]=zs++((List.filter (·.2) [ts[n].2]).map fun z=>V.str z.1)
    rw[List.filter_cons_of_pos hb]
    rfl
   | false=>
    refine bL ⟨ts.length - (n+1),by omega,U,hlt,?_,h2⟩
    rw[tk,wL,List.filter_append,wL,<- ez]
    show zs=zs++((List.filter (·.2) [ts[n].2]).map fun z=>V.str z.1)
    rw[List.filter_cons_of_neg (by rw[hb]; exact Bool.false_ne_true)]
    simp
  ·have en:n=ts.length:=by omega
   refine .inl ⟨⟨_,SqL.of g0,by unfold cT; rw[wF]; omega⟩,?_⟩
   rw[en,List.take_length] at ez
   subst ez
   exact hq _ Dl (h2.sub (.cons_cons _ (.cons _ (List.sublist_append_right _ _))))
 refine⟨_,(ae (ax (i:=1) scRf.nd rfl (Or.inl rfl) (aN af)) (ae (tU (i:=0) (j:=2) D (hr.mono (by decide)) rfl rfl rfl (pv 0) (by rfl) T.m_RailError scRf.nd rfl rfl (fun e=>ag (ax (i:=1) scRf.nd rfl (Or.inl rfl) (pd (pi T) ((hr.mono (by decide)).qm _) (by rfl) T.m_names T.F_names.kp (rp T) (aa (pv 2) af))))) h3)),?_⟩
 refine⟨aY (show 0<=1000000 by decide),fun p0 hp0=>?_⟩
 have h1:=hH.alloc hp0 (.lst [])
 refine⟨U,fun Cv ao H2=>∃ C a i N,Cv=.ref C/\ao=some a/\RX i N/\i<22/\bw K C t.c_RailError (eT t i)=true/\Has H2 (N++((p0,.lst [])::L)),hD _ ((p0,.lst [])::L) _ _ h1.inn (fun v N H2 hRv h2=>?_) (fun C a i N H2 r1 r2 r3 h2=>⟨C,a,i,N,U,U,r1,r2,r3,h2⟩),?_⟩
 ·exact fin _ _ p0 [] (N++L) _ (Nat.zero_le _) h2.out fun H3 r h3'=>hR v N r H3 hRv h3'
 ·rintro C a H2 ⟨C',a',i,N,rfl,ea,r1,r2,r3,h2⟩ hn
  cases ea
  refine⟨C',U,lB r3,?_⟩
  have h4:=h2.alloc hn (.ext (ExcAt a C'))
  refine⟨_,U,a,C',i,_,U,h4,wJ,r3,fun H3 p ts ets h5=>?_⟩
  have h6:Has H3 ((p,.lst (cT ts))::((eJ ts).reverse++(N++L))):=by
   refine h5.sub (List.Sublist.cons_cons _ ?_)
   refine List.Sublist.append_left ?_ _
   exact List.Sublist.cons _ (List.Sublist.append_left (List.Sublist.cons _ (List.Sublist.refl _)) _)
  refine fin _ _ p ts (N++L) _ (by have:=congrArg List.length ets; simp[gY] at this; omega) h6 fun H4 r h7=>?_
  rw[ets] at h7
  have e:=nI i r2
  refine hRX i N r H4 r1 r2 ?_
  have e2:(((gY i).filter (·.2)).map fun z=>V.str z.1)=[V.str (gu i)]:=by
   have:=congrArg (List.map V.str) e
   rw[xg] at this
   exact this
  rw[<- e2]
  exact h7
end
theorem uT (d:PyData) (h:d.canLay0=true):PyData.eqv d d=true:=PySem.SeqAt.eqv_refl d h
def dt (ns:List Str):PyData:=.list (ns.map PyData.str)
theorem dJ {l:Addr}{ns:List Str} (h:H l=some (.lst (ns.map V.str))):DV K H (dt ns) (.ref l):=by
 unfold dt DV
 exact⟨l,_,U,SqL.of h,DVs.map _ _ _ fun x _=>by unfold DV; rfl⟩
def bA:Option Nat->List Str
 | none=>[]
 | some i=>[gu i]
theorem nq:∀ i,i<22->PyData.strOk (gu i)=true
 | 0,_=>by decide +kernel
 | 1,_=>by decide +kernel
 | 2,_=>by decide +kernel
 | 3,_=>by decide +kernel
 | 4,_=>by decide +kernel
 | 5,_=>by decide +kernel
 | 6,_=>by decide +kernel
 | 7,_=>by decide +kernel
 | 8,_=>by decide +kernel
 | 9,_=>by decide +kernel
 | 10,_=>by decide +kernel
 | 11,_=>by decide +kernel
 | 12,_=>by decide +kernel
 | 13,_=>by decide +kernel
 | 14,_=>by decide +kernel
 | 15,_=>by decide +kernel
 | 16,_=>by decide +kernel
 | 17,_=>by decide +kernel
 | 18,_=>by decide +kernel
 | 19,_=>by decide +kernel
 | 20,_=>by decide +kernel
 | 21,_=>by decide +kernel
 | i+22,h=>absurd h (by omega)
theorem qe (o:Option Nat) (h:∀ i,o=some i->i<22):(dt (bA o)).canLay0=true:=by
 cases o with
 | none=>rfl
 | some i=>simp[dt,bA,PyData.canLay0,PyData.canLayAll0,nq i (h i rfl)]
theorem jo (o:Option Nat) (h:∀ i,o=some i->i<22):SeqAt.shaped (dt (bA o))=true:=by
 refine i8 (qe o h) ?_
 cases o <;> simp[dt,bA,PyData.depth,PyData.depthAll]
theorem sS {M:Kn}:∀ {G:Kn},Has H (G++M)->Has H M
 | [],h=>h
 | _::G,h=>sS (G:=G) h.tail
def NT (z:Addr×HO):Prop:=∀ ps,z.2≠.tbl ps
theorem Tb.ne {Z L:Kn}{Pt:Addr}{qual:Str}{z:Addr×HO} (T:Tb L Pt qual) (h:Has H (Z++L)) (m:z ∈ L) (hz:NT z):z.1≠Pt:=fun e=>by
 obtain⟨ps,mp,_⟩:=T.ex
 have q1:=h.at_ _ (wD _ m)
 have q2:=h.at_ _ (wD _ mp)
 rw[e,q2] at q1
 exact hz _ (Option.some.inj q1).symm
theorem Tb.other {Z L L':Kn}{Pt Pf:Addr}{qual q2:Str} (T:Tb L Pt qual) (F:Tb L Pf q2) (h:Has H (Z++L)) (ne:Pf≠Pt) (kp:∀ z ∈ L,z.1≠Pt->z ∈ L'):Tb L' Pf q2:=by
 obtain⟨ps,m,tr,hp⟩:=F.ex
 exact⟨ps,kp _ m ne,tr,fun pos=>(hp pos).imp id fun⟨c',oc,vs,t,a,b,c,d⟩=>⟨c',oc,vs,t,a,kp _ b (Tb.ne T h b (fun _ e=>nomatch e)),c,d⟩⟩
abbrev En:=Addr×Int×Int
structure Wd where
 kf:Int->Option Kd
 nf:Int->Int
 rf:Int->Int
 mf:Int->Int->Option En
structure Sd where
 ss:List Int
 at_:Option En
 rg:List Int
def Wd.sv (w:Wd) (s:Sd) (n:Int):Int:=s.ss.getD (w.rf n).toNat 0
def Wd.ok (w:Wd) (z:En):Prop:=∃ k,w.kf z.2.1=some k/\0<=z.2.2/\z.2.2<k.many
def bd (w:Wd) (s:Sd) (z:En) (k:Kd) (z':En):Sd :=
 ⟨if k.point then s.ss.set (w.rf z.2.1).toNat (k.side z.2.2 (w.sv s z.2.1)) else s.ss,some z',if k=.bell then s.rg++[w.nf z.2.1] else s.rg⟩
def Wd.nx (w:Wd) (s:Sd):Option Sd :=
 match s.at_ with
 | none=>none
 | some z=>match w.kf z.2.1 with
  | none=>none
  | some k=>match k.out z.2.2 (w.sv s z.2.1) with
   | .int o=>(w.mf z.2.1 o).map (bd w s z k)
   | _=>none
def Wd.why (w:Wd) (s:Sd):V :=
 match s.at_ with
 | none=>.str "none"
 | some z=>match w.kf z.2.1 with
  | none=>.non
  | some k=>match k.out z.2.2 (w.sv s z.2.1) with
   | .int o=>(match w.mf z.2.1 o with | none=>.str "loose" | some _=>.non)
   | _=>.str "stop"
def Wd.go (w:Wd):Nat->Sd->Sd
 | 0,s=>s
 | n+1,s=>match w.nx s with | none=>s | some s'=>w.go n s'
def Wd.hist (w:Wd):Nat->Sd->List Sd
 | 0,_=>[]
 | n+1,s=>match w.nx s with | none=>[] | some s'=>s::w.hist n s'
def Wd.tv (w:Wd) (s:Sd) (z:En):V:=match w.kf z.2.1 with | some k=>if k.point then .int (w.sv s z.2.1) else .non | none=>.non
def Wd.tr (w:Wd) (s:Sd):HO:=match s.at_ with | some z=>.tup [.ref z.1,w.tv s z] | none=>.tup []
def trK (w:Wd) (ts:List (Addr×Sd)):Kn:=ts.map fun x=>(x.1,w.tr x.2)
def trV (ts:List (Addr×Sd)):List V:=ts.map fun x=>V.ref x.1
def enV:Option En->V
 | none=>.non
 | some z=>.ref z.1
structure Rep (w:Wd) (s:Sd) (y:YR):Prop where
 kd:∀ n k,w.kf n=some k->az y.kinds (Sum.inl n)=some (.str k.str)
 no:∀ n k,w.kf n=some k->az y.notes (Sum.inl n)=if k=.bell then some (.int (w.nf n)) else none
 ro:∀ n k,w.kf n=some k->az y.rods (Sum.inl n)=if k.point=true then some (.int (w.rf n)) else none
 rr:∀ n k,w.kf n=some k->k.point=true->0<=w.rf n/\w.rf n<s.ss.length
 sd:y.sides=s.ss.map V.int
 s12:∀ x ∈ s.ss,x=1∨x=2
 mt:∀ n e,az y.mates (kE n e)=(w.mf n e).map fun z=>V.ref z.1
 mo:∀ n e z,w.mf n e=some z->w.ok z
 en:y.eng=enV s.at_
 eo:∀ z,s.at_=some z->w.ok z
 rg:y.rung=s.rg.map V.int
structure Pool (w:Wd) (s:Sd) (L:Kn):Prop where
 m:∀ n e z,w.mf n e=some z->∃ j:Nat,L[j]?=some (z.1,HO.tup [.int z.2.1,.int z.2.2])
 e:∀ z,s.at_=some z->∃ j:Nat,L[j]?=some (z.1,HO.tup [.int z.2.1,.int z.2.2])
variable{w:Wd}{s:Sd}
theorem Rep.s1 {y:YR} (R:Rep w s y) {n:Int}{k:Kd} (hk:w.kf n=some k) (hp:k.point=true):w.sv s n=1∨w.sv s n=2:=by
 obtain⟨h0,h1⟩:=R.rr n k hk hp
 refine R.s12 _ ?_
 unfold Wd.sv
 rw[List.getD_eq_getElem?_getD,wH (by omega)]
 exact List.getElem_mem _
theorem Rep.sideAt {y:YR} (R:Rep w s y) {n:Int}{k:Kd} (hk:w.kf n=some k) (hp:k.point=true):y.sides[(w.rf n).toNat]?=some (.int (w.sv s n)):=by
 obtain⟨h0,h1⟩:=R.rr n k hk hp
 rw[R.sd,wM,wH (by omega)]
 unfold Wd.sv
 rw[List.getD_eq_getElem?_getD,wH (by omega)]
 rfl
theorem Kd.out_in {k:Kd}{e s o:Int} (e0:0<=e) (e1:e<k.many) (hs:k.point=true->s=1∨s=2) (h:k.out e s=.int o):0<=o/\o<k.many:=by
 unfold Kd.out at h
 by_cases c:k=.stop
 ·rw[if_pos c] at h; cases h
 rw[if_neg c] at h
 by_cases p:k.point=true
 ·rw[if_pos p] at h
  have m:=Kd.many_point p
  rcases hs p with r | r <;> split at h <;> (injection h with h; omega)
 ·rw[if_neg p] at h
  have m:k.many = 2:=by cases k <;> first | rfl | (exfalso; exact c rfl) | (exfalso; exact p rfl)
  injection h with h
  omega
theorem Kd.out_np {k:Kd} (h:¬ k.point=true) (e s s':Int):k.out e s=k.out e s':=by unfold Kd.out; rw[if_neg h,if_neg h]
theorem dL (w:Wd) (s:Sd) (z:En) (k:Kd) (z':En):(bd w s z k z').at_=some z':=rfl
theorem c7 {s s':Sd} (h:w.nx s=some s'):∃ (z:En) (k:Kd) (o:Int) (z':En),s.at_=some z/\w.kf z.2.1=some k/\k.out z.2.2 (w.sv s z.2.1)=.int o/\w.mf z.2.1 o=some z'/\s'=bd w s z k z':=by
 unfold Wd.nx at h
 split at h
 ·cases h
 ·rename_i z hz
  split at h
  ·cases h
  ·rename_i k hk
   split at h
   ·rename_i o ho
    obtain⟨z',hm,e⟩:=Option.map_eq_some_iff.mp h
    exact⟨z,k,o,z',hz,hk,ho,hm,e.symm⟩
   ·cases h
theorem io {z:En}{k:Kd}{o:Int}{z':En} (hz:s.at_=some z) (hk:w.kf z.2.1=some k) (ho:k.out z.2.2 (w.sv s z.2.1)=.int o) (hm:w.mf z.2.1 o=some z'):w.nx s=some (bd w s z k z'):=by
 unfold Wd.nx
 simp only[hz,hk,ho,hm,Option.map_some]
theorem kY {y y':YR}{z:En}{k:Kd}{z':En}{o:Int} (R:Rep w s y) (hz:s.at_=some z) (hk:w.kf z.2.1=some k) (hm:w.mf z.2.1 o=some z')
  (e1:y'.kinds=y.kinds) (e2:y'.notes=y.notes) (e3:y'.rods=y.rods) (e4:y'.mates=y.mates) (e5:y'.sides=(bd w s z k z').ss.map V.int) (e6:y'.eng=.ref z'.1) (e7:y'.rung=(bd w s z k z').rg.map V.int) :
  Rep w (bd w s z k z') y':=by
 have hl:(bd w s z k z').ss.length=s.ss.length:=by
  unfold bd; dsimp only; split
  ·exact List.length_set
  ·rfl
 refine⟨fun n k h=>by rw[e1]; exact R.kd n k h,fun n k h=>by rw[e2]; exact R.no n k h,fun n k h=>by rw[e3]; exact R.ro n k h,fun n k h1 h2=>by rw[hl]; exact R.rr n k h1 h2,e5,fun x hx=>?_,fun n e=>by rw[e4]; exact R.mt n e,R.mo,e6,fun u hu=>?_,e7⟩
 ·unfold bd at hx
  dsimp only at hx
  split at hx
  ·rename_i hp
   rcases List.mem_or_eq_of_mem_set hx with hx | hx
   ·exact R.s12 x hx
   ·obtain⟨k',h1,h2,h3⟩:=R.eo z hz
    rw[hk] at h1
    cases h1
    rw[hx]
    exact Kd.side12 h2 h3 (R.s1 hk hp)
  ·exact R.s12 x hx
 ·rw[dL] at hu
  cases hu
  exact R.mo _ _ _ hm
theorem Pool.step {s s':Sd} (p:Pool w s L) (h:w.nx s=some s'):Pool w s' L:=by
 obtain⟨z,k,o,z',_,_,_,hm,rfl⟩:=c7 h
 refine⟨p.m,fun u hu=>?_⟩
 rw[dL] at hu
 cases hu
 exact p.m _ _ _ hm
inductive Nxt (w:Wd) (s:Sd):List V->Prop
 | held (h:w.nx s=none) (x:Str) (e:w.why s=.str x):Nxt w s [.str x,.non,.non]
 | goes (z:En) (k:Kd) (o:Int) (z':En) (hz:s.at_=some z) (hk:w.kf z.2.1=some k) (ho:k.out z.2.2 (w.sv s z.2.1)=.int o) (hm:w.mf z.2.1 o=some z') :
   Nxt w s [.non,.ref z'.1,if k.point then .int (k.side z.2.2 (w.sv s z.2.1)) else .non]
inductive sp_carry (C:Addr) (vs:List V) (H:Hp) (Q:VK) (E_:XK):Prop
 | mk (A:YA) (y:YR) (L:Kn) (w:Wd) (s:Sd) (z:En) (k:Kd) (z':En) (_:vs=[.ref A.p,.ref z'.1,if k.point then .int (k.side z.2.2 (w.sv s z.2.1)) else .non]) (_:Has H (yL C A y++L)) (_:Rep w s y) (_:s.at_=some z) (_:w.kf z.2.1=some k) (_:(∃ j:Nat,L[j]?=some (z.1,HO.tup [.int z.2.1,.int z.2.2]))) (_:y.trail.length<=900000) (_:y.rung.length<=900000) (_:∀ H' a,Has H' (yL C A { y with sides:=(bd w s z k z').ss.map V.int,eng:=.ref z'.1,rung:=(bd w s z k z').rg.map V.int,trail:=y.trail++[.ref a] }++((a,w.tr s)::L))->Q .non H'):sp_carry C vs H Q E_
inductive sp_next (C:Addr) (vs:List V) (H:Hp) (Q:VK) (E_:XK):Prop
 | mk (A:YA) (y:YR) (L:Kn) (w:Wd) (s:Sd) (_:vs=[.ref A.p]) (_:Has H (yL C A y++L)) (_:Rep w s y) (_:Pool w s L) (_:∀ H' p xs,Nxt w s xs->Has H' ((p,.tup xs)::(yL C A y++L))->Q (.ref p) H'):sp_next C vs H Q E_
inductive sp_held (C:Addr) (vs:List V) (H:Hp) (Q:VK) (E_:XK):Prop
 | mk (A:YA) (y:YR) (L:Kn) (w:Wd) (s:Sd) (_:vs=[.ref A.p]) (_:Has H (yL C A y++L)) (_:Rep w s y) (_:Pool w s L) (_:∀ H',Has H' (yL C A y++L)->Q (w.why s) H'):sp_held C vs H Q E_
inductive sp_run (C:Addr) (vs:List V) (H:Hp) (Q:VK) (E_:XK):Prop
 | mk (A:YA) (y:YR) (L:Kn) (w:Wd) (s:Sd) (ts:List (Addr×Sd)) (m:Int) (_:vs=[.ref A.p,.int m]) (_:Has H (yL C A y++(trK w ts++L))) (_:Rep w s y) (_:Pool w s L) (_:y.trail=trV ts) (_:ts.length+m<=900000) (_:y.rung.length+m<=900000) (_:ts.length<=900000) (_:y.rung.length<=900000) (_:∀ H' y' ts',Has H' (yL C A y'++(trK w (ts++ts')++L))->Rep w (w.go m.toNat s) y'->y'.trail=trV (ts++ts')->ts'.map (·.2)=w.hist m.toNat s->y'.next=y.next->y'.kinds=y.kinds->y'.notes=y.notes->y'.rods=y.rods->y'.mates=y.mates->Pool w (w.go m.toNat s) L->Q (.int ts'.length) H'):sp_run C vs H Q E_
theorem dH {w:Wd} (h:s.at_=none):w.nx s=none/\w.why s=.str "none":=by
 unfold Wd.nx Wd.why; simp only[h]; exact⟨trivial,trivial⟩
theorem db {z:En}{k:Kd} (hz:s.at_=some z) (hk:w.kf z.2.1=some k) (ho:k.out z.2.2 (w.sv s z.2.1)=.non):w.nx s=none/\w.why s=.str "stop":=by
 unfold Wd.nx Wd.why; simp only[hz,hk,ho]; exact⟨trivial,trivial⟩
theorem cS {z:En}{k:Kd}{o:Int} (hz:s.at_=some z) (hk:w.kf z.2.1=some k) (ho:k.out z.2.2 (w.sv s z.2.1)=.int o) (hm:w.mf z.2.1 o=none):w.nx s=none/\w.why s=.str "loose":=by
 unfold Wd.nx Wd.why; simp only[hz,hk,ho,hm,Option.map_none]; exact⟨trivial,trivial⟩
theorem gZ {z:En}{k:Kd}{o:Int}{z':En} (hz:s.at_=some z) (hk:w.kf z.2.1=some k) (ho:k.out z.2.2 (w.sv s z.2.1)=.int o) (hm:w.mf z.2.1 o=some z'):w.why s=.non:=by
 unfold Wd.why; simp only[hz,hk,ho,hm]
theorem Nxt.why {xs:List V} (h:Nxt w s xs):xs.length=3/\xs[0]?=some (w.why s):=by
 cases h with
 | held h x e=>rw[e]; exact⟨U,U⟩
 | goes z k o z' hz hk ho hm=>rw[gZ hz hk ho hm]; exact⟨U,U⟩
theorem bD (w:Wd) {s s':Sd} (h:w.nx s=some s') (n:Nat):w.go (n+1) s=w.go n s':=by show(match w.nx s with | none=>s | some s'=>w.go n s')=_; rw[h]
theorem bg (w:Wd) {s s':Sd} (h:w.nx s=some s') (n:Nat):w.hist (n+1) s=s::w.hist n s':=by show(match w.nx s with | none=>[] | some s'=>s::w.hist n s')=_; rw[h]
theorem bV (w:Wd) (h:w.nx s=none):∀ n,w.go n s=s
 | 0=>rfl
 | n+1=>by show(match w.nx s with | none=>s | some s'=>w.go n s')=_; rw[h]
theorem bG (w:Wd) (h:w.nx s=none):∀ n,w.hist n s=[]
 | 0=>rfl
 | n+1=>by show(match w.nx s with | none=>[] | some s'=>s::w.hist n s')=_; rw[h]
theorem n6 (w:Wd) (ts:List (Addr×Sd)) (a:Addr) (s:Sd) (L:Kn):trK w (ts++[(a,s)])++L=trK w ts++((a,w.tr s)::L):=by
 unfold trK; rw[wL,wG]; rfl
theorem eK {w:Wd}{s:Sd}{z:En}{k:Kd}{z':En}:(bd w s z k z').rg.length<=s.rg.length+1:=by
 unfold bd; dsimp only; split
 ·simp
 ·omega
theorem gD (w:Wd):∀ (n:Nat) (s:Sd),(w.go n s).ss.length=s.ss.length
 | 0,s=>rfl
 | n+1,s=>by
  cases h:w.nx s with
  | none=>rw[bV w h]
  | some s'=>
   rw[bD w h,gD w n s']
   obtain⟨z,k,o,z',_,_,_,_,rfl⟩:=c7 h
   unfold bd; dsimp only; split
   ·exact List.length_set
   ·rfl
theorem Pool.app (p:Pool w s L) (M:Kn):Pool w s (M++L):=by
 have sh:∀ {x:Addr×HO},(∃ j:Nat,L[j]?=some x)->∃ j:Nat,(M++L)[j]?=some x:=fun {x} ⟨j,h⟩=>⟨M.length+j,by rw[wR (by omega),show M.length+j - M.length=j by omega]; exact h⟩
 exact⟨fun n e z h=>sh (p.m n e z h),fun z h=>sh (p.e z h)⟩
inductive runInv (C:Addr) (A:YA) (y:YR) (L:Kn) (W:Wd) (s:Sd) (ts:List (Addr×Sd)) (m:Int) (r:Nat) (σ:St) (H:Hp):Prop
 | mk (i:Nat) (y1:YR) (ts1:List (Addr×Sd)) (s1:Sd) (o1 o2 o3:Option V) (_:r=m.toNat - i) (_:i<=m.toNat) (_:σ=[some (.ref A.p),some (.int m),some (.int i),o1,o2,o3]) (_:Has H (yL C A y1++(trK W (ts++ts1)++L))) (_:Rep W s1 y1) (_:Pool W s1 L) (_:y1.trail=trV (ts++ts1)) (_:ts1.length=i) (_:W.go m.toNat s=W.go (m.toNat - i) s1) (_:W.hist m.toNat s=ts1.map (·.2)++W.hist (m.toNat - i) s1) (_:y1.rung.length<=y.rung.length+i) (_:y1.next=y.next) (_:y1.kinds=y.kinds) (_:y1.notes=y.notes) (_:y1.rods=y.rods) (_:y1.mates=y.mates):runInv C A y L W s ts m r σ H
section
variable {P:Program}{w:World}{K:PySem.W.Frag}{mg:Str->Option Value}{base:Heap}{t:Adr}
theorem scCy:FnScope ["self","end","side","piece","rod"] ["self","end","side"] (aj vP):={}
theorem ok_Jh (T:Txt K mg t):FnOk P w K mg base CX0 1 t.f_Jh t.d_Jh ["self","end","side"] (sp_carry t.c_Yard):=by
 refine T.F_Jh.ok scCy (fun vs H Q E h=>?_) (fun cdv A outer s H vs Q E hr h=>?_)
 ·obtain⟨_,_,_,_,_,_,_,_,rfl,_⟩:=h
  rfl
 ·obtain⟨A,y,L,W,s1,z,k,z',rfl,hH,R,hz,hk,⟨j,hj⟩,tl,rl,q⟩:=h
  have hu:=bi hr
  refine⟨_,(ae (ax (i:=3) scCy.nd rfl (Or.inl rfl) (aR bn (aw (pv 0) rfl) ai))
   (ae (ax (i:=4) scCy.nd rfl (Or.inl rfl) (ic hu (aw (pv 0) rfl) (pv 3) ⟨U,U,U,U⟩))
   (ae (av (fi PySem.F.plainAttrs_list PySem.F.slot_list_append PySem.F.type_list_append bW (aw (pv 0) rfl) (@aa _ _ _ _ _ (aF (aa (aw (pv 0) rfl) (aa (dO (ak cm (pv 4) aK (am _)) aK (aR bc (aw (pv 0) rfl) (pv 4))) af))) af (by rfl))))
   (ae (au (ak cZ (pv 4) aK (am _))
    (ag (cD (pv 2) (gl (aw (pv 0) rfl) (pv 4) dN)))
    al)
   (ae (au (bB (cU hu (pv 3) (aw (pv 0) rfl)))
    (ag (av (fi PySem.F.plainAttrs_list PySem.F.slot_list_append PySem.F.type_list_append bW (aw (pv 0) rfl) (aa (aq hu (aw (pv 0) rfl) (pv 3)) af))))
    al)
   (ag (bH (pv 0) (pv 1) rfl))))))),?_⟩
  have gz:=hH.get (j+9) (by simpa [yL] using hj)
  have en:y.eng=.ref z.1:=by rw[R.en,hz]; rfl
  refine⟨_,U,A.p,_,A.dx,_,_,U,hH.get 1 U,T.cl_Yard,T.n_Ja_end,d9 _ _ _,z.1,_,_,_,en,U,SqT.of gz,U,?_⟩
  refine⟨_,U,A.p,_,A.dx,_,_,U,hH.get 1 U,T.cl_Yard,T.n_Js_under,cB _ _ _,A.r,U,.inl ⟨_,.inl (hH.get 5 U)⟩,_,U,_,DGet.k (k:=Sum.inl z.2.1) (hH.get 5 U),?_⟩
  refine⟨_,U,A.p,_,A.dx,_,_,U,hH.get 1 U,T.cl_Yard,T.n_Yard_trail,iI _ _ _,.inl ⟨U,_,SqL.of (hH.get 0 U)⟩,?_⟩
  refine⟨_,U,A.p,_,A.dx,_,_,U,hH.get 1 U,T.cl_Yard,T.n_Ja_end,d9 _ _ _,_,U,U,_,U,?_⟩
  rw[R.ro _ _ hk,en]
  have etr:W.tr s1=.tup [.ref z.1,if k.point then .int (W.sv s1 z.2.1) else .non]:=by unfold Wd.tr; rw[hz]; show HO.tup [.ref z.1,W.tv s1 z]=_; unfold Wd.tv; rw[hk]
  by_cases hp:k.point=true
  ·rw[if_pos hp] at etr ⊢
   try rw[if_pos hp]
   obtain⟨r0,r1⟩:=R.rr _ _ hk hp
   have sa:=R.sideAt hk hp
   refine ifF rfl ?_
   refine⟨_,U,A.p,_,A.dx,_,_,U,hH.get 1 U,T.cl_Yard,T.n_Yard_sides,bX _ _ _,_,U,A.s,_,W.rf z.2.1,_,U,U,SqL.of (hH.get 6 U),(by rw[show W.rf z.2.1=(((W.rf z.2.1).toNat:Nat):Int) by omega]; exact bh sa),?_⟩
   refine⟨(show 2<=sizeLine by decide),fun a ha=>?_⟩
   have h1:=hH.alloc ha (.tup [.ref z.1,.int (W.sv s1 z.2.1)])
   refine⟨A.tr,_,_,U,U,h1.get 1 U,aS (by omega),?_⟩
   have h2:=Has.comm (X:=[_]) (Y:=yL t.c_Yard A { y with trail:=y.trail++[.ref a] }) (R:=L) (h1.puti 1 U (.lst (y.trail++[.ref a])))
   generalize upd (upd H a _) A.tr _=H2 at h2 ⊢
   replace h2:Has H2 (yL t.c_Yard A { y with trail:=y.trail++[.ref a] }++((a,W.tr s1)::L)):=by rw[etr]; exact h2
   clear h1 ha
   refine⟨_,U,U,_,U,ifT rfl ?_⟩
   have sl:y.sides.length=s1.ss.length:=by rw[R.sd,wF]
   have hjx:ixN y.sides.length (W.rf z.2.1)=some (W.rf z.2.1).toNat:=by unfold ixN; rw[if_pos r0,if_pos (by omega)]
   refine⟨_,U,_,U,A.p,_,A.dx,_,_,U,h2.get 1 U,T.cl_Yard,T.n_Yard_sides,bX _ _ _,_,U,A.s,_,_,_,U,U,h2.get 6 U,hjx,?_⟩
   have h3:=h2.puti 6 U (.lst (y.sides.set (W.rf z.2.1).toNat (.int (k.side z.2.2 (W.sv s1 z.2.1)))))
   have es:(bd W s1 z k z').ss.map V.int=y.sides.set (W.rf z.2.1).toNat (.int (k.side z.2.2 (W.sv s1 z.2.1))):=by unfold bd; dsimp only; rw[if_pos hp,List.map_set,R.sd]
   have hT:Has _ (yL t.c_Yard A { y with sides:=y.sides.set (W.rf z.2.1).toNat (.int (k.side z.2.2 (W.sv s1 z.2.1))),trail:=y.trail++[.ref a] }++((a,W.tr s1)::L)):=h3
   refine⟨_,U,_,U,A.p,_,A.dx,_,_,U,hT.get 1 U,T.cl_Yard,T.n_Yard_notes,cf _ _ _,A.n,_,U,DGet.k (k:=Sum.inl z.2.1) (hT.get 4 U),_,U,if2 (fun hb=>?_) (fun hb=>?_)⟩
   ·have kb:k=.bell:=by
     rw[R.no _ _ hk] at hb
     by_cases c:k=.bell
     ·exact c
     ·rw[if_neg c] at hb; cases hb
    have nv:az y.notes (Sum.inl z.2.1)=some (.int (W.nf z.2.1)):=by rw[R.no _ _ hk,if_pos kb]
    refine⟨_,U,A.p,_,A.dx,_,_,U,hT.get 1 U,T.cl_Yard,T.n_Yard_rung,fc _ _ _,.inl ⟨U,_,SqL.of (hT.get 8 U)⟩,_,U,A.p,_,A.dx,_,_,U,hT.get 1 U,T.cl_Yard,T.n_Yard_notes,cf _ _ _,_,U,A.n,_,U,(by rw[<- nv]; exact DGet.k (k:=Sum.inl z.2.1) (hT.get 4 U)),A.g,_,_,U,U,hT.get 8 U,aS (show y.rung.length<=1000000 by omega),?_⟩
    have h4:Has _ (yL t.c_Yard A { y with sides:=y.sides.set (W.rf z.2.1).toNat (.int (k.side z.2.2 (W.sv s1 z.2.1))),rung:=y.rung++[.int (W.nf z.2.1)],trail:=y.trail++[.ref a] }++((a,W.tr s1)::L)):=hT.puti 8 U (.lst (y.rung++[.int (W.nf z.2.1)]))
    refine⟨_,U,_,U,A.p,_,A.dx,_,U,h4.get 1 U,T.cl_Yard,T.n_Ja_end,(show 9<1000 by decide),?_⟩
    rw[bJ]
    have h5:=h4.puti 1 U (.ins t.c_Yard A.dx (fl A y.next (.ref z'.1)))
    have er:(bd W s1 z k z').rg.map V.int=y.rung++[.int (W.nf z.2.1)]:=by unfold bd; dsimp only; rw[if_pos kb,wL,R.rg]; rfl
    refine q _ a ?_
    rw[er,es]
    exact h5
   ·have kb:¬ k=.bell:=fun c=>by rw[R.no _ _ hk,if_pos c] at hb; cases hb
    refine⟨_,U,_,U,A.p,_,A.dx,_,U,hT.get 1 U,T.cl_Yard,T.n_Ja_end,(show 9<1000 by decide),?_⟩
    rw[bJ]
    have h5:=hT.puti 1 U (.ins t.c_Yard A.dx (fl A y.next (.ref z'.1)))
    have er:(bd W s1 z k z').rg.map V.int=y.rung:=by unfold bd; dsimp only; rw[if_neg kb,R.rg]
    refine q _ a ?_
    rw[er,es]
    exact h5
  ·rw[if_neg hp] at etr ⊢
   try rw[if_neg hp]
   refine ifT rfl ?_
   refine⟨(show 2<=sizeLine by decide),fun a ha=>?_⟩
   have h1:=hH.alloc ha (.tup [.ref z.1,.non])
   refine⟨A.tr,_,_,U,U,h1.get 1 U,aS (by omega),?_⟩
   have h2:=Has.comm (X:=[_]) (Y:=yL t.c_Yard A { y with trail:=y.trail++[.ref a] }) (R:=L) (h1.puti 1 U (.lst (y.trail++[.ref a])))
   generalize upd (upd H a _) A.tr _=H2 at h2 ⊢
   replace h2:Has H2 (yL t.c_Yard A { y with trail:=y.trail++[.ref a] }++((a,W.tr s1)::L)):=by rw[etr]; exact h2
   clear h1 ha
   refine⟨_,U,U,_,U,ifF rfl ?_⟩
   have h3:=h2
   have es:(bd W s1 z k z').ss.map V.int=y.sides:=by unfold bd; dsimp only; rw[if_neg hp,R.sd]
   have hT:Has _ (yL t.c_Yard A { y with sides:=y.sides,trail:=y.trail++[.ref a] }++((a,W.tr s1)::L)):=h3
   refine⟨_,U,_,U,A.p,_,A.dx,_,_,U,hT.get 1 U,T.cl_Yard,T.n_Yard_notes,cf _ _ _,A.n,_,U,DGet.k (k:=Sum.inl z.2.1) (hT.get 4 U),_,U,if2 (fun hb=>?_) (fun hb=>?_)⟩
   ·have kb:k=.bell:=by
     rw[R.no _ _ hk] at hb
     by_cases c:k=.bell
     ·exact c
     ·rw[if_neg c] at hb; cases hb
    have nv:az y.notes (Sum.inl z.2.1)=some (.int (W.nf z.2.1)):=by rw[R.no _ _ hk,if_pos kb]
    refine⟨_,U,A.p,_,A.dx,_,_,U,hT.get 1 U,T.cl_Yard,T.n_Yard_rung,fc _ _ _,.inl ⟨U,_,SqL.of (hT.get 8 U)⟩,_,U,A.p,_,A.dx,_,_,U,hT.get 1 U,T.cl_Yard,T.n_Yard_notes,cf _ _ _,_,U,A.n,_,U,(by rw[<- nv]; exact DGet.k (k:=Sum.inl z.2.1) (hT.get 4 U)),A.g,_,_,U,U,hT.get 8 U,aS (show y.rung.length<=1000000 by omega),?_⟩
    have h4:Has _ (yL t.c_Yard A { y with sides:=y.sides,rung:=y.rung++[.int (W.nf z.2.1)],trail:=y.trail++[.ref a] }++((a,W.tr s1)::L)):=hT.puti 8 U (.lst (y.rung++[.int (W.nf z.2.1)]))
    refine⟨_,U,_,U,A.p,_,A.dx,_,U,h4.get 1 U,T.cl_Yard,T.n_Ja_end,(show 9<1000 by decide),?_⟩
    rw[bJ]
    have h5:=h4.puti 1 U (.ins t.c_Yard A.dx (fl A y.next (.ref z'.1)))
    have er:(bd W s1 z k z').rg.map V.int=y.rung++[.int (W.nf z.2.1)]:=by unfold bd; dsimp only; rw[if_pos kb,wL,R.rg]; rfl
    refine q _ a ?_
    rw[er,es]
    exact h5
   ·have kb:¬ k=.bell:=fun c=>by rw[R.no _ _ hk,if_pos c] at hb; cases hb
    refine⟨_,U,_,U,A.p,_,A.dx,_,U,hT.get 1 U,T.cl_Yard,T.n_Ja_end,(show 9<1000 by decide),?_⟩
    rw[bJ]
    have h5:=hT.puti 1 U (.ins t.c_Yard A.dx (fl A y.next (.ref z'.1)))
    have er:(bd W s1 z k z').rg.map V.int=y.rung:=by unfold bd; dsimp only; rw[if_neg kb,R.rg]
    refine q _ a ?_
    rw[er,es]
    exact h5
theorem scNs:FnScope ["yard","stand","piece","end","kind","side","out","behind","mate"] ["yard"] (aj vM):={}
theorem sH (T:Txt K mg t):FnOk P w K mg base CX0 5 t.f_Jk t.d_Jk ["yard"] (sp_next t.c_Yard):=by
 refine T.F_Jk.ok scNs (fun vs H Q E h=>?_) (fun cdv A outer s H vs Q E hr h=>?_)
 ·obtain⟨_,_,_,_,_,rfl,_⟩:=h
  rfl
 ·obtain⟨A,y,L,W,s1,rfl,hH,R,PL,q⟩:=h
  have three:3<=sizeLine:=by decide
  refine⟨_,(ae (ax (i:=1) scNs.nd rfl (Or.inl rfl) (aO (pv 0) T.cl_Yard T.M_Ja (ma T) hr (rE T) .nil aM))
   (ae (au (ak cm (pv 1) aK (am _))
    (ag (ap (aF (aa ah (aa aK (aa aK af))))))
    al)
   (ae (cD (pv 1) (dC rfl (aU (aI (i:=2) scNs.nd rfl (Or.inl rfl)) (aU (aI (i:=3) scNs.nd rfl (Or.inl rfl)) cL))))
   (ae (ax (i:=4) scNs.nd rfl (Or.inl rfl) (aH (pv 0) T.cl_Yard T.M_Jo (sF T) hr (wq T) .nil aM (aa (pv 2) af)))
   (ae (ax (i:=5) scNs.nd rfl (Or.inl rfl) (dO (bj (pcl (lZ T) hr T.m_Jv T.F_Jv.kp (rD T) (aa (pv 4) af))) (aH (pv 0) T.cl_Yard T.M_Jq (sD T) hr (wo T) .nil aM (aa (aH (pv 0) T.cl_Yard T.M_Jz (sB T) hr (wk T) .nil aM (aa (pv 2) af)) af)) aK))
   (ae (cD (pcl (uc T) hr T.m_J51 T.F_J51.kp (b_J51 T) (aa (pv 4) (aa (pv 3) (aa (pv 5) af)))) (dC rfl (aU (aI (i:=6) scNs.nd rfl (Or.inl rfl)) (aU (aI (i:=7) scNs.nd rfl (Or.inl rfl)) cL))))
   (ae (au (ak cm (pv 6) aK (am _))
    (ag (ap (aF (aa ah (aa aK (aa aK af))))))
    al)
   (ae (ax (i:=8) scNs.nd rfl (Or.inl rfl) (aH (pv 0) T.cl_Yard T.M_Jp (sE T) hr (wp T) .nil aM (@aa _ _ _ _ _ (aF (aa (pv 2) (aa (pv 6) af))) af (by rfl))))
   (ae (au (ak cm (pv 8) aK (am _))
    (ag (ap (aF (aa ah (aa aK (aa aK af))))))
    al)
   (ag (ap (aF (aa aK (aa (pv 8) (aa (pv 7) af))))))))))))))),?_⟩
  refine⟨_,U,A.p,A.dx,_,U,hH.get 1 U,(dm _ _ _).2.2.2.2.2.2.1,A,y,L,U,hH,?_⟩
  refine⟨_,U,U,_,U,?_⟩
  rw[R.en]
  cases hz:s1.at_ with
  | none=>
   obtain⟨n1,n2⟩:=dH (w:=W) hz
   exact cP ⟨three,fun p hp=>q _ p _ (.held n1 _ n2) (hH.alloc hp _)⟩
  | some z=>
   obtain⟨j,hj⟩:=PL.e z hz
   obtain⟨k,hk,e0,e1⟩:=R.eo z hz
   have gz:=hH.get (j+9) (by simpa [yL] using hj)
   have vk:az y.kinds (Sum.inl z.2.1)=some (.str k.str):=R.kd _ _ hk
   refine bL ?_
   refine⟨_,U,z.1,_,U,SqT.of gz,U,_,_,U,_,_,U,U,?_⟩
   refine⟨_,U,A.p,A.dx,_,U,hH.get 1 U,(dm _ _ _).2.2.2.2.1,_,U,A,y,L,z.2.1,_,U,hH,vk,?_⟩
   refine⟨_,U,k,U,_,U,?_⟩
   have thr:∀ o:Int,k.out z.2.2 (W.sv s1 z.2.1)=.int o->eF y z.2.1 o:=fun o ho=>by
    have:=Kd.out_in e0 e1 (fun hp=>R.s1 hk hp) ho
    exact⟨k,vk,this.1,this.2⟩
   refine if2 (fun hp=>?_) (fun hp=>?_)
   ·obtain⟨r0,r1⟩:=R.rr _ _ hk hp
    have vr:az y.rods (Sum.inl z.2.1)=some (.int (W.rf z.2.1)):=by rw[R.ro _ _ hk,if_pos hp]
    refine⟨_,U,A.p,A.dx,_,U,hH.get 1 U,(bY _ _ _).2.2.2.2.2.1,_,U,A.p,A.dx,_,U,hH.get 1 U,(bY _ _ _).2.2.2.2.1,_,U,A,y,L,z.2.1,_,_,U,hH,vk,vr,A,y,L,W.rf z.2.1,_,U,hH,r0,R.sideAt hk hp,?_⟩
    refine⟨_,U,_,U,_,U,k,z.2.2,W.sv s1 z.2.1,V.int (W.sv s1 z.2.1),U,e0,e1,(fun h=>⟨U,R.s1 hk hp⟩),fun p hp1=>?_⟩
    have h1:=hH.alloc hp1 (.tup [k.out z.2.2 (W.sv s1 z.2.1),if k.point then .int (k.side z.2.2 (W.sv s1 z.2.1)) else V.int (W.sv s1 z.2.1)])
    refine⟨p,_,U,SqT.of (h1.get 0 U),U,_,_,U,_,_,U,U,?_⟩
    replace h1:=h1.tail
    generalize upd H p _=H1 at h1 ⊢
    refine⟨_,U,U,_,U,?_⟩
    by_cases c:k.out z.2.2 (W.sv s1 z.2.1)=.non
    ·obtain⟨n1,n2⟩:=db hz hk c
     exact ifT (decide_eq_true c) ⟨three,fun p hp=>q _ p _ (.held n1 _ n2) (h1.alloc hp _)⟩
    ·refine ifF (decide_eq_false c) ?_
     obtain⟨o,ho⟩:=Kd.out_int (k:=k) (fun e=>c (by unfold Kd.out; rw[if_pos e])) z.2.2 (W.sv s1 z.2.1)
     rw[ho]
     refine⟨_,U,A.p,A.dx,_,U,h1.get 1 U,(cH _ _ _).2.1,_,U,_,U,(show 2<=sizeLine by decide),fun b hb=>?_⟩
     have h2:=Has.comm (X:=[(b,.tup [.int z.2.1,.int o])]) (Y:=yL t.c_Yard A y) (R:=L) (h1.alloc hb (.tup [.int z.2.1,.int o]))
     generalize upd H1 b _=H2 at h2 ⊢
     refine⟨A,y,_,b,z.2.1,o,0,U,h2,U,thr o ho,?_⟩
     have h3:=(Has.comm (X:=yL t.c_Yard A y) (Y:=[(b,.tup [.int z.2.1,.int o])]) (R:=L) h2).tail
     refine⟨_,U,U,_,U,?_⟩
     rw[R.mt]
     cases hm:W.mf z.2.1 o with
     | none=>
      obtain⟨n1,n2⟩:=cS hz hk ho hm
      exact cP ⟨three,fun p hp=>q _ p _ (.held n1 _ n2) (h3.alloc hp _)⟩
     | some z'=>
      exact bL ⟨_,U,_,U,three,fun p hp=>q _ p _ (.goes z k o z' hz hk ho hm) (by rw[if_pos (by assumption:k.point=true)]; have:=h3.alloc hp (.tup [.non,.ref z'.1,.int (k.side z.2.2 (W.sv s1 z.2.1))]); simpa [*] using this)⟩
   ·refine⟨_,U,_,U,_,U,k,z.2.2,W.sv s1 z.2.1,V.non,U,e0,e1,(fun h=>absurd h (by rw[hp]; decide)),fun p hp1=>?_⟩
    have h1:=hH.alloc hp1 (.tup [k.out z.2.2 (W.sv s1 z.2.1),if k.point then .int (k.side z.2.2 (W.sv s1 z.2.1)) else V.non])
    refine⟨p,_,U,SqT.of (h1.get 0 U),U,_,_,U,_,_,U,U,?_⟩
    replace h1:=h1.tail
    generalize upd H p _=H1 at h1 ⊢
    refine⟨_,U,U,_,U,?_⟩
    by_cases c:k.out z.2.2 (W.sv s1 z.2.1)=.non
    ·obtain⟨n1,n2⟩:=db hz hk c
     exact ifT (decide_eq_true c) ⟨three,fun p hp=>q _ p _ (.held n1 _ n2) (h1.alloc hp _)⟩
    ·refine ifF (decide_eq_false c) ?_
     obtain⟨o,ho⟩:=Kd.out_int (k:=k) (fun e=>c (by unfold Kd.out; rw[if_pos e])) z.2.2 (W.sv s1 z.2.1)
     rw[ho]
     refine⟨_,U,A.p,A.dx,_,U,h1.get 1 U,(cH _ _ _).2.1,_,U,_,U,(show 2<=sizeLine by decide),fun b hb=>?_⟩
     have h2:=Has.comm (X:=[(b,.tup [.int z.2.1,.int o])]) (Y:=yL t.c_Yard A y) (R:=L) (h1.alloc hb (.tup [.int z.2.1,.int o]))
     generalize upd H1 b _=H2 at h2 ⊢
     refine⟨A,y,_,b,z.2.1,o,0,U,h2,U,thr o ho,?_⟩
     have h3:=(Has.comm (X:=yL t.c_Yard A y) (Y:=[(b,.tup [.int z.2.1,.int o])]) (R:=L) h2).tail
     refine⟨_,U,U,_,U,?_⟩
     rw[R.mt]
     cases hm:W.mf z.2.1 o with
     | none=>
      obtain⟨n1,n2⟩:=cS hz hk ho hm
      exact cP ⟨three,fun p hp=>q _ p _ (.held n1 _ n2) (h3.alloc hp _)⟩
     | some z'=>
      exact bL ⟨_,U,_,U,three,fun p hp=>q _ p _ (.goes z k o z' hz hk ho hm) (by exact h3.alloc hp _)⟩
theorem scHe:FnScope ["yard"] ["yard"] (aj oN):={}
theorem qT (T:Txt K mg t):FnOk P w K mg base CX0 6 t.f_held t.d_held ["yard"] (sp_held t.c_Yard):=by
 refine T.F_held.ok scHe (fun vs H Q E h=>?_) (fun cdv A outer s H vs Q E hr h=>?_)
 ·obtain⟨_,_,_,_,_,rfl,_⟩:=h
  rfl
 ·obtain⟨A,y,L,W,s1,rfl,hH,R,PL,q⟩:=h
  refine⟨_,(ag (ap (aR bn (pcl (sH T) hr T.m_Jk T.F_Jk.kp (wu T) (aa (pv 0) af)) ai))),?_⟩
  refine⟨_,U,A,y,L,W,s1,U,hH,R,PL,fun H1 p xs nx h1=>?_⟩
  exact⟨p,_,_,_,U,U,SqT.of (h1.get 0 U),bh (j:=0) nx.why.2,q _ h1.tail⟩
theorem scRn:FnScope ["yard","most","done","why","end","side"] ["yard","most"] (aj rV):={}
theorem fC (T:Txt K mg t):FnOk P w K mg base CX0 6 t.f_run t.d_run ["yard","most"] (sp_run t.c_Yard):=by
 refine T.F_run.ok scRn (fun vs H Q E h=>?_) (fun cdv A outer s H vs Q E hr h=>?_)
 ·obtain⟨_,_,_,_,_,_,_,rfl,_⟩:=h
  rfl
 ·obtain⟨A,y,L,W,s0,ts,m,rfl,hH,R,PL,tl,b1,b2,b3,b4,q⟩:=h
  refine⟨_,(ae (ax (i:=2) scRn.nd rfl (Or.inl rfl) ai)
   (ae (cV PassesOwn.never (ak cG (pv 2) (pv 1) (am _))
    (ae (cD (pcl (sH T) hr T.m_Jk T.F_Jk.kp (wu T) (aa (pv 0) af)) (dC rfl (aU (aI (i:=3) scRn.nd rfl (Or.inl rfl)) (aU (aI (i:=4) scRn.nd rfl (Or.inl rfl)) (aU (aI (i:=5) scRn.nd rfl (Or.inl rfl)) cL)))))
     (ae (au (ak cZ (pv 3) aK (am _))
      (ag kg)
      al)
     (ae (av (aH (pv 0) T.cl_Yard T.M_Jh (ok_Jh T) hr (b_Jh T) .nil aM (aa (pv 4) (aa (pv 5) af))))
     (ag (hV (i:=2) scRn.nd rfl (Or.inl rfl) ai iD))))))
   (ag (ap (pv 2))))),?_⟩
  refine⟨runInv t.c_Yard A y L W s0 ts m,⟨_,0,y,[],s0,_,_,_,U,Nat.zero_le _,U,by rw[wU]; exact hH,R,PL,by rw[wU]; exact tl,U,U,U,Nat.le_refl _,U,U,U,U,U⟩,?_⟩
  rintro r σ H1 ⟨i,y1,ts1,s1,o1,o2,o3,rfl,im,rfl,h1,R1,P1,tl1,li,eg,eh,rg,f1,f2,f3,f4,f5⟩
  refine⟨_,U,_,U,_,_,U,U,_,U,if2 (fun hc=>?_) (fun hc=>?_)⟩
  ·have hlt:(i:Int)<m:=of_decide_eq_true hc
   refine⟨fun σ' H'=>∃ r',r'<m.toNat - i/\runInv t.c_Yard A y L W s0 ts m r' σ' H',fun _ _ h=>h,?_⟩
   refine⟨_,U,A,y1,_,W,s1,U,h1,R1,P1.app _,fun H2 p xs nx h2=>?_⟩
   cases nx with
   | held hn x e=>
    refine⟨p,_,U,SqT.of (h2.get 0 U),U,_,_,U,_,_,U,_,_,U,U,?_⟩
    refine⟨_,U,U,_,U,ifT rfl ?_⟩
    rw[bV W hn] at eg
    rw[bG W hn,wU] at eh
    refine⟨_,U,?_⟩
    have:=q H2 y1 ts1 h2.tail (by rw[eg]; exact R1) tl1 eh.symm f1 f2 f3 f4 f5 (by rw[eg]; exact P1)
    rw[li] at this
    exact this
   | goes z k o z' hz hk ho hm=>
    have hn:=io hz hk ho hm
    refine⟨p,_,U,SqT.of (h2.get 0 U),U,_,_,U,_,_,U,_,_,U,U,?_⟩
    refine⟨_,U,U,_,U,ifF rfl ?_⟩
    replace h2:=h2.tail
    have tll:y1.trail.length=ts.length+i:=by rw[tl1]; unfold trV; rw[wF,wK,li]
    refine⟨_,U,A.p,A.dx,_,U,h2.get 1 U,(dm _ _ _).2.2.1,_,U,_,U,A,y1,_,W,s1,z,k,z',U,h2,R1,hz,hk,(P1.app _).e z hz,by omega,by omega,fun H3 a h3=>?_⟩
    refine⟨_,U,_,_,U,U,?_⟩
    have em:m.toNat - i=(m.toNat - (i+1))+1:=by omega
    rw[em,bD W hn] at eg
    rw[em,bg W hn] at eh
    refine⟨m.toNat - (i+1),by omega,i+1,{ y1 with sides:=(bd W s1 z k z').ss.map V.int,eng:=.ref z'.1,rung:=(bd W s1 z k z').rg.map V.int,trail:=y1.trail++[.ref a] },ts1++[(a,s1)],bd W s1 z k z',_,_,_,U,by omega,U,?_,kY R1 hz hk hm rfl rfl rfl rfl rfl rfl rfl,P1.step hn,?_,by simp[li],eg,by rw[eh]; simp,?_,f1,f2,f3,f4,f5⟩
    ·rw[<- wG ts ts1,n6]
     exact h3.perm (List.Perm.append_left _ List.perm_middle.symm)
    ·show y1.trail++[.ref a]=_
     rw[tl1]; unfold trV; simp
    ·show((bd W s1 z k z').rg.map V.int).length<=_
     have:=eK (w:=W) (s:=s1) (z:=z) (k:=k) (z':=z')
     have e:=congrArg List.length R1.rg
     rw[wF] at e ⊢
     omega
  ·have hge:¬ (i:Int)<m:=of_decide_eq_false hc
   have e0:m.toNat - i=0:=by omega
   rw[e0] at eg eh
   refine⟨_,U,?_⟩
   have:=q H1 y1 ts1 h1 (by rw[eg]; exact R1) tl1 (by rw[eh]; exact(wU _).symm) f1 f2 f3 f4 f5 (by rw[eg]; exact P1)
   rw[li] at this
   exact this
end
def tO:Sp:=fun vs H Q _=>(vs=[.non,.non]/\Q (.bl true) H)∨∃ (a b:Addr) (n e:Int),vs=[.ref a,.ref b]/\H a=some (.tup [.int n,.int e])/\H b=some (.tup [.int n,.int e])/\Q (.bl true) H
section
variable {P:Program}{w:World}{K:PySem.W.Frag}{mg:Str->Option Value}{base:Heap}{t:Adr}
theorem scIe:FnScope ["_law_found","_law_due_here"] ["_law_found","_law_due_here"] (aj r6):={}
theorem pA (T:Txt K mg t):FnOk P w K mg base CX0 3 t.f_Jb1 t.d_Jb1 ["_law_found","_law_due_here"] tO:=by
 refine T.F_Jb1.ok scIe (fun vs H Q E h=>?_) (fun cdv A outer s H vs Q E hr h=>?_)
 ·rcases h with ⟨rfl,_⟩ | ⟨_,_,_,_,rfl,_⟩ <;> rfl
 ·rcases h with ⟨rfl,q⟩ | ⟨a,b,n,e,rfl,ga,gb,q⟩
  all_goals refine⟨_,(ae (au (ak cm (pv 1) aK (am _))
    (ag (ap (bC cm (pv 0) aK (am _))))
    al)
   (ae (au (PW.pt (cQ (bZ (bj (ay eV (by rfl) T.z_isinstance (by rfl) (aa (pv 0) (aa (eW (v:=.ty "tuple") (by rfl) T.z_tuple (by rfl) rfl) af))))) (ck (ak ig (ay aL (by rfl) T.z_len (by rfl) (aa (pv 0) af)) ai (am _)))))
    (ag (ap cM))
    al)
   (ag (ap (fA (pcl (fR T) hr T.m_is T.F_is.kp (jZ T) (aa (aR bn (pv 0) ai) (aa (aR bn (pv 1) ai) af))) (fz (pcl (fR T) hr T.m_is T.F_is.kp (jZ T) (aa (aR bn (pv 0) ai) (aa (aR bn (pv 1) ai) af))))))))),?_⟩
  ·refine⟨_,U,U,_,U,cP ?_⟩
   exact⟨_,U,U,q⟩
  ·refine⟨_,U,U,_,U,bL ?_⟩
   refine⟨_,U,_,_,_,_,U,.tup ga,pS K,_,U,bL ?_⟩
   refine⟨_,U,a,_,U,.inr (SqT.of ga),U,_,U,bL ?_⟩
   refine⟨_,U,a,_,_,_,U,U,SqT.of ga,U,_,U,b,_,_,_,U,U,SqT.of gb,U,_,_,U,?_⟩
   rw[decide_eq_true rfl]
   refine⟨_,U,cP ?_⟩
   refine⟨_,U,a,_,_,_,U,U,SqT.of ga,U,_,U,b,_,_,_,U,U,SqT.of gb,U,_,_,U,?_⟩
   rw[decide_eq_true rfl]
   exact q
end
theorem i5 (w:Wd) (s:Sd) (h:∀ z,s.at_=some z->w.ok z):w.why s=.non∨∃ x,w.why s=.str x:=by
 cases hz:s.at_ with
 | none=>exact .inr ⟨_,(dH hz).2⟩
 | some z=>
  obtain⟨k,hk,_⟩:=h z hz
  by_cases c:k.out z.2.2 (w.sv s z.2.1)=.non
  ·exact .inr ⟨_,(db hz hk c).2⟩
  ·obtain⟨o,ho⟩:=Kd.out_int (k:=k) (fun e=>c (by unfold Kd.out; rw[if_pos e])) z.2.2 (w.sv s z.2.1)
   cases hm:w.mf z.2.1 o with
   | none=>exact .inr ⟨_,(cS hz hk ho hm).2⟩
   | some z'=>exact .inl (gZ hz hk ho hm)
theorem atD {ds:List Int}{i:Int} (h0:0<=i) (h1:i<ds.length):atI (ds.map V.int) i=some (.int (ds.getD i.toNat 0)):=by
 obtain⟨m,rfl⟩:∃ m:Nat,i=m:=⟨i.toNat,by omega⟩
 have hl:m<ds.length:=by omega
 rw[Int.toNat_natCast]
 refine bh ?_
 rw[wM,wH hl]
 simp[List.getD,wH hl]
def Wd.lay (w:Wd) (n:Int) (k:Kd) (note r:Int):Wd:=⟨fun i=>if i=n then some k else w.kf i,fun i=>if i=n then note else w.nf i,fun i=>if i=n then r else w.rf i,w.mf⟩
def Wd.link (w:Wd) (x z:En):Wd:={ w with mf:=fun n e=>if (n,e)=z.2 then some x else if (n,e)=x.2 then some z else w.mf n e }
def Fre (y:YR):Prop:=∀ n:Int,y.next<=n->az y.kinds (Sum.inl n)=none/\az y.notes (Sum.inl n)=none/\az y.rods (Sum.inl n)=none
structure Sz (y:YR) (n m:Nat):Prop where
 k:y.kinds.length<=n
 o:y.notes.length<=n
 r:y.rods.length<=n
 s:y.sides.length<=n
 m:y.mates.length<=m
 g:y.rung=[]
 t:y.trail=[]
theorem Fre.nil:Fre y0:=fun _ _=>⟨U,U,U⟩
theorem Sz.nil:Sz y0 0 0:=⟨Nat.le_refl _,Nat.le_refl _,Nat.le_refl _,Nat.le_refl _,Nat.le_refl _,U,U⟩
theorem gA {i n:Int} (h:¬ i=n):¬ (Sum.inl i:Key)=Sum.inl n:=fun e=>h (Sum.inl.inj e)
theorem Fre.lay {y:YR} (h:Fre y) (k:Kd) (note:Int) (rod:V):Fre (dq y k note rod):=fun n hn=>by
 have hn:y.next+1<=n:=hn
 obtain⟨a,b,c⟩:=h n (by omega)
 have ne:¬ n=y.next:=by omega
 refine⟨?_,?_,?_⟩
 ·show az (aG y.kinds (Sum.inl y.next) (.str k.str)) _=none
  rw[b7,if_neg (gA ne)]; exact a
 ·show az (if k=.bell then aG y.notes (Sum.inl y.next) (.int note) else y.notes) _=none
  split
  ·rw[b7,if_neg (gA ne)]; exact b
  ·exact b
 ·show az (if k.point=true then aG y.rods (Sum.inl y.next) (if rod=.non then .int y.sides.length else rod) else y.rods) _=none
  split
  ·rw[b7,if_neg (gA ne)]; exact c
  ·exact c
theorem Wd.ok_lay {n:Int}{k:Kd}{note r:Int}{z:En} (hf:w.kf n=none) (h:w.ok z):(w.lay n k note r).ok z:=by
 obtain⟨k',hk,e⟩:=h
 refine⟨k',?_,e⟩
 show(if z.2.1=n then some k else w.kf z.2.1)=some k'
 rw[if_neg (fun c=>by rw[c,hf] at hk; cases hk)]
 exact hk
theorem Rep.lay {y:YR} (R:Rep w s y) (F:Fre y) (hf:w.kf y.next=none) (k:Kd) (note r:Int) (rod:V) (ss':List Int)
  (hp:k.point=true->(rod=.non/\r=s.ss.length/\ss'=s.ss++[1])∨(rod=.int r/\0<=r/\r<s.ss.length/\ss'=s.ss)) (hn:k.point=false->ss'=s.ss) :
  Rep (w.lay y.next k note r) ⟨ss',s.at_,s.rg⟩ (dq y k note rod):=by
 obtain⟨f1,f2,f3⟩:=F y.next (Int.le_refl _)
 have up:s.ss.length<=ss'.length:=by
  cases e:k.point with
  | false=>rw[hn e]; exact Nat.le_refl _
  | true=>rcases hp e with ⟨_,_,h⟩ | ⟨_,_,_,h⟩ <;> rw[h] <;> simp
 have kfn:∀ {n:Int}{k':Kd},(w.lay y.next k note r).kf n=some k'->(n=y.next/\k'=k)∨(¬ n=y.next/\w.kf n=some k'):=fun {n k'} h=>by
  by_cases c:n=y.next
  ·refine .inl ⟨c,?_⟩
   have h:(if n=y.next then some k else w.kf n)=some k':=h
   rw[if_pos c] at h
   exact(Option.some.inj h).symm
  ·refine .inr ⟨c,?_⟩
   have h:(if n=y.next then some k else w.kf n)=some k':=h
   rw[if_neg c] at h
   exact h
 refine⟨fun n k' h=>?_,fun n k' h=>?_,fun n k' h=>?_,fun n k' h hpt=>?_,?_,?_,fun n e=>R.mt n e,fun n e z h=>Wd.ok_lay hf (R.mo n e z h),R.en,fun z hz=>Wd.ok_lay hf (R.eo z hz),R.rg⟩
 ·show az (aG y.kinds (Sum.inl y.next) (.str k.str)) _=_
  rcases kfn h with ⟨rfl,rfl⟩ | ⟨c,h'⟩
  ·rw[b7,if_pos rfl]
  ·rw[b7,if_neg (gA c)]; exact R.kd _ _ h'
 ·show az (if k=.bell then aG y.notes (Sum.inl y.next) (.int note) else y.notes) _=if k'=.bell then some (.int (if n=y.next then note else w.nf n)) else none
  rcases kfn h with ⟨rfl,rfl⟩ | ⟨c,h'⟩
  ·rw[if_pos rfl]
   by_cases kb:k'=.bell
   ·rw[if_pos kb,if_pos kb,b7,if_pos rfl]
   ·rw[if_neg kb,if_neg kb]; exact f2
  ·rw[if_neg c,<- R.no _ _ h']
   split
   ·rw[b7,if_neg (gA c)]
   ·rfl
 ·show az (if k.point=true then aG y.rods (Sum.inl y.next) (if rod=.non then .int y.sides.length else rod) else y.rods) _=if k'.point=true then some (.int (if n=y.next then r else w.rf n)) else none
  rcases kfn h with ⟨rfl,rfl⟩ | ⟨c,h'⟩
  ·rw[if_pos rfl]
   by_cases kp:k'.point=true
   ·rw[if_pos kp,if_pos kp,b7,if_pos rfl]
    rcases hp kp with ⟨e1,e2,_⟩ | ⟨e1,_,_,_⟩
    ·rw[if_pos e1,R.sd,wF,e2]
    ·rw[e1,if_neg (fun h=>nomatch h)]
   ·rw[if_neg kp,if_neg kp]; exact f3
  ·rw[if_neg c,<- R.ro _ _ h']
   split
   ·rw[b7,if_neg (gA c)]
   ·rfl
 ·show 0<=(if n=y.next then r else w.rf n)/\(if n=y.next then r else w.rf n)<(ss'.length:Int)
  rcases kfn h with ⟨rfl,rfl⟩ | ⟨c,h'⟩
  ·rw[if_pos rfl]
   rcases hp hpt with ⟨_,e2,e3⟩ | ⟨_,e2,e3,e4⟩
   ·rw[e3,wK,wT]; omega
   ·rw[e4]; exact⟨e2,e3⟩
  ·rw[if_neg c]
   have:=R.rr _ _ h' hpt
   omega
 ·show(if k.point=true/\rod=.non then y.sides++[.int 1] else y.sides)=ss'.map V.int
  cases kp:k.point with
  | true=>
   rcases hp kp with ⟨e1,_,e3⟩ | ⟨e1,_,_,e4⟩
   ·rw[if_pos ⟨U,e1⟩,R.sd,e3,wL]; rfl
   ·rw[if_neg (fun c=>by rw[e1] at c; exact nomatch c.2),R.sd,e4]
  | false=>rw[if_neg (fun c=>Bool.false_ne_true c.1),R.sd,hn kp]
 ·intro x hx
  cases kp:k.point with
  | true=>
   rcases hp kp with ⟨_,_,e3⟩ | ⟨_,_,_,e4⟩
   ·rw[show ss'=_ from e3,xb] at hx
    rcases hx with hx | hx
    ·exact R.s12 x hx
    ·exact .inl (by simpa using hx)
   ·rw[show ss'=_ from e4] at hx; exact R.s12 x hx
  | false=>rw[show ss'=_ from hn kp] at hx; exact R.s12 x hx
theorem Rep.link {y:YR} (R:Rep w s y) {x z:En} (hx:w.ok x) (hz:w.ok z):Rep (w.link x z) s { y with mates:=aG (aG y.mates (kE x.2.1 x.2.2) (.ref z.1)) (kE z.2.1 z.2.2) (.ref x.1),trail:=[] }:=by
 have ke:∀ (n e:Int) (u:En),kE n e=kE u.2.1 u.2.2↔(n,e)=u.2:=fun n e u=>by
  constructor
  ·intro h
   injection h with h1 h2
   injection h2 with h2 _
   injection h1 with h1
   injection h2 with h2
   rw[h1,h2]
  ·intro h
   rw[<- h]
 refine⟨R.kd,R.no,R.ro,R.rr,R.sd,R.s12,fun n e=>?_,fun n e u h=>?_,R.en,R.eo,R.rg⟩
 ·show az (aG (aG y.mates (kE x.2.1 x.2.2) (.ref z.1)) (kE z.2.1 z.2.2) (.ref x.1)) (kE n e)=Option.map _ (if (n,e)=z.2 then some x else if (n,e)=x.2 then some z else w.mf n e)
  rw[b7,b7]
  by_cases c1:(n,e)=z.2
  ·rw[if_pos ((ke _ _ _).mpr c1),if_pos c1]; rfl
  ·rw[if_neg (fun h=>c1 ((ke _ _ _).mp h)),if_neg c1]
   by_cases c2:(n,e)=x.2
   ·rw[if_pos ((ke _ _ _).mpr c2),if_pos c2]; rfl
   ·rw[if_neg (fun h=>c2 ((ke _ _ _).mp h)),if_neg c2]; exact R.mt n e
 ·have h:(if (n,e)=z.2 then some x else if (n,e)=x.2 then some z else w.mf n e)=some u:=h
  show w.ok u
  split at h
  ·cases h; exact hx
  ·split at h
   ·cases h; exact hz
   ·exact R.mo _ _ _ h
theorem Rep.throw {y:YR} (R:Rep w s y) (r:Nat) (x:Int) (hx:x=1∨x=2):Rep w { s with ss:=s.ss.set r x } { y with sides:=y.sides.set r (.int x),trail:=[] }:=by
 refine⟨R.kd,R.no,R.ro,fun n k h1 h2=>by show _/\_<((s.ss.set r x).length:Int); rw[List.length_set]; exact R.rr n k h1 h2,?_,fun u hu=>?_,R.mt,R.mo,R.en,R.eo,R.rg⟩
 ·show y.sides.set r (.int x)=(s.ss.set r x).map V.int
  rw[R.sd,List.map_set]
 ·rcases List.mem_or_eq_of_mem_set hu with hu | hu
  ·exact R.s12 u hu
  ·rw[hu]; exact hx
def w0:Wd:=⟨fun _=>none,fun _=>0,fun _=>0,fun _ _=>none⟩
theorem Rep.nil:Rep w0 ⟨[],none,[]⟩ y0:=⟨(fun _ _ h=>nomatch h),(fun _ _ h=>nomatch h),(fun _ _ h=>nomatch h),(fun _ _ h=>nomatch h),U,(fun _ h=>nomatch h),(fun _ _=>rfl),(fun _ _ _ h=>nomatch h),U,(fun _ h=>nomatch h),U⟩
structure Okw (W:Wd) (s:Sd):Prop where
 rr:∀ n k,W.kf n=some k->k.point=true->0<=W.rf n/\W.rf n<s.ss.length
 s12:∀ x ∈ s.ss,x=1∨x=2
 mo:∀ n e z,W.mf n e=some z->W.ok z
 eo:∀ z,s.at_=some z->W.ok z
theorem Rep.okw {W:Wd}{y:YR} (R:Rep W s y):Okw W s:=⟨R.rr,R.s12,R.mo,R.eo⟩
theorem Okw.s1 (R:Okw w s) {n:Int}{k:Kd} (hk:w.kf n=some k) (hp:k.point=true):w.sv s n=1∨w.sv s n=2:=by
 obtain⟨h0,h1⟩:=R.rr n k hk hp
 refine R.s12 _ ?_
 unfold Wd.sv
 rw[List.getD_eq_getElem?_getD,wH (by omega)]
 exact List.getElem_mem _
theorem Okw.step {z:En}{k:Kd}{z':En}{o:Int} (R:Okw w s) (hz:s.at_=some z) (hk:w.kf z.2.1=some k) (hm:w.mf z.2.1 o=some z'):Okw w (bd w s z k z'):=by
 have hl:(bd w s z k z').ss.length=s.ss.length:=by
  unfold bd; dsimp only; split
  ·exact List.length_set
  ·rfl
 refine⟨fun n k h1 h2=>by rw[hl]; exact R.rr n k h1 h2,fun x hx=>?_,R.mo,fun u hu=>?_⟩
 ·unfold bd at hx
  dsimp only at hx
  split at hx
  ·rename_i hp
   rcases List.mem_or_eq_of_mem_set hx with hx | hx
   ·exact R.s12 x hx
   ·obtain⟨k',h1,h2,h3⟩:=R.eo z hz
    rw[hk] at h1
    cases h1
    rw[hx]
    exact Kd.side12 h2 h3 (R.s1 hk hp)
  ·exact R.s12 x hx
 ·rw[dL] at hu
  cases hu
  exact R.mo _ _ _ hm
def Wsym (mf:Int->Int->Option En):Prop:=∀ n e z,mf n e=some z->¬ z.2=(n,e)/\∃ z',mf z.2.1 z.2.2=some z'/\z'.2=(n,e)
def we (mf:Int->Int->Option En) (x z:En) (n e:Int):Option En:=if (n,e)=z.2 then some x else if (n,e)=x.2 then some z else mf n e
def iy (mf:Int->Int->Option En) (p1 p2:Int×Int) (n e:Int):Option En:=if (n,e)=p1∨(n,e)=p2 then none else mf n e
theorem Wsym.link {mf:Int->Int->Option En} (S:Wsym mf) {x z:En} (hx:mf x.2.1 x.2.2=none) (hz:mf z.2.1 z.2.2=none) (ne:¬ x.2=z.2):Wsym (we mf x z):=by
 intro n e u h
 unfold we at h
 by_cases c1:(n,e)=z.2
 ·rw[if_pos c1] at h
  cases h
  refine⟨fun q=>ne (q.trans c1),z,?_,c1.symm⟩
  show(if (x.2.1,x.2.2)=z.2 then some x else if (x.2.1,x.2.2)=x.2 then some z else mf x.2.1 x.2.2)=some z
  rw[if_neg (show ¬ (x.2.1,x.2.2)=z.2 from ne),if_pos rfl]
 ·rw[if_neg c1] at h
  by_cases c2:(n,e)=x.2
  ·rw[if_pos c2] at h
   cases h
   refine⟨fun q=>ne (c2.symm.trans q.symm),x,?_,c2.symm⟩
   show(if (z.2.1,z.2.2)=z.2 then some x else if (z.2.1,z.2.2)=x.2 then some z else mf z.2.1 z.2.2)=some x
   rw[if_pos rfl]
  ·rw[if_neg c2] at h
   obtain⟨a,z',b,c⟩:=S n e u h
   refine⟨a,z',?_,c⟩
   have d1:¬ (u.2.1,u.2.2)=z.2:=fun q=>by
    rw[show u.2.1=z.2.1 from congrArg Prod.fst q,show u.2.2=z.2.2 from congrArg Prod.snd q,hz] at b
    cases b
   have d2:¬ (u.2.1,u.2.2)=x.2:=fun q=>by
    rw[show u.2.1=x.2.1 from congrArg Prod.fst q,show u.2.2=x.2.2 from congrArg Prod.snd q,hx] at b
    cases b
   show(if (u.2.1,u.2.2)=z.2 then some x else if (u.2.1,u.2.2)=x.2 then some z else mf u.2.1 u.2.2)=some z'
   rw[if_neg d1,if_neg d2]
   exact b
theorem Wsym.unlink {mf:Int->Int->Option En} (S:Wsym mf) {n1 e1:Int}{z:En} (h:mf n1 e1=some z):Wsym (iy mf (n1,e1) z.2):=by
 intro n e u hu
 unfold iy at hu
 by_cases c:(n,e)=(n1,e1)∨(n,e)=z.2
 ·rw[if_pos c] at hu
  cases hu
 ·rw[if_neg c] at hu
  obtain⟨a,z',b,d⟩:=S n e u hu
  refine⟨a,z',?_,d⟩
  have no:¬ ((u.2.1,u.2.2)=(n1,e1)∨(u.2.1,u.2.2)=z.2):=by
   rintro(q | q)
   ·rw[show u.2.1=n1 from congrArg Prod.fst q,show u.2.2=e1 from congrArg Prod.snd q,h] at b
    cases b
    exact c (.inr d.symm)
   ·obtain⟨_,z2,b2,d2⟩:=S n1 e1 z h
    rw[show u.2.1=z.2.1 from congrArg Prod.fst q,show u.2.2=z.2.2 from congrArg Prod.snd q,b2] at b
    cases b
    exact c (.inl (d.symm.trans d2))
  show(if (u.2.1,u.2.2)=(n1,e1)∨(u.2.1,u.2.2)=z.2 then none else mf u.2.1 u.2.2)=some z'
  rw[if_neg no]
  exact b
theorem fb (w:Wd):∀ (n:Nat) (s:Sd),(w.hist n s).length<=n
 | 0,_=>Nat.le_refl _
 | n+1,s=>by
  cases h:w.nx s with
  | none=>rw[bG w h]; exact Nat.zero_le _
  | some s'=>rw[bg w h,wQ]; have:=fb w n s'; omega
theorem pX (w:Wd):∀ (n:Nat) (s:Sd),(w.go n s).rg.length<=s.rg.length+n
 | 0,_=>Nat.le_refl _
 | n+1,s=>by
  cases h:w.nx s with
  | none=>rw[bV w h]; omega
  | some s'=>
   rw[bD w h]
   have:=pX w n s'
   obtain⟨z,k,o,z',_,_,_,_,rfl⟩:=c7 h
   have:=eK (w:=w) (s:=s) (z:=z) (k:=k) (z':=z')
   omega
theorem gE (w:Wd):∀ (j e:Nat) (s:Sd),(w.hist j s).length=j->w.go (j+e) s=w.go e (w.go j s)/\w.hist (j+e) s=w.hist j s++w.hist e (w.go j s)
 | 0,e,s,_=>by rw[Nat.zero_add]; exact⟨U,U⟩
 | j+1,e,s,hl=>by
  cases h:w.nx s with
  | none=>rw[bG w h] at hl; cases hl
  | some s'=>
   rw[bg w h,wQ] at hl
   obtain⟨a,b⟩:=gE w j e s' (by omega)
   rw[show j+1+e=(j+e)+1 by omega,bD w h,bD w h,bg w h,bg w h,a,b]
   exact⟨U,U⟩
theorem cj (w:Wd) {n:Nat} (h:(w.hist n s).length=n) {j:Nat} (hj:j<=n):(w.hist j s).length=j/\w.hist j s=(w.hist n s).take j:=by
 have key:∀ (n j:Nat) (s:Sd),(w.hist n s).length=n->j<=n->(w.hist j s).length=j/\w.hist j s=(w.hist n s).take j:=by
  intro n
  induction n with
  | zero=>
   intro j s _ hj
   have:j=0:=by omega
   subst this
   exact⟨U,U⟩
  | succ n ih=>
   intro j s hl hj
   cases h:w.nx s with
   | none=>rw[bG w h] at hl; cases hl
   | some s'=>
    rw[bg w h,wQ] at hl
    cases j with
    | zero=>exact⟨U,U⟩
    | succ j=>
     obtain⟨a,b⟩:=ih j s' (by omega) (by omega)
     rw[bg w h,bg w h,wQ,a,List.take_succ_cons,b]
     exact⟨U,U⟩
 exact key n j s h hj
theorem jn (w:Wd) {n:Nat} (h:(w.hist (n+1) s).length=n+1):w.nx (w.go n s)=some (w.go (n+1) s)/\w.hist (n+1) s=w.hist n s++[w.go n s]:=by
 have t:=(cj w h (Nat.le_succ n)).1
 obtain⟨a,b⟩:=gE w n 1 s t
 cases hx:w.nx (w.go n s) with
 | none=>
  rw[b,bG w hx,wU] at h
  omega
 | some s'=>
  rw[bg w hx] at b
  rw[bD w hx] at a
  exact⟨by rw[a]; rfl,b⟩
theorem oC {l:List Int}{i:Nat}{x:Int}:(l.set i x).set i (l.getD i 0)=l:=by
 rw[List.set_set]
 by_cases h:i<l.length
 ·rw[List.getD_eq_getElem?_getD,wH h]; exact List.set_getElem_self h
 ·rw[List.set_eq_of_length_le (by omega)]
theorem Rep.ofOkw {s s':Sd}{y y':YR} (R:Rep w s y) (O:Okw w s') (e1:y'.kinds=y.kinds) (e2:y'.notes=y.notes) (e3:y'.rods=y.rods) (e4:y'.mates=y.mates) (e5:y'.sides=s'.ss.map V.int) (e6:y'.eng=enV s'.at_) (e7:y'.rung=s'.rg.map V.int):Rep w s' y' :=
 ⟨fun n k h=>by rw[e1]; exact R.kd n k h,fun n k h=>by rw[e2]; exact R.no n k h,fun n k h=>by rw[e3]; exact R.ro n k h,O.rr,e5,O.s12,fun n e=>by rw[e4]; exact R.mt n e,O.mo,e6,O.eo,e7⟩
theorem Okw.go :∀ (n:Nat) {s:Sd},Okw w s->Okw w (w.go n s)
 | 0,_,h=>h
 | n+1,s,h=>by
  cases hx:w.nx s with
  | none=>rw[bV w hx]; exact h
  | some s'=>
   rw[bD w hx]
   obtain⟨z,k,o,z',hz,hk,ho,hm,rfl⟩:=c7 hx
   exact Okw.go n (h.step hz hk hm)
theorem Pool.go :∀ (n:Nat) {s:Sd},Pool w s L->Pool w (w.go n s) L
 | 0,_,h=>h
 | n+1,s,h=>by
  cases hx:w.nx s with
  | none=>rw[bV w hx]; exact h
  | some s'=>rw[bD w hx]; exact Pool.go n (h.step hx)
inductive sp_take (C:Addr) (vs:List V) (H:Hp) (Q:VK) (E_:XK):Prop
 | mk (A:YA) (y:YR) (L:Kn) (w:Wd) (s s0:Sd) (a:Addr) (ts:List V) (j:Nat) (_:vs=[.ref A.p]) (_:Has H (yL C A y++L)) (_:Rep w s y) (_:Okw w s0) (_:w.nx s0=some s) (_:Pool w s0 L) (_:y.trail=ts++[.ref a]) (_:L[j]?=some (a,w.tr s0)) (_:∀ H',Has H' (yL C A { y with sides:=s0.ss.map V.int,eng:=enV s0.at_,rung:=s0.rg.map V.int,trail:=ts }++L)->Q .non H'):sp_take C vs H Q E_
inductive sp_back (C:Addr) (vs:List V) (H:Hp) (Q:VK) (E_:XK):Prop
 | mk (A:YA) (y:YR) (L:Kn) (w:Wd) (s:Sd) (ts:List (Addr×Sd)) (m:Int) (_:vs=[.ref A.p,.int m]) (_:Has H (yL C A y++(trK w ts++L))) (_:Okw w s) (_:Rep w (w.go ts.length s) y) (_:Pool w s L) (_:y.trail=trV ts) (_:ts.map (·.2)=w.hist ts.length s) (_:ts.length<=900000) (_:∀ (H':Hp) (y':YR) (j:Nat),(j:Int)=ts.length - max 0 (min m ts.length)->Has H' (yL C A y'++(trK w (ts.take j)++L))->Rep w (w.go j s) y'->y'.trail=trV (ts.take j)->(ts.take j).map (·.2)=w.hist j s->y'.next=y.next->y'.kinds=y.kinds->y'.notes=y.notes->y'.rods=y.rods->y'.mates=y.mates->Q (.int (max 0 (min m ts.length))) H'):sp_back C vs H Q E_
theorem fl_m5 (A:YA) (next:Int) (eng:V):(fl A next eng).lookup ("take_back" : Str)=none/\(fl A next eng).lookup ("make_twin" : Str)=none/\(fl A next eng).lookup ("lift" : Str)=none:=⟨by kernel_rfl,by kernel_rfl,by kernel_rfl⟩
section
variable {P:Program}{w:World}{K:PySem.W.Frag}{mg:Str->Option Value}{base:Heap}{t:Adr}
theorem scTb:FnScope ["self","end","side","piece"] ["self"] (aj v5):={}
theorem ok_J5 (T:Txt K mg t):FnOk P w K mg base CX0 1 t.f_J5 t.d_J5 ["self"] (sp_take t.c_Yard):=by
 refine T.F_J5.ok scTb (fun vs H Q E h=>?_) (fun cdv A outer s H vs Q E hr h=>?_)
 ·obtain⟨_,_,_,_,_,_,_,_,_,rfl,_⟩:=h
  rfl
 ·obtain⟨A,y,L,W,s1,s0,a,ts,j,rfl,hH,R,O,hn,PL,ht,hj,q⟩:=h
  have hu:=bi hr
  obtain⟨z,k,o,z',hz,hk,ho,hm,rfl⟩:=c7 hn
  obtain⟨jz,hjz⟩:=PL.e z hz
  refine⟨_,(ae (cD (k7 PySem.F.plainAttrs_list PySem.F.slot_list_pop PySem.F.type_list_pop la (aw (pv 0) rfl)) (dC rfl (aU (aI (i:=1) scTb.nd rfl (Or.inl rfl)) (aU (aI (i:=2) scTb.nd rfl (Or.inl rfl)) cL))))
   (ae (ax (i:=3) scTb.nd rfl (Or.inl rfl) (aR bn (pv 1) ai))
   (ae (au (bB (cU hu (pv 3) (aw (pv 0) rfl)))
    (ag (cD (pv 2) (gl (aw (pv 0) rfl) (aq hu (aw (pv 0) rfl) (pv 3)) dN)))
    al)
   (ae (au (bB (cU hu (pv 3) (aw (pv 0) rfl)))
    (ag (av (k7 PySem.F.plainAttrs_list PySem.F.slot_list_pop PySem.F.type_list_pop la (aw (pv 0) rfl))))
    al)
   (ag (bH (pv 0) (pv 1) rfl)))))),?_⟩
  refine⟨_,U,A.p,_,A.dx,_,_,U,hH.get 1 U,T.cl_Yard,T.n_Yard_trail,iI _ _ _,.inl ⟨U,_,SqL.of (hH.get 0 U)⟩,A.tr,_,_,U,U,hH.get 0 U,(show y.trail[y.trail.length - 1]?=some (.ref a) by rw[ht]; simp),?_⟩
  rw[show y.trail.dropLast=ts by rw[ht]; simp]
  have h1:Has _ (yL t.c_Yard A { y with trail:=ts }++L):=hH.puti 0 U (.lst ts)
  generalize upd H A.tr _=H1 at h1 ⊢
  have ga:=h1.get (j+9) (by simpa [yL] using hj)
  have gz:=h1.get (jz+9) (by simpa [yL] using hjz)
  have etr:W.tr s0=.tup [.ref z.1,if k.point then .int (W.sv s0 z.2.1) else .non]:=by unfold Wd.tr; rw[hz]; show HO.tup [.ref z.1,W.tv s0 z]=_; unfold Wd.tv; rw[hk]
  rw[etr] at ga
  refine⟨a,_,U,SqT.of ga,U,_,_,U,_,_,U,U,?_⟩
  refine⟨_,U,z.1,_,_,_,U,U,SqT.of gz,U,?_⟩
  refine⟨_,U,_,U,A.p,_,A.dx,_,_,U,h1.get 1 U,T.cl_Yard,T.n_Js_under,cB _ _ _,A.r,_,U,DGet.k (k:=Sum.inl z.2.1) (h1.get 5 U),_,U,if2 (fun hp=>?_) (fun hp=>?_)⟩
  ·have kp:k.point=true:=by
    have e:az y.rods (Sum.inl z.2.1)=_:=R.ro _ _ hk
    by_cases c:k.point=true
    ·exact c
    ·rw[if_neg c] at e
     rw[show az ({ y with trail:=ts }:YR).rods (Sum.inl z.2.1)=none from e] at hp
     cases hp
   have vr:az y.rods (Sum.inl z.2.1)=some (.int (W.rf z.2.1)):=by rw[R.ro _ _ hk,if_pos kp]
   obtain⟨r0,r1⟩:=O.rr _ _ hk kp
   rw[if_pos kp]
   have ysl:y.sides.length=s0.ss.length:=by
    rw[R.sd,wF]; unfold bd; dsimp only; rw[if_pos kp,List.length_set]
   have hjx:ixN y.sides.length (W.rf z.2.1)=some (W.rf z.2.1).toNat:=by unfold ixN; rw[if_pos r0,if_pos (by omega)]
   refine⟨_,U,_,U,A.p,_,A.dx,_,_,U,h1.get 1 U,T.cl_Yard,T.n_Yard_sides,bX _ _ _,_,U,A.p,_,A.dx,_,_,U,h1.get 1 U,T.cl_Yard,T.n_Js_under,cB _ _ _,_,U,A.r,_,U,(by rw[<- vr]; exact DGet.k (k:=Sum.inl z.2.1) (h1.get 5 U)),A.s,_,_,_,U,U,h1.get 6 U,hjx,?_⟩
   have h2:Has _ (yL t.c_Yard A { y with sides:=y.sides.set (W.rf z.2.1).toNat (.int (W.sv s0 z.2.1)),trail:=ts }++L):=h1.puti 6 U (.lst (y.sides.set (W.rf z.2.1).toNat (.int (W.sv s0 z.2.1))))
   generalize upd H1 A.s _=H2 at h2 ⊢
   have es:s0.ss.map V.int=y.sides.set (W.rf z.2.1).toNat (.int (W.sv s0 z.2.1)):=by
    rw[R.sd]; unfold bd; dsimp only; rw[if_pos kp,<- List.map_set]
    unfold Wd.sv
    rw[oC]
   refine⟨_,U,_,U,A.p,_,A.dx,_,_,U,h2.get 1 U,T.cl_Yard,T.n_Yard_notes,cf _ _ _,A.n,_,U,DGet.k (k:=Sum.inl z.2.1) (h2.get 4 U),_,U,if2 (fun hb=>?_) (fun hb=>?_)⟩
   ·have kb:k=.bell:=by
     rw[R.no _ _ hk] at hb
     by_cases c:k=.bell
     ·exact c
     ·rw[if_neg c] at hb; cases hb
    have er:y.rung=s0.rg.map V.int++[.int (W.nf z.2.1)]:=by rw[R.rg]; unfold bd; dsimp only; rw[if_pos kb,wL]; rfl
    refine⟨_,U,A.p,_,A.dx,_,_,U,h2.get 1 U,T.cl_Yard,T.n_Yard_rung,fc _ _ _,.inl ⟨U,_,SqL.of (h2.get 8 U)⟩,A.g,_,_,U,U,h2.get 8 U,(show y.rung[y.rung.length - 1]?=some (.int (W.nf z.2.1)) by rw[er]; simp),?_⟩
    have h4:Has _ (yL t.c_Yard A { y with sides:=y.sides.set (W.rf z.2.1).toNat (.int (W.sv s0 z.2.1)),rung:=y.rung.dropLast,trail:=ts }++L):=h2.puti 8 U (.lst y.rung.dropLast)
    refine⟨_,U,_,U,A.p,_,A.dx,_,U,h4.get 1 U,T.cl_Yard,T.n_Ja_end,(show 9<1000 by decide),?_⟩
    rw[bJ]
    have h5:=h4.puti 1 U (.ins t.c_Yard A.dx (fl A y.next (.ref z.1)))
    have er2:s0.rg.map V.int=y.rung.dropLast:=by rw[er]; simp
    refine q _ ?_
    rw[hz,er2,es]
    exact h5
   ·have kb:¬ k=.bell:=fun c=>by rw[R.no _ _ hk,if_pos c] at hb; cases hb
    refine⟨_,U,_,U,A.p,_,A.dx,_,U,h2.get 1 U,T.cl_Yard,T.n_Ja_end,(show 9<1000 by decide),?_⟩
    rw[bJ]
    have h5:=h2.puti 1 U (.ins t.c_Yard A.dx (fl A y.next (.ref z.1)))
    have er:s0.rg.map V.int=y.rung:=by rw[R.rg]; unfold bd; dsimp only; rw[if_neg kb]
    refine q _ ?_
    rw[hz,er,es]
    exact h5
  ·have kp:¬ k.point=true:=fun c=>by
    have e:az y.rods (Sum.inl z.2.1)=_:=R.ro _ _ hk
    rw[if_pos c] at e
    rw[show az ({ y with trail:=ts }:YR).rods (Sum.inl z.2.1)=_ from e] at hp
    cases hp
   have h2:=h1
   have es:s0.ss.map V.int=y.sides:=by rw[R.sd]; unfold bd; dsimp only; rw[if_neg kp]
   refine⟨_,U,_,U,A.p,_,A.dx,_,_,U,h2.get 1 U,T.cl_Yard,T.n_Yard_notes,cf _ _ _,A.n,_,U,DGet.k (k:=Sum.inl z.2.1) (h2.get 4 U),_,U,if2 (fun hb=>?_) (fun hb=>?_)⟩
   ·have kb:k=.bell:=by
     rw[R.no _ _ hk] at hb
     by_cases c:k=.bell
     ·exact c
     ·rw[if_neg c] at hb; cases hb
    have er:y.rung=s0.rg.map V.int++[.int (W.nf z.2.1)]:=by rw[R.rg]; unfold bd; dsimp only; rw[if_pos kb,wL]; rfl
    refine⟨_,U,A.p,_,A.dx,_,_,U,h2.get 1 U,T.cl_Yard,T.n_Yard_rung,fc _ _ _,.inl ⟨U,_,SqL.of (h2.get 8 U)⟩,A.g,_,_,U,U,h2.get 8 U,(show y.rung[y.rung.length - 1]?=some (.int (W.nf z.2.1)) by rw[er]; simp),?_⟩
    have h4:Has _ (yL t.c_Yard A { y with sides:=y.sides,rung:=y.rung.dropLast,trail:=ts }++L):=h2.puti 8 U (.lst y.rung.dropLast)
    refine⟨_,U,_,U,A.p,_,A.dx,_,U,h4.get 1 U,T.cl_Yard,T.n_Ja_end,(show 9<1000 by decide),?_⟩
    rw[bJ]
    have h5:=h4.puti 1 U (.ins t.c_Yard A.dx (fl A y.next (.ref z.1)))
    have er2:s0.rg.map V.int=y.rung.dropLast:=by rw[er]; simp
    refine q _ ?_
    rw[hz,er2,es]
    exact h5
   ·have kb:¬ k=.bell:=fun c=>by rw[R.no _ _ hk,if_pos c] at hb; cases hb
    refine⟨_,U,_,U,A.p,_,A.dx,_,U,h2.get 1 U,T.cl_Yard,T.n_Ja_end,(show 9<1000 by decide),?_⟩
    rw[bJ]
    have h5:=h2.puti 1 U (.ins t.c_Yard A.dx (fl A y.next (.ref z.1)))
    have er:s0.rg.map V.int=y.rung:=by rw[R.rg]; unfold bd; dsimp only; rw[if_neg kb]
    refine q _ ?_
    rw[hz,er,es]
    exact h5
theorem scBk:FnScope ["yard","most","many","count"] ["yard","most"] (aj oQ):={}
theorem qU (T:Txt K mg t):FnOk P w K mg base CX0 2 t.f_back t.d_back ["yard","most"] (sp_back t.c_Yard):=by
 refine T.F_back.ok scBk (fun vs H Q E h=>?_) (fun cdv A outer s H vs Q E hr h=>?_)
 ·obtain⟨_,_,_,_,_,_,_,rfl,_⟩:=h
  rfl
 ·obtain⟨A,y,L,W,s0,ts,m,rfl,hH,O,R,PL,tl,th,tb,q⟩:=h
  refine⟨_,(ae (ax (i:=2) scBk.nd rfl (Or.inl rfl) (ay (jq rfl) (by rfl) T.z_max (by rfl) (aa ai (aa (ay (nT rfl) (by rfl) T.z_min (by rfl) (aa (pv 1) (aa (aO (pv 0) T.cl_Yard T.M_Jg (sI T) hr (ww T) .nil aM) af))) af))))
   (ae (cK PassesOwn.never rfl (cu (by rfl) T.z_range (aa (pv 2) af)) (aI (i:=3) scBk.nd rfl (Or.inl rfl))
    (ag (av (aO (pv 0) T.cl_Yard T.M_J5 (ok_J5 T) hr (b_J5 T) .nil aM))))
   (ag (ap (pv 2))))),?_⟩
  have tlen:y.trail.length=ts.length:=by rw[tl]; unfold trV; rw[wF]
  refine⟨_,U,_,U,A.p,A.dx,_,U,hH.get 1 U,(dm _ _ _).2.2.2.2.2.2.2.2,A,y,_,U,hH,_,_,U,?_⟩
  rw[tlen]
  refine⟨_,_,U,?_⟩
  have em:(if (if (ts.length:Int)<m then(ts.length:Int) else m) > 0 then(if (ts.length:Int)<m then(ts.length:Int) else m) else 0)=max 0 (min m ts.length):=by
   rw[show(if (ts.length:Int)<m then(ts.length:Int) else m)=min m ts.length by split <;> omega]
   split <;> omega
  rw[em]
  have hl:(W.hist ts.length s0).length=ts.length:=by rw[<- th,wF]
  generalize hc:max 0 (min m (ts.length:Int))=c at q ⊢
  have c0:0<=c:=by omega
  have c1:c<=ts.length:=by omega
  refine⟨_,U,c,U,by omega,by omega,cw (fun i σ H'=>∃ (y1:YR) (o1:Option V),σ=[some (.ref A.p),some (.int m),some (.int c),o1]/\Has H' (yL t.c_Yard A y1++(trK W ts++L))/\Rep W (W.go (ts.length - i) s0) y1/\y1.trail=trV (ts.take (ts.length - i))/\i<=ts.length /\
   y1.next=y.next/\y1.kinds=y.kinds/\y1.notes=y.notes/\y1.rods=y.rods/\y1.mates=y.mates) ⟨y,_,U,hH,R,by rw[show ts.length - 0=ts.length by omega,List.take_length]; exact tl,Nat.zero_le _,U,U,U,U,U⟩ ?_ ?_⟩
  ·rintro i σ H1 hi ⟨y1,o1,rfl,h1,R1,t1,il,f1,f2,f3,f4,f5⟩
   have hi':i<ts.length:=by omega
   obtain⟨n,hn⟩:∃ n,ts.length - i=n+1:=⟨ts.length - (i+1),by omega⟩
   rw[hn] at R1 t1
   have hln:=(cj W hl (show n+1<=ts.length by omega)).1
   obtain⟨nx1,ht1⟩:=jn W hln
   have hlt:n<ts.length:=by omega
   have et:ts.take (n+1)=ts.take n++[ts[n]]:=by rw[List.take_succ,wH hlt]; rfl
   have es:(ts[n]).2=W.go n s0:=by
    have a1:(ts.map (·.2))[n]?=some (ts[n]).2:=by rw[wM,wH hlt]; rfl
    have a2:((W.hist ts.length s0).take (n+1))[n]?=some (W.go n s0):=by
     rw[<- (cj W hl (show n+1<=ts.length by omega)).2,ht1,wR (by rw[(cj W hl (show n<=ts.length by omega)).1]; exact Nat.le_refl _),(cj W hl (show n<=ts.length by omega)).1,Nat.sub_self]
     rfl
    rw[List.getElem?_take,if_pos (by omega),<- th,a1] at a2
    exact Option.some.inj a2
   have jt:(trK W ts++L)[n]?=some ((ts[n]).1,W.tr (W.go n s0)):=by
    rw[xa (by unfold trK; rw[wF]; exact hlt)]
    unfold trK
    rw[wM,wH hlt,<- es]
    rfl
   refine⟨_,U,A.p,A.dx,_,U,h1.get 1 U,(fl_m5 _ _ _).1,A,y1,_,W,W.go (n+1) s0,W.go n s0,(ts[n]).1,trV (ts.take n),n,U,h1,R1,O.go n,nx1,(PL.go n).app _,(by rw[t1,et]; unfold trV; rw[wL]; rfl),jt,fun H2 h2=>?_⟩
   have e1:ts.length - (i+1)=n:=by omega
   refine⟨{ y1 with sides:=(W.go n s0).ss.map V.int,eng:=enV (W.go n s0).at_,rung:=(W.go n s0).rg.map V.int,trail:=trV (ts.take n) },_,U,h2,?_,by rw[e1],hi',f1,f2,f3,f4,f5⟩
   rw[e1]
   exact R1.ofOkw (O.go n) rfl rfl rfl rfl rfl rfl rfl
  ·rintro σ H1 ⟨y1,o1,rfl,h1,R1,t1,il,f1,f2,f3,f4,f5⟩
   refine⟨_,U,?_⟩
   have e1:ts.length - c.toNat<=ts.length:=by omega
   refine q H1 y1 (ts.length - c.toNat) (by omega) ?_ R1 t1 ?_ f1 f2 f3 f4 f5
   ·refine h1.sub (List.Sublist.append_left (List.Sublist.append_right ?_ _) _)
    unfold trK
    exact(List.take_sublist _ _).map _
   ·rw[(cj W hl e1).2,<- th,List.map_take]
end
def oq:Sp:=fun vs H Q _=>vs=[]/\∀ p,H p=none->Q (.ref p) (upd H p (.lst [.str "line",.str "bell",.str "still",.str "lazy",.str "turning",.str "stop"]))
inductive sp_kind (vs:List V) (H:Hp) (Q:VK) (E_:XK):Prop
 | mk (x:Int) (L:Kn) (_:vs=[.int x]) (_:Has H L) (_:∀ (k:Kd) H',Has H' L->Q (.str k.str) H'):sp_kind vs H Q E_
theorem Kd.of11 (x:Int):∃ k:Kd,atI ([V.str "line",.str "bell",.str "still",.str "lazy",.str "turning",.str "stop"]++[V.str "lazy",.str "turning",.str "bell",.str "still",.str "line"]) (x % 11)=some (.str k.str):=by
 have l0:=Int.emod_nonneg x (show(11:Int)≠0 by decide)
 have l1:=Int.emod_lt_of_pos x (show(0:Int)<11 by decide)
 generalize x % 11=m at *
 obtain⟨n,rfl⟩:=Int.eq_ofNat_of_zero_le l0
 have h:n<11:=Int.ofNat_lt.mp l1
 clear l0 l1
 rcases n with _ | n
 ·exact⟨.line,U⟩
 rcases n with _ | n
 ·exact⟨.bell,U⟩
 rcases n with _ | n
 ·exact⟨.still,U⟩
 rcases n with _ | n
 ·exact⟨.lazy,U⟩
 rcases n with _ | n
 ·exact⟨.turning,U⟩
 rcases n with _ | n
 ·exact⟨.stop,U⟩
 rcases n with _ | n
 ·exact⟨.lazy,U⟩
 rcases n with _ | n
 ·exact⟨.turning,U⟩
 rcases n with _ | n
 ·exact⟨.bell,U⟩
 rcases n with _ | n
 ·exact⟨.still,U⟩
 rcases n with _ | n
 ·exact⟨.line,U⟩
 exact absurd h (by omega)
section
variable {P:Program}{w:World}{K:PySem.W.Frag}{mg:Str->Option Value}{base:Heap}{t:Adr}
theorem scKs:FnScope [] [] (aj lL):={}
theorem pq (T:Txt K mg t):FnOk P w K mg base CX0 1 t.f_kinds t.d_kinds [] oq:=by
 refine T.F_kinds.ok scKs (fun vs H Q E h=>?_) (fun cdv A outer s H vs Q E hr h=>?_)
 ·obtain⟨rfl,_⟩:=h
  rfl
 ·obtain⟨rfl,q⟩:=h
  refine⟨_,(ag (ap (aN (aa ah (aa ah (aa ah (aa ah (aa ah (aa ah af))))))))),?_⟩
  exact⟨(show 6<=sizeLine by decide),fun p hp=>q p hp⟩
theorem scKn:FnScope ["_law_draw"] ["_law_draw"] (aj oM):={}
theorem lX (T:Txt K mg t):FnOk P w K mg base CX0 2 t.f_kind t.d_kind ["_law_draw"] sp_kind:=by
 refine T.F_kind.ok scKn (fun vs H Q E h=>?_) (fun cdv A outer s H vs Q E hr h=>?_)
 ·obtain⟨_,_,rfl,_⟩:=h
  rfl
 ·obtain⟨x,L,rfl,hH,q⟩:=h
  refine⟨_,(ag (ap (aR bc (aC qR (ie (pq T) (hr.mono (by decide)) (by rfl) T.m_kinds T.F_kinds.kp (rA T) .nil aM) (aN (aa ah (aa ah (aa ah (aa ah (aa ah af))))))) (aC bt (pv 0) ai)))),?_⟩
  refine⟨U,fun p1 hp1=>?_⟩
  have h1:=hH.alloc hp1 (.lst [.str "line",.str "bell",.str "still",.str "lazy",.str "turning",.str "stop"])
  refine⟨(show 5<=sizeLine by decide),fun p2 hp2=>?_⟩
  have h2:=h1.alloc hp2 (.lst [.str "lazy",.str "turning",.str "bell",.str "still",.str "line"])
  refine⟨p1,p2,_,_,U,U,SqL.of (h2.get 1 U),SqL.of (h2.get 0 U),(show 11<=sizeLine by decide),fun p3 hp3=>?_⟩
  have h3:=h2.alloc hp3 (.lst ([V.str "line",.str "bell",.str "still",.str "lazy",.str "turning",.str "stop"]++[V.str "lazy",.str "turning",.str "bell",.str "still",.str "line"]))
  obtain⟨k,hk⟩:=Kd.of11 x
  refine⟨_,U,_,_,U,U,(show(0:Int)<11 by decide),p3,_,_,_,U,U,SqL.of (h3.get 0 U),hk,?_⟩
  exact q k _ h3.tail.tail.tail
end
inductive sp_J41 (vs:List V) (H:Hp) (Q:VK) (E_:XK):Prop
 | mk (k:Kd) (e s:Int) (_:vs=[.str k.str,.int e,.int s]) (_:0<=e) (_:e<k.many) (_:∀ p,H p=none->Q (.ref p) (upd H p (.tup [k.out e s,.int (k.side e s)]))):sp_J41 vs H Q E_
section
variable {P:Program}{w:World}{K:PySem.W.Frag}{mg:Str->Option Value}{base:Heap}{t:Adr}
theorem scPs:FnScope ["_law_kind_here","_law_place","_law_side"] ["_law_kind_here","_law_place","_law_side"] (aj si):={}
theorem ud (T:Txt K mg t):FnOk P w K mg base CX0 1 t.f_J41 t.d_J41 ["_law_kind_here","_law_place","_law_side"] sp_J41:=by
 refine T.F_J41.ok scPs (fun vs H Q E h=>?_) (fun cdv A outer s H vs Q E hr h=>?_)
 ·obtain⟨_,_,_,rfl,_⟩:=h
  rfl
 ·obtain⟨k,e,z,rfl,e0,e1,q⟩:=h
  have two:2<=sizeLine:=by decide
  refine⟨_,(ae (au (ak bp (pv 0) ah (am _))
    (ag (ap (aF (aa aK (aa (pv 2) af)))))
    al)
   (ae (au (PW.pt (cQ (ak bp (pv 0) ah (am _)) (ck (ak bp (pv 0) ah (am _)))))
    (ag (ap (aF (aa (aC dD ai (pv 1)) (aa (pv 2) af)))))
    al)
   (ae (au (PW.pt (bM (ak fO (pv 1) ai (am _)) (bq (ak bp (pv 0) ah (am _)))))
    (ag (ap (aF (aa ai (aa (pv 1) af)))))
    al)
   (ae (au (ak fO (pv 1) ai (am _))
    (ag (ap (aF (aa ai (aa (pv 2) af)))))
    al)
   (ae (au (ak bp (pv 0) ah (am _))
    (ag (ap (aF (aa (pv 2) (aa (aC dD ai (pv 2)) af)))))
    al)
   (ag (ap (aF (aa (pv 2) (aa (pv 2) af)))))))))),?_⟩
  refine⟨_,U,U,_,U,?_⟩
  rw[k.isStop]
  refine ifd (fun h=>?_) (fun h1=>?_)
  ·subst h; exact⟨_,U,two,fun p hp=>q p hp⟩
  have np:k.point=false->∀ p,H p=none->Q (.ref p) (upd H p (.tup [.int (1 - e),.int z])):=fun hk p hp=>by
   have:=q p hp
   unfold Kd.out Kd.side at this
   rw[if_neg h1,if_neg (by rw[hk]; exact Bool.false_ne_true),if_neg (by rw[hk]; exact Bool.false_ne_true)] at this
   exact this
  refine⟨_,U,U,_,U,?_⟩
  rw[k.isLine]
  refine ifd (fun h=>cP ?_) (fun h2=>?_)
  ·subst h; exact⟨_,U,_,_,U,U,_,U,two,np rfl⟩
  refine⟨_,U,U,_,U,?_⟩
  rw[k.isBell]
  refine ifd (fun h=>?_) (fun h3=>?_)
  ·subst h; exact⟨_,U,_,_,U,U,_,U,two,np rfl⟩
  have hk:k.point=true:=by cases k <;> first | rfl | contradiction
  have q':∀ p,H p=none->Q (.ref p) (upd H p (.tup [if e=0 then .int z else .int 0,.int (if e=0 then(if k=.turning then 3 - z else z) else(if k=.lazy then e else z))])):=fun p hp=>by
   have:=q p hp
   rw[Kd.out_point hk] at this
   unfold Kd.side at this
   rw[if_pos hk] at this
   exact this
  refine⟨_,U,_,_,U,U,_,U,?_⟩
  refine ifd (fun hp=>?_) (fun hp=>?_)
  ·have he:¬ e=0:=by omega
   rw[if_neg he] at q'
   refine⟨_,U,U,_,U,?_⟩
   rw[k.isLazy]
   refine ifd (fun h=>?_) (fun h=>?_)
   ·rw[if_neg he,if_pos h] at q'
    exact⟨_,U,two,q'⟩
   ·rw[if_neg he,if_neg h] at q'
    refine⟨_,U,_,_,U,U,_,U,ifT (decide_eq_true (by omega)) ?_⟩
    exact⟨_,U,two,q'⟩
  ·have he:e=0:=by omega
   rw[if_pos he,if_pos he] at q'
   refine bL ?_
   refine⟨_,U,_,_,U,U,_,U,ifF (decide_eq_false (by omega)) ?_⟩
   refine⟨_,U,U,_,U,?_⟩
   rw[k.isTurning]
   refine ifd (fun h=>?_) (fun h=>?_)
   ·rw[if_pos h] at q'
    exact⟨_,U,_,U,_,_,U,U,two,q'⟩
   ·rw[if_neg h] at q'
    exact⟨_,U,_,U,two,q'⟩
end
structure MA where
 m:Addr
 k:Addr
 n:Addr
 r:Addr
 s:Addr
 mt:Addr
 g:Addr
 tr:Addr
structure MR where
 sides:List V
 at_:V
 rung:List V
 tr:List V
def mfl (B:MA) (a:V) (on:Int):List (Key×V) :=
 [(.inr "kinds",.ref B.k),(.inr "notes",.ref B.n),(.inr "rods",.ref B.r),(.inr "sides",.ref B.s),(.inr "mates",.ref B.mt),(.inr "at",a),(.inr "rung",.ref B.g),(.inr "trail",.ref B.tr),(.inr "on",.int on)]
def mL (B:MA) (y:YR) (q:MR):Kn :=
 [(B.m,.dK (mfl B q.at_ y.next)),(B.k,.dK y.kinds),(B.n,.dK y.notes),(B.r,.dK y.rods),(B.s,.lst q.sides),(B.mt,.dT y.mates),(B.g,.lst q.rung),(B.tr,.lst q.tr)]
section
variable {H:Hp}{B:MA}{a:V}{on:Int}
theorem gv (h:H B.m=some (.dK (mfl B a on))):DGet H B.m (.str "kinds") (some (.ref B.k)):=.inl ⟨_,.inr "kinds",.inl h,U,by kernel_rfl⟩
theorem ny (h:H B.m=some (.dK (mfl B a on))):DGet H B.m (.str "notes") (some (.ref B.n)):=.inl ⟨_,.inr "notes",.inl h,U,by kernel_rfl⟩
theorem jM (h:H B.m=some (.dK (mfl B a on))):DGet H B.m (.str "rods") (some (.ref B.r)):=.inl ⟨_,.inr "rods",.inl h,U,by kernel_rfl⟩
theorem fS (h:H B.m=some (.dK (mfl B a on))):DGet H B.m (.str "sides") (some (.ref B.s)):=.inl ⟨_,.inr "sides",.inl h,U,by kernel_rfl⟩
theorem dR (h:H B.m=some (.dK (mfl B a on))):DGet H B.m (.str "mates") (some (.ref B.mt)):=.inl ⟨_,.inr "mates",.inl h,U,by kernel_rfl⟩
theorem gI (h:H B.m=some (.dK (mfl B a on))):DGet H B.m (.str "at") (some a):=.inl ⟨_,.inr "at",.inl h,U,by kernel_rfl⟩
theorem pL (h:H B.m=some (.dK (mfl B a on))):DGet H B.m (.str "rung") (some (.ref B.g)):=.inl ⟨_,.inr "rung",.inl h,U,by kernel_rfl⟩
theorem mv (h:H B.m=some (.dK (mfl B a on))):DGet H B.m (.str "trail") (some (.ref B.tr)):=.inl ⟨_,.inr "trail",.inl h,U,by kernel_rfl⟩
theorem mw (h:H B.m=some (.dK (mfl B a on))):DGet H B.m (.str "on") (some (.int on)):=.inl ⟨_,.inr "on",.inl h,U,by kernel_rfl⟩
theorem kt (h:H B.m=some (.dK (mfl B a on))) (v:V):DPut H B.m (.str "at") v (upd H B.m (.dK (mfl B v on))):=.inl ⟨_,.inr "at",h,U,aS (show 9<=1000000 by decide),by rw[show aG (mfl B a on) (.inr "at") v=mfl B v on by kernel_rfl]⟩
theorem sM (h:H B.m=some (.dK (mfl B a on))) (n:Int):DPut H B.m (.str "on") (.int n) (upd H B.m (.dK (mfl B a n))):=.inl ⟨_,.inr "on",h,U,aS (show 9<=1000000 by decide),by rw[show aG (mfl B a on) (.inr "on") (.int n)=mfl B a n by kernel_rfl]⟩
theorem iw (h:H B.m=some (.dK (mfl B a on))) (q:Addr):DPut H B.m (.str "trail") (.ref q) (upd H B.m (.dK (mfl { B with tr:=q } a on))):=.inl ⟨_,.inr "trail",h,U,aS (show 9<=1000000 by decide),by rw[show aG (mfl B a on) (.inr "trail") (.ref q)=mfl { B with tr:=q } a on by kernel_rfl]⟩
theorem wc (h:H B.m=some (.dK (mfl B a on))) (q:Addr):DPut H B.m (.str "sides") (.ref q) (upd H B.m (.dK (mfl { B with s:=q } a on))):=.inl ⟨_,.inr "sides",h,U,aS (show 9<=1000000 by decide),by rw[show aG (mfl B a on) (.inr "sides") (.ref q)=mfl { B with s:=q } a on by kernel_rfl]⟩
theorem wd (h:H B.m=some (.dK (mfl B a on))) (q:Addr):DPut H B.m (.str "rung") (.ref q) (upd H B.m (.dK (mfl { B with g:=q } a on))):=.inl ⟨_,.inr "rung",h,U,aS (show 9<=1000000 by decide),by rw[show aG (mfl B a on) (.inr "rung") (.ref q)=mfl { B with g:=q } a on by kernel_rfl]⟩
end
def KfOk (y:YR) (kf:Int->Option Kd):Prop:=∀ n,az y.kinds (Sum.inl n)=(kf n).map fun k=>V.str k.str
def ci (kf:Int->Option Kd) (n e:Int):Option Nat :=
 match kf n with
 | none=>some 4
 | some k=>if e<0∨k.many<=e then some 1 else none
theorem fD (kf:Int->Option Kd) (n e:Int):∀ i,ci kf n e=some i->i<22:=fun i h=>by
 unfold ci at h
 split at h
 ·cases h; decide
 ·split at h
  ·cases h; decide
  ·cases h
inductive sp_fresh (vs:List V) (H:Hp) (Q:VK) (E_:XK):Prop
 | mk (L:Kn) (_:vs=[]) (_:Has H L) (_:∀ H' B,Has H' (mL B y0 ⟨[],.non,[],[]⟩++L)->Q (.ref B.m) H'):sp_fresh vs H Q E_
inductive sp_J21 (vs:List V) (H:Hp) (Q:VK) (E_:XK):Prop
 | mk (B:MA) (y:YR) (q:MR) (b:Addr) (n e:Int) (kf:Int->Option Kd) (L:Kn) (_:vs=[.ref B.m,.ref b]) (_:Has H (mL B y q++L)) (_:(b,HO.tup [.int n,.int e]) ∈ L) (_:KfOk y kf) (_:∀ H' l,Has H' ((l,.lst ((bA (ci kf n e)).map V.str))::(mL B y q++L))->Q (.ref l) H'):sp_J21 vs H Q E_
section
variable {P:Program}{w:World}{K:PySem.W.Frag}{mg:Str->Option Value}{base:Heap}{t:Adr}
theorem scEd:FnScope ["_law_m","_law_end"] ["_law_m","_law_end"] (aj sk):={}
theorem jJ (T:Txt K mg t):FnOk P w K mg base CX0 2 t.f_J21 t.d_J21 ["_law_m","_law_end"] sp_J21:=by
 refine T.F_J21.ok scEd (fun vs H Q E h=>?_) (fun cdv A outer s H vs Q E hr h=>?_)
 ·obtain⟨_,_,_,_,_,_,_,_,rfl,_⟩:=h
  rfl
 ·obtain⟨B,y,q0,b,n,e,kf,L,rfl,hH,mb,hk,q⟩:=h
  have hu:=bi hr
  have gb:=hH.at_ _ (wD _ mb)
  have gm:=hH.get 0 rfl
  dsimp only at gb
  have gk:DGet H B.k (.int n) ((kf n).map fun k=>V.str k.str):=by rw[<- hk n]; exact DGet.k (k:=.inl n) (hH.get 1 U)
  refine⟨_,(ae (au (bB (cv hu (aR bn (pv 1) ai) (aB (aq hu (pv 0) ah))))
    (ag (ap (aN (aa ah af))))
    al)
   (ae (au (PW.pt (cQ (ak cG (aR bn (pv 1) ai) ai (am _)) (ck (ak ii (aR bn (pv 1) ai) (pcl (e9 T) hr T.m_many T.F_many.kp (gF T) (aa (aq hu (aB (aq hu (pv 0) ah (fun _ _=>rfl))) (aR bn (pv 1) ai)) af)) (am _)))))
    (ag (ap (aN (aa ah af))))
    al)
   (ag (ap (aN af))))),?_⟩
  rw[show L2.start ["_law_m","_law_end"] [V.ref B.m,V.ref b]=([some (V.ref B.m),some (V.ref b)]:St) from rfl]
  refine⟨_,U,b,_,_,_,U,U,SqT.of gb,bh (j:=0) rfl,_,⟨_,U,gv gm⟩,B.k,_,U,gk,_,U,?_⟩
  unfold ci at q
  cases hkn:kf n with
  | none=>
   rw[hkn] at q
   refine ifT rfl ⟨(sz_ 1),fun l hl=>q _ l (hH.alloc hl _)⟩
  | some k=>
   rw[hkn] at q gk
   refine ifF rfl ?_
   refine⟨_,U,b,_,_,_,U,U,SqT.of gb,bh (j:=1) rfl,_,_,U,U,_,U,?_⟩
   by_cases c1:e<0
   ·refine ifT (decide_eq_true c1) (cP ⟨(sz_ 1),fun l hl=>?_⟩)
    have:(if e<0∨k.many<=e then some 1 else none)=some 1:=if_pos (.inl c1)
    simp only[this] at q
    exact q _ l (hH.alloc hl _)
   ·refine ifF (decide_eq_false c1) ?_
    refine⟨_,U,b,_,_,_,U,U,SqT.of gb,bh (j:=1) rfl,_,⟨_,U,gv gm⟩,_,U,b,_,_,_,U,U,SqT.of gb,bh (j:=0) rfl,B.k,_,U,gk,k,U,_,_,U,U,_,U,?_⟩
    by_cases c2:k.many<=e
    ·refine ifT (decide_eq_true c2) ⟨(sz_ 1),fun l hl=>?_⟩
     have:(if e<0∨k.many<=e then some 1 else none)=some 1:=if_pos (.inr c2)
     simp only[this] at q
     exact q _ l (hH.alloc hl _)
    ·refine ifF (decide_eq_false c2) ⟨(sz_ 0),fun l hl=>?_⟩
     have:(if e<0∨k.many<=e then some 1 else none)=none:=if_neg (fun z=>z.elim c1 c2)
     simp only[this] at q
     exact q _ l (hH.alloc hl _)
end
section
variable {P:Program}{w:World}{K:PySem.W.Frag}{mg:Str->Option Value}{base:Heap}{t:Adr}
theorem scFr:FnScope ["_law_m"] [] (aj lM):={}
theorem kq (T:Txt K mg t):FnOk P w K mg base CX0 1 t.f_fresh t.d_fresh [] sp_fresh:=by
 refine T.F_fresh.ok scFr (fun vs H Q E h=>?_) (fun cdv A outer s H vs Q E hr h=>?_)
 ·obtain⟨_,rfl,_⟩:=h
  rfl
 ·obtain⟨L,rfl,hH,q⟩:=h
  have hu:=bi hr
  refine⟨_,(@ae _ _ _ _ _ (@ax _ _ 0 _ _ _ _ scFr.nd rfl (Or.inl rfl) (@qP _ _ _ _ _ (@eM _ _ _ _ _ _ _ _ _ ah dQ (@eM _ _ _ _ _ _ _ _ _ ah dQ (@eM _ _ _ _ _ _ _ _ _ ah dQ (@eM _ _ _ _ _ _ _ _ _ ah (aN af) (@eM _ _ _ _ _ _ _ _ _ ah kj qN))))) (by rfl) (by rfl) (by intro z; cases z) (by decide)) (by rfl) (Or.inl rfl))
   (ae (aJ hu (pv 0) ah aK rfl)
   (ae (aJ hu (pv 0) ah (aN af) rfl)
   (ae (aJ hu (pv 0) ah (aN af) rfl)
   (ae (aJ hu (pv 0) ah ai rfl)
   (ag (ap (pv 0)))))))),?_⟩
  show jx _ _ _ _ _
  refine fun m hm=>?_
  have h0:=hH.alloc hm (.dK [])
  refine fun k hk=>?_
  have h1:=h0.alloc hk (.dK [])
  refine fun n hn=>?_
  have h2:=h1.alloc hn (.dK [])
  refine fun r hr'=>?_
  have h3:=h2.alloc hr' (.dK [])
  refine⟨(sz_ 0),fun s' hs'=>?_⟩
  have h4:=h3.alloc hs' (.lst [])
  refine fun mt hmt=>?_
  have h5:=h4.alloc hmt (.dT [])
  refine⟨h5.get 5 U,[(.inr "kinds",.ref k),(.inr "notes",.ref n),(.inr "rods",.ref r),(.inr "sides",.ref s'),(.inr "mates",.ref mt)],U,show 5<=15 by decide,?_⟩
  have e5:gw [] [((.inr "kinds" : Key),V.ref k),(.inr "notes",.ref n),(.inr "rods",.ref r),(.inr "sides",.ref s'),(.inr "mates",.ref mt)]=[(.inr "kinds",.ref k),(.inr "notes",.ref n),(.inr "rods",.ref r),(.inr "sides",.ref s'),(.inr "mates",.ref mt)]:=by kernel_rfl
  rw[e5]
  have h6:=h5.puti 5 U (.dK [(.inr "kinds",.ref k),(.inr "notes",.ref n),(.inr "rods",.ref r),(.inr "sides",.ref s'),(.inr "mates",.ref mt)])
  dsimp only[List.set,kD] at h6 ⊢
  refine⟨_,U,m,_,U,.inl ⟨_,.inr "at",h6.get 5 U,U,aS (show 5<=1000000 by decide),U⟩,?_⟩
  rw[show aG [((.inr "kinds" : Key),V.ref k),(.inr "notes",.ref n),(.inr "rods",.ref r),(.inr "sides",.ref s'),(.inr "mates",.ref mt)] (.inr "at") .non=[(.inr "kinds",.ref k),(.inr "notes",.ref n),(.inr "rods",.ref r),(.inr "sides",.ref s'),(.inr "mates",.ref mt),(.inr "at",.non)] by kernel_rfl]
  have h7:=h6.puti 5 U (.dK [(.inr "kinds",.ref k),(.inr "notes",.ref n),(.inr "rods",.ref r),(.inr "sides",.ref s'),(.inr "mates",.ref mt),(.inr "at",.non)])
  dsimp only[List.set] at h7
  refine⟨(sz_ 0),fun g hg=>?_⟩
  have h8:=h7.alloc hg (.lst [])
  refine⟨_,U,m,_,U,.inl ⟨_,.inr "rung",h8.get 6 U,U,aS (show 6<=1000000 by decide),U⟩,?_⟩
  rw[show aG [((.inr "kinds" : Key),V.ref k),(.inr "notes",.ref n),(.inr "rods",.ref r),(.inr "sides",.ref s'),(.inr "mates",.ref mt),(.inr "at",.non)] (.inr "rung") (.ref g)=[(.inr "kinds",.ref k),(.inr "notes",.ref n),(.inr "rods",.ref r),(.inr "sides",.ref s'),(.inr "mates",.ref mt),(.inr "at",.non),(.inr "rung",.ref g)] by kernel_rfl]
  have h9:=h8.puti 6 U (.dK [(.inr "kinds",.ref k),(.inr "notes",.ref n),(.inr "rods",.ref r),(.inr "sides",.ref s'),(.inr "mates",.ref mt),(.inr "at",.non),(.inr "rung",.ref g)])
  dsimp only[List.set] at h9
  refine⟨(sz_ 0),fun tr htr=>?_⟩
  have h10:=h9.alloc htr (.lst [])
  refine⟨_,U,m,_,U,.inl ⟨_,.inr "trail",h10.get 7 U,U,aS (show 7<=1000000 by decide),U⟩,?_⟩
  rw[show aG [((.inr "kinds" : Key),V.ref k),(.inr "notes",.ref n),(.inr "rods",.ref r),(.inr "sides",.ref s'),(.inr "mates",.ref mt),(.inr "at",.non),(.inr "rung",.ref g)] (.inr "trail") (.ref tr)=[(.inr "kinds",.ref k),(.inr "notes",.ref n),(.inr "rods",.ref r),(.inr "sides",.ref s'),(.inr "mates",.ref mt),(.inr "at",.non),(.inr "rung",.ref g),(.inr "trail",.ref tr)] by kernel_rfl]
  have h11:=h10.puti 7 U (.dK [(.inr "kinds",.ref k),(.inr "notes",.ref n),(.inr "rods",.ref r),(.inr "sides",.ref s'),(.inr "mates",.ref mt),(.inr "at",.non),(.inr "rung",.ref g),(.inr "trail",.ref tr)])
  dsimp only[List.set] at h11
  refine⟨_,U,m,_,U,.inl ⟨_,.inr "on",h11.get 7 U,U,aS (show 8<=1000000 by decide),U⟩,?_⟩
  rw[show aG [((.inr "kinds" : Key),V.ref k),(.inr "notes",.ref n),(.inr "rods",.ref r),(.inr "sides",.ref s'),(.inr "mates",.ref mt),(.inr "at",.non),(.inr "rung",.ref g),(.inr "trail",.ref tr)] (.inr "on") (.int 0)=mfl ⟨m,k,n,r,s',mt,g,tr⟩ .non 0 by kernel_rfl]
  have h12:=h11.puti 7 U (.dK (mfl ⟨m,k,n,r,s',mt,g,tr⟩ .non 0))
  dsimp only[List.set] at h12
  refine⟨_,U,q _ ⟨m,k,n,r,s',mt,g,tr⟩ ?_⟩
  have p1:=cF h12 1 rfl
  have p2:=cF p1 2 rfl
  have p3:=cF p2 3 rfl
  have p4:=cF p3 4 rfl
  have p5:=cF p4 5 rfl
  have p6:=cF p5 6 rfl
  exact cF p6 7 rfl
end
theorem mG (o:Option Nat):PyData.eqv (dt (bA o)) (dt (bA none))=o.isNone:=by cases o <;> rfl
theorem sL:∀ i,(none:Option Nat)=some i->i<22:=fun i e=>by cases e
def orD (a b:Option Nat):Option Nat:=match a with | some i=>some i | none=>b
def gL (kf:Int->Option Kd) (mt:Int->Int->Bool) (n1 e1 n2 e2:Int):Option Nat :=
 orD (orD (ci kf n1 e1) (ci kf n2 e2)) (if n1=n2/\e1=e2 then some 8 else if mt n1 e1=true∨mt n2 e2=true then some 9 else none)
theorem qZ (kf:Int->Option Kd) (mt:Int->Int->Bool) (n1 e1 n2 e2:Int):∀ i,gL kf mt n1 e1 n2 e2=some i->i<22:=fun i h=>by
 unfold gL at h
 cases h1:ci kf n1 e1 with
 | some j=>rw[h1] at h; cases h; exact fD _ _ _ _ h1
 | none=>
  rw[h1] at h
  cases h2:ci kf n2 e2 with
  | some j=>rw[h2] at h; cases h; exact fD _ _ _ _ h2
  | none=>
   rw[h2] at h
   have h:(if n1=n2/\e1=e2 then some 8 else if mt n1 e1=true∨mt n2 e2=true then some 9 else none)=some i:=h
   split at h
   ·cases h; decide
   ·split at h
    ·cases h; decide
    ·cases h
theorem sx (a b:Option Nat) (ha:∀ i,a=some i->i<22) (hb:∀ i,b=some i->i<22):∀ i,orD a b=some i->i<22:=by
 cases a with
 | none=>exact hb
 | some j=>exact ha
theorem rj {H':Hp}{l:Addr}{o:Option Nat}{X:Kn}{R:VK} (ho:∀ i,o=some i->i<22) (h:Has H' ((l,.lst ((bA o).map V.str))::X)) (r:∀ H2,Has H2 ((l,.lst ((bA o).map V.str))::X)->R (.bl o.isNone) H2) :
  (0:Nat)<=sizeLine/\∀ p,H' p=none->oW K false (.ref l) (.ref p) (upd H' p (.lst [])) R:=⟨(sz_ 0),fun p hp=>by
 have h2:=h.alloc hp (.lst [])
 refine⟨dt (bA o),dt (bA none),dJ (h2.get 1 U),dJ (h2.get 0 U),jo _ ho,jo _ sL,?_⟩
 rw[if_neg Bool.false_ne_true,mG]
 exact r _ h2.tail⟩
inductive sp_Ju (vs:List V) (H:Hp) (Q:VK) (E_:XK):Prop
 | mk (B:MA) (y:YR) (q:MR) (b1 b2:Addr) (n1 e1 n2 e2:Int) (kf:Int->Option Kd) (L:Kn) (_:vs=[.ref B.m,.ref b1,.ref b2]) (_:Has H (mL B y q++L)) (_:(b1,HO.tup [.int n1,.int e1]) ∈ L) (_:(b2,HO.tup [.int n2,.int e2]) ∈ L) (_:KfOk y kf) (_:∀ H' l,Has H' ((l,.lst ((bA (gL kf (fun n e=>(az y.mates (kE n e)).isSome) n1 e1 n2 e2)).map V.str))::(mL B y q++L))->Q (.ref l) H'):sp_Ju vs H Q E_
def iX (at_:Option En) (n:Int):Option Nat :=
 match at_ with
 | some z=>if z.2.1=n then some 11 else none
 | none=>none
def dU (kf:Int->Option Kd) (mt:Int->Int->Bool) (at_:Option En) (n:Int):Option Nat :=
 match kf n with
 | none=>some 4
 | some k=>if ∃ e:Nat,e<k.many.toNat/\mt n e=true then some 9 else iX at_ n
inductive sp_Jw (vs:List V) (H:Hp) (Q:VK) (E_:XK):Prop
 | mk (B:MA) (y:YR) (q:MR) (n:Int) (kf:Int->Option Kd) (at_:Option En) (L:Kn) (_:vs=[.ref B.m,.int n]) (_:Has H (mL B y q++L)) (_:KfOk y kf) (_:q.at_=enV at_) (_:(∀ z,at_=some z->(z.1,HO.tup [.int z.2.1,.int z.2.2]) ∈ L)) (_:∀ H' l,Has H' ((l,.lst ((bA (dU kf (fun n e=>(az y.mates (kE n e)).isSome) at_ n)).map V.str))::(mL B y q++L))->Q (.ref l) H'):sp_Jw vs H Q E_
section
variable {P:Program}{w:World}{K:PySem.W.Frag}{mg:Str->Option Value}{base:Heap}{t:Adr}
theorem scLd:FnScope ["_law_m","_law_one","_law_other","_law_due_here"] ["_law_m","_law_one","_law_other"] (aj vC):={}
theorem ok_Ju (T:Txt K mg t):FnOk P w K mg base CX0 3 t.f_Ju t.d_Ju ["_law_m","_law_one","_law_other"] sp_Ju:=by
 refine T.F_Ju.ok scLd (fun vs H Q E h=>?_) (fun cdv A outer s H vs Q E hr h=>?_)
 ·obtain⟨_,_,_,_,_,_,_,_,_,_,_,rfl,_⟩:=h
  rfl
 ·obtain⟨B,y,q0,b1,b2,n1,e1,n2,e2,kf,L,rfl,hH,m1,m2,hk,q⟩:=h
  have hu:=bi hr
  refine⟨_,(ae (ax (i:=3) scLd.nd rfl (Or.inl rfl) (pcl (jJ T) hr T.m_J21 T.F_J21.kp (mT T) (aa (pv 0) (aa (pv 1) af))))
   (ae (bo (au (ak (dE hr.units) (pv 3) (aN af) (am _))
    (ag (ax (i:=3) scLd.nd rfl (Or.inl rfl) (pcl (jJ T) hr T.m_J21 T.F_J21.kp (mT T) (aa (pv 0) (aa (pv 2) af)))))
    al))
   (ae (bo (au (PW.pt (bM (ak (dE hr.units) (pv 3) (aN af) (am _)) (bq (ak (jH hr.units) (pv 1) (pv 2) (am _)))))
    (ag (ap (aN (aa ah af))))
    al))
   (ae (bo (au (PW.pt (bM (ak (dE hr.units) (pv 3) (aN af) (am _)) (bq (PW.pt (cQ (bB (cU hu (pv 1) (aB (aq hu (pv 0) ah)))) (ck (bB (cU hu (pv 2) (aB (aq hu (pv 0) ah))))))))))
    (ag (ap (aN (aa ah af))))
    al))
   (ag (ap (pv 3))))))),?_⟩
  rw[show L2.start ["_law_m","_law_one","_law_other","_law_due_here"] [V.ref B.m,V.ref b1,V.ref b2]=([some (V.ref B.m),some (V.ref b1),some (V.ref b2),none]:St) from rfl]
  refine⟨_,U,_,U,B,y,q0,b1,n1,e1,kf,L,U,hH,m1,hk,fun H1 l1 h1=>?_⟩
  dsimp only[List.set]
  have b1':∀ i,ci kf n1 e1=some i->i<22:=fD _ _ _
  have b2':∀ i,orD (ci kf n1 e1) (ci kf n2 e2)=some i->i<22:=sx _ _ b1' (fD _ _ _)
  refine⟨fun σ' H'=>∃ l,σ'=[some (.ref B.m),some (.ref b1),some (.ref b2),some (.ref l)]/\Has H' ((l,.lst ((bA (orD (ci kf n1 e1) (ci kf n2 e2))).map V.str))::(mL B y q0++L)),?_,?_⟩
  ·refine⟨_,U,rj b1' h1 (fun H2 h2=>⟨_,U,if2 (fun c=>?_) (fun c=>?_)⟩)⟩
   ·refine⟨_,U,_,U,B,y,q0,b2,n2,e2,kf,L,U,h2.tail,m2,hk,fun H3 l3 h3=>⟨l3,U,?_⟩⟩
    rw[Option.isNone_iff_eq_none.mp c]
    exact h3
   ·refine⟨l1,U,?_⟩
    obtain⟨j,ej⟩:=Option.isSome_iff_exists.mp (by rw[<- Option.not_isNone,c]; rfl:(ci kf n1 e1).isSome=true)
    rw[ej] at h2 ⊢
    exact h2
  rintro σ' H' ⟨l,rfl,h2⟩
  obtain⟨o2,ho⟩:∃ o,orD (ci kf n1 e1) (ci kf n2 e2)=o:=⟨_,U⟩
  unfold gL at q
  rw[ho] at h2 b2' q
  dsimp only at q
  refine⟨fun σ' H'=>σ'=[some (.ref B.m),some (.ref b1),some (.ref b2),some (.ref l)]/\Has H' ((l,.lst ((bA o2).map V.str))::(mL B y q0++L))/\(o2=none->¬ (n1=n2/\e1=e2)),?_,?_⟩
  ·refine⟨_,U,rj b2' h2 (fun H3 h3=>⟨_,U,if2 (fun c=>?_) (fun c=>bL ⟨U,h3,fun z=>?_⟩)⟩)⟩
   ·have t1:=h3.at_ _ (wE _ (wD _ m1))
    have t2:=h3.at_ _ (wE _ (wD _ m2))
    refine⟨_,U,_,U,b1,b2,[n1,e1],[n2,e2],U,U,t1,t2,_,U,if2 (fun c2=>?_) (fun c2=>?_)⟩
    ·refine⟨(sz_ 1),fun l4 hl4=>q _ l4 ?_⟩
     have c3:n1=n2/\e1=e2:=by
      have:=of_decide_eq_true (show decide ([n1,e1]=[n2,e2])=true from c2)
      simpa using this
     rw[Option.isNone_iff_eq_none.mp c,if_pos c3]
     exact h3.tail.alloc hl4 _
    ·refine⟨U,h3,fun _ z=>?_⟩
     have:=of_decide_eq_false (show decide ([n1,e1]=[n2,e2])=false from c2)
     exact this (by rw[z.1,z.2])
   ·subst z; cases c
  rintro _ H5 ⟨rfl,h5,d5⟩
  refine⟨fun σ' H'=>σ'=[some (.ref B.m),some (.ref b1),some (.ref b2),some (.ref l)]/\Has H' ((l,.lst ((bA o2).map V.str))::(mL B y q0++L))/\(o2=none->¬ ((az y.mates (kE n1 e1)).isSome=true∨(az y.mates (kE n2 e2)).isSome=true)),?_,?_⟩
  ·refine⟨_,U,rj b2' h5 (fun H3 h3=>⟨_,U,if2 (fun c=>?_) (fun c=>bL ⟨U,h3,fun z=>?_⟩)⟩)⟩
   ·have t1:=h3.at_ _ (wE _ (wD _ m1))
    have t2:=h3.at_ _ (wE _ (wD _ m2))
    have hn:=Option.isNone_iff_eq_none.mp c
    have fin:((az y.mates (kE n1 e1)).isSome=true∨(az y.mates (kE n2 e2)).isSome=true)->∀ l4,H3 l4=none->Q (.ref l4) (upd H3 l4 (.lst [.str "Linked"])):=fun z l4 hl4=>q _ l4 (by
     rw[hn,if_neg (d5 hn),if_pos z]
     exact h3.tail.alloc hl4 _)
    refine⟨_,U,_,⟨_,U,dR (h3.get 1 U)⟩,B.mt,_,U,DGet.t (k:=kE n1 e1) (h3.get 6 U) t1,_,U,if2 (fun c2=>cP ⟨(sz_ 1),fin (.inl c2)⟩) (fun c2=>?_)⟩
    refine⟨_,U,_,⟨_,U,dR (h3.get 1 U)⟩,B.mt,_,U,DGet.t (k:=kE n2 e2) (h3.get 6 U) t2,_,U,if2 (fun c3=>⟨(sz_ 1),fin (.inr c3)⟩) (fun c3=>⟨U,h3,fun _ z=>?_⟩)⟩
    exact z.elim (fun z=>by rw[z] at c2; cases c2) (fun z=>by rw[z] at c3; cases c3)
   ·subst z; cases c
  rintro _ H6 ⟨rfl,h6,d6⟩
  refine⟨_,U,q _ l ?_⟩
  cases o2 with
  | some j=>exact h6
  | none=>rw[if_neg (d5 rfl),if_neg (d6 rfl)]; exact h6
theorem scLi:FnScope ["_law_m","_law_piece","_law_place"] ["_law_m","_law_piece"] (aj vA):={}
theorem ok_Jw (T:Txt K mg t):FnOk P w K mg base CX0 3 t.f_Jw t.d_Jw ["_law_m","_law_piece"] sp_Jw:=by
 refine T.F_Jw.ok scLi (fun vs H Q E h=>?_) (fun cdv A outer s H vs Q E hr h=>?_)
 ·obtain⟨_,_,_,_,_,_,_,rfl,_⟩:=h
  rfl
 ·obtain⟨B,y,q0,n,kf,at_,L,rfl,hH,hk,eat,mat,q⟩:=h
  have hu:=bi hr
  refine⟨_,(ae (bo (au (bB (cv hu (pv 1) (aB (aq hu (pv 0) ah))))
    (ag (ap (aN (aa ah af))))
    al))
   (ae (cK PassesOwn.never rfl (cu (by rfl) T.z_range (aa (pcl (e9 T) hr T.m_many T.F_many.kp (gF T) (aa (aq hu (aB (aq hu (pv 0) ah (fun _ _=>rfl))) (pv 1)) af)) af)) (aI (i:=2) scLi.nd rfl (Or.inl rfl))
    (ag (bo (au (bB (cU hu (aF (aa (pv 1) (aa (pv 2) af))) (aB (aq hu (pv 0) ah))))
      (ag (ap (aN (aa ah af))))
      al))))
   (ae (bo (au (PW.pt (bM (ak cZ (aB (aq hu (pv 0) ah)) aK (am _)) (bq (ak bp (aR bn (aB (aq hu (pv 0) ah)) ai) (pv 1) (am _)))))
    (ag (ap (aN (aa ah af))))
    al))
   (ag (ap (aN af)))))),?_⟩
  rw[show L2.start ["_law_m","_law_piece","_law_place"] [V.ref B.m,V.int n]=([some (V.ref B.m),some (V.int n),none]:St) from rfl]
  have q':∀ (o:Option Nat),dU kf (fun n e=>(az y.mates (kE n e)).isSome) at_ n=o->∀ H' l,Has H' ((l,.lst ((bA o).map V.str))::(mL B y q0++L))->Q (.ref l) H':=fun o e=>e ▸ q
  clear q
  have gk:∀ {H':Hp},Has H' (mL B y q0++L)->DGet H' B.k (.int n) ((kf n).map fun k=>V.str k.str):=fun h=>by rw[<- hk n]; exact DGet.k (k:=.inl n) (h.get 1 U)
  cases hkn:kf n with
  | none=>
   rw[hkn] at gk
   refine⟨fun _ _=>False,⟨_,U,_,⟨_,U,gv (hH.get 0 U)⟩,B.k,_,U,gk hH,_,U,ifT rfl ⟨(sz_ 1),fun l hl=>q' (some 4) ?_ _ l (hH.alloc hl _)⟩⟩,fun _ _ z=>z.elim⟩
   unfold dU
   rw[hkn]
  | some k=>
   rw[hkn] at gk
   refine⟨fun σ' H'=>σ'=[some (.ref B.m),some (.int n),none]/\Has H' (mL B y q0++L),⟨_,U,_,⟨_,U,gv (hH.get 0 U)⟩,B.k,_,U,gk hH,_,U,ifF rfl ⟨U,hH⟩⟩,?_⟩
   rintro _ H1 ⟨rfl,h1⟩
   have km:1<=k.many/\k.many<=3:=by cases k <;> decide
   refine⟨_,⟨_,U,gv (h1.get 0 U)⟩,_,U,B.k,_,U,gk h1,k,U,k.many,U,by omega,by omega,cw (fun i σ H'=>(∃ o,σ=[some (.ref B.m),some (.int n),o])/\Has H' (mL B y q0++L)/\∀ j:Nat,j<i->(az y.mates (kE n j)).isSome=false) ⟨⟨_,U⟩,h1,fun j hj=>absurd hj (Nat.not_lt_zero j)⟩ ?_ ?_⟩
   ·rintro i σ H2 hi ⟨⟨o,rfl⟩,h2,hb⟩
    rw[Int.zero_add]
    refine⟨fun σ H'=>(∃ o,σ=[some (.ref B.m),some (.int n),o])/\Has H' (mL B y q0++L)/\∀ j:Nat,j<i+1->(az y.mates (kE n j)).isSome=false,?_,fun _ _ z=>z⟩
    refine⟨_,U,_,U,(show 2<=sizeLine by decide),fun b hb'=>?_⟩
    have h3:=h2.alloc hb' (.tup [.int n,.int (i:Int)])
    refine⟨_,⟨_,U,dR (h3.get 1 U)⟩,B.mt,_,U,DGet.t (k:=kE n (i:Int)) (h3.get 6 U) (h3.get 0 U),_,U,if2 (fun c=>?_) (fun c=>?_)⟩
    ·refine⟨(sz_ 1),fun l hl=>q' (some 9) ?_ _ l (h3.tail.alloc hl _)⟩
     unfold dU
     rw[hkn]
     exact if_pos ⟨i,hi,c⟩
    ·refine⟨⟨_,U⟩,h3.tail,fun j hj=>?_⟩
     by_cases e:j=i
     ·subst e; exact c
     ·exact hb j (by omega)
   ·rintro σ H2 ⟨⟨o,rfl⟩,h2,hb⟩
    have hno:¬ ∃ e:Nat,e<k.many.toNat/\(fun n e=>(az y.mates (kE n e)).isSome) n (e:Int)=true:=fun⟨e,he,z⟩=>by
     rw[show(fun n e=>(az y.mates (kE n e)).isSome) n (e:Int)=(az y.mates (kE n e)).isSome from rfl,hb e he] at z
     cases z
    have hlf:dU kf (fun n e=>(az y.mates (kE n e)).isSome) at_ n=iX at_ n:=by
     unfold dU
     rw[hkn]
     exact if_neg hno
    refine⟨fun σ' H'=>Has H' (mL B y q0++L)/\∀ z,at_=some z->z.2.1≠n,?_,?_⟩
    ·refine⟨_,⟨_,U,gI (h2.get 0 U)⟩,U,_,U,?_⟩
     rcases hat:at_ with _ | z
     ·rw[hat] at eat
      exact ifF (by rw[eat]; rfl) (bL ⟨h2,fun z e=>by cases e⟩)
     ·have eat':q0.at_=.ref z.1:=by rw[eat,hat]; rfl
      refine ifT (by rw[eat']; rfl) ?_
      have gz:=h2.at_ _ (wD _ (mat z hat))
      refine⟨_,⟨_,U,gI (h2.get 0 U)⟩,z.1,_,_,_,eat',U,SqT.of gz,bh (j:=0) rfl,_,U,U,_,U,if2 (fun c=>?_) (fun c=>?_)⟩
      ·refine⟨(sz_ 1),fun l hl=>q' (some 11) ?_ _ l (h2.alloc hl _)⟩
       rw[hlf]
       unfold iX
       rw[hat]
       exact if_pos (by have:=of_decide_eq_true c; injection this)
      ·exact⟨h2,fun z' e=>by cases e; exact fun e=>of_decide_eq_false c (by rw[e])⟩
    ·rintro σ' H3 ⟨h3,hz⟩
     refine⟨(sz_ 0),fun l hl=>q' none ?_ _ l (h3.alloc hl _)⟩
     rw[hlf]
     unfold iX
     rcases hat:at_ with _ | z
     ·rfl
     ·exact if_neg (hz z hat)
end
structure MQ (q:MR) (s:Sd):Prop where
 sd:q.sides=s.ss.map V.int
 at_:q.at_=enV s.at_
 rg:q.rung=s.rg.map V.int
inductive sp_J31 (vs:List V) (H:Hp) (Q:VK) (E_:XK):Prop
 | mk (B:MA) (w:Wd) (s:Sd) (y:YR) (q:MR) (L:Kn) (_:vs=[.ref B.m]) (_:Has H (mL B y q++L)) (_:Rep w s y) (_:MQ q s) (_:(∀ n e z,w.mf n e=some z->(z.1,HO.tup [.int z.2.1,.int z.2.2]) ∈ L)) (_:(∀ z,s.at_=some z->(z.1,HO.tup [.int z.2.1,.int z.2.2]) ∈ L)) (_:q.tr.length<=1000) (_:s.rg.length<=1000) (_:s.ss.length<=1000) (_:(w.nx s=none->∀ H',Has H' (mL B y q++L)->Q (.bl false) H')) (_:(∀ s',w.nx s=some s'->∀ H' b c,Has H' (mL B y ⟨s'.ss.map V.int,enV s'.at_,s'.rg.map V.int,q.tr++[.ref b]⟩++((b,.tup [enV s.at_,.ref c,.int s.rg.length])::(c,.lst (s.ss.map V.int))::L))->Q (.bl true) H')):sp_J31 vs H Q E_
section
variable {P:Program}{w:World}{K:PySem.W.Frag}{mg:Str->Option Value}{base:Heap}{t:Adr}
theorem scMst:FnScope ["_law_m","_law_at","_law_side","_law_out","_law_behind"] ["_law_m"] (aj sj):={}
theorem pD (T:Txt K mg t):FnOk P w K mg base CX0 3 t.f_J31 t.d_J31 ["_law_m"] sp_J31:=by
 refine T.F_J31.ok scMst (fun vs H Q E h=>?_) (fun cdv A outer s H vs Q E hr h=>?_)
 ·obtain⟨_,_,_,_,_,_,rfl,_⟩:=h
  rfl
 ·obtain⟨B,w',sd,y,q0,L,rfl,hH,R,M,pm,pe,l1,l2,l3,q1,q2⟩:=h
  have hu:=bi hr
  refine⟨_,(ae (ax (i:=1) scMst.nd rfl (Or.inl rfl) (aB (aq hu (pv 0) ah)))
   (ae (bo (au (ak cm (pv 1) aK (am _))
    (ag (ap cM))
    al))
   (ae (ax (i:=2) scMst.nd rfl (Or.inl rfl) ai)
   (ae (bo (au (bB (cU hu (aR bn (pv 1) ai) (aB (aq hu (pv 0) ah))))
    (ag (ax (i:=2) scMst.nd rfl (Or.inl rfl) (aR bc (aB (aq hu (pv 0) ah)) (aq hu (aB (aq hu (pv 0) ah (fun _ _=>rfl))) (aR bn (pv 1) ai (fun _ _=>rfl))))))
    al))
   (ae (cD (pcl (ud T) hr T.m_J41 T.F_J41.kp (b_J41 T) (aa (aq hu (aB (aq hu (pv 0) ah (fun _ _=>rfl))) (aR bn (pv 1) ai)) (aa (aR bn (pv 1) ai) (aa (pv 2) af)))) (dC rfl (aU (aI (i:=3) scMst.nd rfl (Or.inl rfl)) (aU (aI (i:=4) scMst.nd rfl (Or.inl rfl)) cL))))
   (ae (bo (au (bB (k8 hu (aF (aa (aR bn (pv 1) ai) (aa (pv 3) af))) (aB (aq hu (pv 0) ah))))
    (ag (ap cM))
    al))
   (ae (av (fi PySem.F.plainAttrs_list PySem.F.slot_list_append PySem.F.type_list_append bW (aB (aq hu (pv 0) ah)) (@aa _ _ _ _ _ (aF (aa (pv 1) (aa (aZ cx (by rfl) T.z_list (by rfl) (aa (aB (aq hu (pv 0) ah)) af)) (aa (ay aL (by rfl) T.z_len (by rfl) (aa (aB (aq hu (pv 0) ah)) af)) af)))) af (by rfl))))
   (ae (bo (au (bB (cU hu (aR bn (pv 1) ai) (aB (aq hu (pv 0) ah))))
    (ag (cD (pv 4) (gl (aB (aq hu (pv 0) ah)) (aq hu (aB (aq hu (pv 0) ah (fun _ _=>rfl))) (aR bn (pv 1) ai)) dN)))
    al))
   (ae (bo (au (bB (cU hu (aR bn (pv 1) ai) (aB (aq hu (pv 0) ah))))
    (ag (av (fi PySem.F.plainAttrs_list PySem.F.slot_list_append PySem.F.type_list_append bW (aB (aq hu (pv 0) ah)) (aa (aq hu (aB (aq hu (pv 0) ah (fun _ _=>rfl))) (aR bn (pv 1) ai)) af))))
    al))
   (ae (aJ hu (pv 0) ah (aq hu (aB (aq hu (pv 0) ah (fun _ _=>rfl))) (aF (aa (aR bn (pv 1) ai) (aa (pv 3) af)))) rfl)
   (ag (ap cM)))))))))))),?_⟩
  rw[show L2.start ["_law_m","_law_at","_law_side","_law_out","_law_behind"] [V.ref B.m]=([some (V.ref B.m),none,none,none,none]:St) from rfl]
  refine⟨_,⟨_,U,gI (hH.get 0 U)⟩,?_⟩
  dsimp only[List.set]
  rcases hat:sd.at_ with _ | z
  ·refine⟨fun _ _=>False,⟨_,U,U,_,U,ifT (by rw[M.at_,hat]; rfl) (q1 ?_ _ hH)⟩,fun _ _ z=>z.elim⟩
   unfold Wd.nx
   rw[hat]
  have ea:q0.at_=.ref z.1:=by rw[M.at_,hat]; rfl
  rw[ea]
  obtain⟨k,hk,e0,e1⟩:=R.eo z hat
  have gz:∀ {H':Hp}{X:Kn},Has H' (X++L)->H' z.1=some (.tup [.int z.2.1,.int z.2.2]):=fun h=>h.at_ _ (wD _ (pe z hat))
  have gk:∀ {H':Hp}{q:MR}{X:Kn},Has H' (mL B y q++X)->DGet H' B.k (.int z.2.1) (some (.str k.str)):=fun h=>by rw[<- R.kd _ _ hk]; exact DGet.k (k:=.inl z.2.1) (h.get 1 U)
  have gn:∀ {H':Hp}{q:MR}{X:Kn},Has H' (mL B y q++X)->DGet H' B.n (.int z.2.1) (if k=.bell then some (.int (w'.nf z.2.1)) else none):=fun h=>by rw[<- R.no _ _ hk]; exact DGet.k (k:=.inl z.2.1) (h.get 2 U)
  have gr:∀ {H':Hp}{q:MR}{X:Kn},Has H' (mL B y q++X)->DGet H' B.r (.int z.2.1) (if k.point=true then some (.int (w'.rf z.2.1)) else none):=fun h=>by rw[<- R.ro _ _ hk]; exact DGet.k (k:=.inl z.2.1) (h.get 3 U)
  refine⟨fun σ' H'=>σ'=[some (.ref B.m),some (.ref z.1),none,none,none]/\Has H' (mL B y q0++L),⟨_,U,U,_,U,ifF rfl ⟨U,hH⟩⟩,?_⟩
  rintro _ H1 ⟨rfl,h1⟩
  show jx _ _ _ _ _
  obtain⟨sv,esv⟩:∃ sv:Int,(if k.point=true then w'.sv sd z.2.1 else 0)=sv:=⟨_,U⟩
  have eo:k.out z.2.2 sv=k.out z.2.2 (w'.sv sd z.2.1):=by
   by_cases hp:k.point=true
   ·rw[<- esv,if_pos hp]
   ·exact Kd.out_np hp _ _ _
  have hsv:k.point=true->atI q0.sides (w'.rf z.2.1)=some (.int sv):=fun hp=>by
   obtain⟨r0,r1⟩:=R.rr _ _ hk hp
   have h5:=R.sideAt hk hp
   rw[R.sd,<- M.sd] at h5
   have h6:=bh h5
   rw[Int.toNat_of_nonneg r0] at h6
   rw[h6,<- esv,if_pos hp]
  refine⟨fun σ' H'=>σ'=[some (.ref B.m),some (.ref z.1),some (.int sv),none,none]/\Has H' (mL B y q0++L),?_,?_⟩
  ·refine⟨_,U,z.1,_,_,_,U,U,SqT.of (gz h1),bh (j:=0) rfl,_,⟨_,U,jM (h1.get 0 U)⟩,B.r,_,U,gr h1,_,U,?_⟩
   by_cases hp:k.point=true
   ·have g3:=gr h1
    rw[if_pos hp] at g3 ⊢
    refine ifT rfl ⟨_,⟨_,U,fS (h1.get 0 U)⟩,_,⟨_,U,jM (h1.get 0 U)⟩,_,U,z.1,_,_,_,U,U,SqT.of (gz h1),bh (j:=0) rfl,B.r,_,U,g3,B.s,_,_,_,U,U,SqL.of (h1.get 4 U),hsv hp,U,h1⟩
   ·rw[if_neg hp] at esv ⊢
    exact ifF rfl ⟨by rw[<- esv]; rfl,h1⟩
  rintro _ H2 ⟨rfl,h2⟩
  refine⟨_,⟨_,U,gv (h2.get 0 U)⟩,_,U,z.1,_,_,_,U,U,SqT.of (gz h2),bh (j:=0) rfl,B.k,_,U,gk h2,_,U,z.1,_,_,_,U,U,SqT.of (gz h2),bh (j:=1) rfl,_,U,k,z.2.2,sv,U,e0,e1,fun p hp=>?_⟩
  have h3:=h2.alloc hp (.tup [k.out z.2.2 sv,.int (k.side z.2.2 sv)])
  refine⟨p,_,U,SqT.of (h3.get 0 U),U,_,_,U,_,_,U,U,?_⟩
  dsimp only[List.set]
  have h4:Has _ (mL B y q0++L):=h3.tail
  generalize upd H2 p _=H3 at h4 ⊢
  clear h3 hp h2 h1
  rw[eo]
  refine⟨fun σ' H'=>∃ o z',k.out z.2.2 (w'.sv sd z.2.1)=.int o/\w'.mf z.2.1 o=some z'/\σ'=[some (.ref B.m),some (.ref z.1),some (.int sv),some (.int o),some (.int (k.side z.2.2 sv))]/\Has H' (mL B y q0++L),?_,?_⟩
  ·refine⟨_,U,z.1,_,_,_,U,U,SqT.of (gz h4),bh (j:=0) rfl,_,U,(show 2<=sizeLine by decide),fun b hb=>?_⟩
   have h5:=h4.alloc hb (.tup [.int z.2.1,k.out z.2.2 (w'.sv sd z.2.1)])
   have hcase:(w'.nx sd=none/\qz (upd H3 b (.tup [.int z.2.1,k.out z.2.2 (w'.sv sd z.2.1)])) B.mt (.ref b) none)∨∃ (o:Int) (z':En),k.out z.2.2 (w'.sv sd z.2.1)=.int o/\w'.mf z.2.1 o=some z':=by
    by_cases c:k.out z.2.2 (w'.sv sd z.2.1)=.non
    ·refine .inl ⟨(db hat hk c).1,.inr ⟨_,z.2.1,b,.inl (h5.get 6 U),U,?_,U⟩⟩
     rw[c]; exact bz
    ·obtain⟨o,ho⟩:=Kd.out_int (k:=k) (fun e=>c (by unfold Kd.out; rw[if_pos e])) z.2.2 (w'.sv sd z.2.1)
     cases hm:w'.mf z.2.1 o with
     | none=>
      refine .inl ⟨(cS hat hk ho hm).1,.inl ?_⟩
      have:=DGet.t (k:=kE z.2.1 o) (h5.get 6 U) (by rw[ho]; exact bz)
      rw[R.mt,hm] at this
      exact this
     | some z'=>exact .inr ⟨o,z',ho,hm⟩
   rcases hcase with ⟨hn,hg⟩ | ⟨o,z',ho,hm⟩
   ·exact⟨_,⟨_,U,dR (h5.get 1 U)⟩,B.mt,none,U,hg,_,U,cP (q1 hn _ h5.tail)⟩
   ·have vm:az y.mates (kE z.2.1 o)=some (.ref z'.1):=by rw[R.mt,hm]; rfl
    rw[ho] at h5 ⊢
    exact⟨_,⟨_,U,dR (h5.get 1 U)⟩,B.mt,_,U,.inl (DGet.t (k:=kE z.2.1 o) (h5.get 6 U) (h5.get 0 U)),_,U,ifF (by rw[vm]; rfl) ⟨o,z',U,hm,U,h5.tail⟩⟩
  rintro _ H4 ⟨o,z',ho,hm,rfl,h4⟩
  refine⟨_,⟨_,U,mv (h4.get 0 U)⟩,.inl ⟨U,_,SqL.of (h4.get 7 U)⟩,_,U,_,⟨_,U,fS (h4.get 0 U)⟩,B.s,_,U,.inl (SqL.of (h4.get 4 U)),fun c hc=>?_⟩
  have h5:=h4.alloc hc (.lst q0.sides)
  refine⟨_,⟨_,U,pL (h5.get 1 U)⟩,B.g,_,U,.inl (SqL.of (h5.get 7 U)),(sz_ 3),fun b hb=>?_⟩
  have h6:=h5.alloc hb (.tup [.ref z.1,.ref c,.int q0.rung.length])
  refine⟨B.tr,_,_,U,U,h6.get 9 U,aS (by omega),?_⟩
  have h7:Has _ ((b,.tup [.ref z.1,.ref c,.int q0.rung.length])::(c,.lst q0.sides)::(mL B y { q0 with tr:=q0.tr++[.ref b] }++L)):=h6.puti 9 U (.lst (q0.tr++[.ref b]))
  have h8:Has _ (mL B y { q0 with tr:=q0.tr++[.ref b] }++((b,.tup [.ref z.1,.ref c,.int q0.rung.length])::(c,.lst q0.sides)::L)):=Has.comm (X:=[(b,HO.tup [.ref z.1,.ref c,.int q0.rung.length]),(c,.lst q0.sides)]) (Y:=mL B y { q0 with tr:=q0.tr++[.ref b] }) h7
  generalize upd _ B.tr _=H5 at h8 ⊢
  clear h7 h6 h5 h4 hb hc
  obtain⟨L1,eL1⟩:∃ L1:Kn,(b,HO.tup [.ref z.1,.ref c,.int q0.rung.length])::(c,.lst q0.sides)::L=L1:=⟨_,U⟩
  have gz1:∀ {H':Hp}{X:Kn},Has H' (X++L1)->H' z.1=some (.tup [.int z.2.1,.int z.2.2]):=fun h=>h.at_ (z.1,_) (wD _ (by rw[<- eL1]; exact wE _ (wE _ (pe z hat))))
  rw[eL1] at h8
  have hn:=io hat hk ho hm
  obtain⟨s',es'⟩:∃ s',bd w' sd z k z'=s':=⟨_,U⟩
  rw[es'] at hn
  have ess:s'.ss=if k.point then sd.ss.set (w'.rf z.2.1).toNat (k.side z.2.2 (w'.sv sd z.2.1)) else sd.ss:=by rw[<- es']; rfl
  have erg:s'.rg=if k=.bell then sd.rg++[w'.nf z.2.1] else sd.rg:=by rw[<- es']; rfl
  have eat:s'.at_=some z':=by rw[<- es']; rfl
  have lsd:q0.sides.length=sd.ss.length:=by rw[M.sd,wF]
  have lrg:q0.rung.length=sd.rg.length:=by rw[M.rg,wF]
  refine⟨fun σ' H'=>σ'=[some (.ref B.m),some (.ref z.1),some (.int sv),some (.int o),some (.int (k.side z.2.2 sv))]/\Has H' (mL B y ⟨s'.ss.map V.int,q0.at_,q0.rung,q0.tr++[.ref b]⟩++L1),?_,?_⟩
  ·refine⟨_,U,z.1,_,_,_,U,U,SqT.of (gz1 h8),bh (j:=0) rfl,_,⟨_,U,jM (h8.get 0 U)⟩,B.r,_,U,gr h8,_,U,?_⟩
   by_cases hp:k.point=true
   ·have g3:=gr h8
    rw[if_pos hp] at g3 ess ⊢
    obtain⟨r0,r1⟩:=R.rr _ _ hk hp
    have ej:ixN q0.sides.length (w'.rf z.2.1)=some (w'.rf z.2.1).toNat:=by
     unfold ixN
     rw[if_pos r0,if_pos (by rw[lsd]; exact r1)]
    refine ifT rfl ⟨_,U,_,⟨_,U,fS (h8.get 0 U)⟩,_,⟨_,U,jM (h8.get 0 U)⟩,_,U,z.1,_,_,_,U,U,SqT.of (gz1 h8),bh (j:=0) rfl,B.r,_,U,g3,B.s,_,_,_,U,U,h8.get 4 U,ej,U,?_⟩
    have h9:=h8.puti 4 U (.lst (q0.sides.set (w'.rf z.2.1).toNat (.int (k.side z.2.2 sv))))
    have ev:s'.ss.map V.int=q0.sides.set (w'.rf z.2.1).toNat (.int (k.side z.2.2 sv)):=by rw[ess,M.sd,List.map_set,<- esv,if_pos hp]
    rw[ev]
    exact h9
   ·rw[if_neg hp] at ess ⊢
    refine ifF rfl ⟨U,?_⟩
    rw[ess,<- M.sd]
    exact h8
  rintro _ H6 ⟨rfl,h8⟩
  refine⟨fun σ' H'=>σ'=[some (.ref B.m),some (.ref z.1),some (.int sv),some (.int o),some (.int (k.side z.2.2 sv))]/\Has H' (mL B y ⟨s'.ss.map V.int,q0.at_,s'.rg.map V.int,q0.tr++[.ref b]⟩++L1),?_,?_⟩
  ·refine⟨_,U,z.1,_,_,_,U,U,SqT.of (gz1 h8),bh (j:=0) rfl,_,⟨_,U,ny (h8.get 0 U)⟩,B.n,_,U,gn h8,_,U,?_⟩
   by_cases hp:k=.bell
   ·have g3:=gn h8
    rw[if_pos hp] at g3 erg ⊢
    refine ifT rfl ⟨_,⟨_,U,pL (h8.get 0 U)⟩,.inl ⟨U,_,SqL.of (h8.get 6 U)⟩,_,⟨_,U,ny (h8.get 0 U)⟩,_,U,z.1,_,_,_,U,U,SqT.of (gz1 h8),bh (j:=0) rfl,B.n,_,U,g3,B.g,_,_,U,U,h8.get 6 U,aS (by rw[lrg]; omega),U,?_⟩
    have h9:=h8.puti 6 U (.lst (q0.rung++[.int (w'.nf z.2.1)]))
    have ev:s'.rg.map V.int=q0.rung++[.int (w'.nf z.2.1)]:=by rw[erg,M.rg,wL]; rfl
    rw[ev]
    exact h9
   ·rw[if_neg hp] at erg ⊢
    refine ifF rfl ⟨U,?_⟩
    rw[erg,<- M.rg]
    exact h8
  rintro _ H7 ⟨rfl,h8⟩
  have vm:az y.mates (kE z.2.1 o)=some (.ref z'.1):=by rw[R.mt,hm]; rfl
  refine⟨_,⟨_,U,dR (h8.get 0 U)⟩,_,U,z.1,_,_,_,U,U,SqT.of (gz1 h8),bh (j:=0) rfl,_,U,(show 2<=sizeLine by decide),fun b2 hb2=>?_⟩
  have h9:=h8.alloc hb2 (.tup [.int z.2.1,.int o])
  refine⟨B.mt,_,U,(by rw[<- vm]; exact DGet.t (k:=kE z.2.1 o) (h9.get 6 U) (h9.get 0 U)),_,U,B.m,_,U,kt (h9.get 1 U) _,q2 s' hn _ b c ?_⟩
  have h10:Has _ (mL B y ⟨s'.ss.map V.int,.ref z'.1,s'.rg.map V.int,q0.tr++[.ref b]⟩++L1):=(h9.puti 1 U (.dK (mfl B (.ref z'.1) y.next))).tail
  rw[eat,hat,<- M.sd,<- lrg,show(enV (some z):V)=.ref z.1 from rfl,show(enV (some z'):V)=.ref z'.1 from rfl,eL1]
  exact h10
end
def mtK (ms:List (Addr×Addr×Sd)):Kn:=ms.flatMap fun x=>[(x.1,HO.tup [enV x.2.2.at_,.ref x.2.1,.int x.2.2.rg.length]),(x.2.1,.lst (x.2.2.ss.map V.int))]
def mtV (ms:List (Addr×Addr×Sd)):List V:=ms.map fun x=>V.ref x.1
structure St11 (w:Wd) (s0:Sd) (ts:List (Addr×Sd)) (ms:List (Addr×Addr×Sd)) (y:YR) (q:MR) (L:Kn):Prop where
 ok:Okw w s0
 rep:Rep w (w.go ts.length s0) y
 mq:MQ q (w.go ts.length s0)
 his:ts.map (·.2)=w.hist ts.length s0
 hms:ms.map (·.2.2)=w.hist ts.length s0
 ytr:y.trail=trV ts
 qtr:q.tr=mtV ms
 pm:∀ n e z,w.mf n e=some z->(z.1,HO.tup [.int z.2.1,.int z.2.2]) ∈ L
 pe:∀ z,s0.at_=some z->(z.1,HO.tup [.int z.2.1,.int z.2.2]) ∈ L
def hL (C:Addr) (A:YA) (B:MA) (w:Wd) (ts:List (Addr×Sd)) (ms:List (Addr×Addr×Sd)) (y:YR) (q:MR) (L:Kn):Kn:=mL B y q++(mtK ms++(yL C A y++(trK w ts++L)))
inductive sp_lrun (C:Addr) (vs:List V) (H:Hp) (Q:VK) (E_:XK):Prop
 | mk (A:YA) (B:MA) (w:Wd) (s0:Sd) (ts:List (Addr×Sd)) (ms:List (Addr×Addr×Sd)) (y:YR) (q:MR) (L:Kn) (m:Int) (_:vs=[.ref A.p,.ref B.m,.int m]) (_:Has H (hL C A B w ts ms y q L)) (_:St11 w s0 ts ms y q L) (_:m<=8) (_:ts.length<=500) (_:y.rung.length<=500) (_:y.sides.length<=500) (_:∀ H' ts' ms' y' q',Has H' (hL C A B w ts' ms' y' q' L)->St11 w s0 ts' ms' y' q' L->ts'.length<=ts.length+8->y'.rung.length<=y.rung.length+8->y'.sides.length=y.sides.length->y'.next=y.next->y'.kinds=y.kinds->y'.notes=y.notes->y'.rods=y.rods->y'.mates=y.mates->Q (.bl true) H'):sp_lrun C vs H Q E_
section
variable {P:Program}{w:World}{K:PySem.W.Frag}{mg:Str->Option Value}{base:Heap}{t:Adr}
theorem scLr:FnScope ["_law_yard","_law_m","_law_most","_law_done"] ["_law_yard","_law_m","_law_most"] (aj lK):={}
theorem pj (T:Txt K mg t):FnOk P w K mg base CX0 9 t.f_l_run t.d_l_run ["_law_yard","_law_m","_law_most"] (sp_lrun t.c_Yard):=by
 refine T.F_l_run.ok scLr (fun vs H Q E h=>?_) (fun cdv A outer s H vs Q E hr h=>?_)
 ·obtain⟨_,_,_,_,_,_,_,_,_,_,rfl,_⟩:=h
  rfl
 ·obtain⟨Y,B,w',s0,ts,ms,y,q0,L,m,rfl,hH,S,hm,l1,l2,l3,q⟩:=h
  have hu:=bi hr
  refine⟨_,(ae (ax (i:=3) scLr.nd rfl (Or.inl rfl) ai)
   (ae (cV PassesOwn.never (PW.pt (bM (ak cG (pv 3) (pv 2) (am _)) (bq (bj (pcl (pD T) hr T.m_J31 T.F_J31.kp (sZ T) (aa (pv 1) af))))))
    (ag (ax (i:=3) scLr.nd rfl (Or.inl rfl) (aC ba (pv 3) ai))))
   (ag (ap (pcl (fR T) hr T.m_is T.F_is.kp (jZ T) (aa (pcl (fC T) hr T.m_run T.F_run.kp (iS T) (aa (pv 0) (aa (pv 2) af))) (aa (pv 3) af))))))),?_⟩
  rw[show L2.start ["_law_yard","_law_m","_law_most","_law_done"] [V.ref Y.p,V.ref B.m,V.int m]=([some (V.ref Y.p),some (V.ref B.m),some (V.int m),none]:St) from rfl]
  obtain⟨sc,esc⟩:∃ sc,w'.go ts.length s0=sc:=⟨_,U⟩
  have R:=S.rep
  have M:=S.mq
  rw[esc] at R M
  have pl0:Pool w' s0 L:=⟨fun n e z hz=>List.getElem?_of_mem (S.pm n e z hz),fun z hz=>List.getElem?_of_mem (S.pe z hz)⟩
  have plc:Pool w' sc L:=by rw[<- esc]; exact pl0.go _
  have okc:Okw w' sc:=by rw[<- esc]; exact S.ok.go _
  obtain⟨R1,eR1⟩:∃ X:Kn,mtK ms++(yL t.c_Yard Y y++(trK w' ts++L))=X:=⟨_,U⟩
  have inR:∀ z ∈ L,z ∈ R1:=fun z hz=>by rw[<- eR1]; exact wD _ (wD _ (wD _ hz))
  have h0:Has H (mL B y q0++R1):=by rw[<- eR1]; exact hH
  have lss:sc.ss.length=y.sides.length:=by rw[R.sd,wF]
  have lrg:sc.rg.length=y.rung.length:=by rw[R.rg,wF]
  have ltr:q0.tr.length<=500:=by
   rw[S.qtr]
   unfold mtV
   have:=congrArg List.length S.hms
   rw[wF] at this ⊢
   have h2:=fb w' ts.length s0
   omega
  show jx _ _ _ _ _
  have fin:∀ {H1:Hp}{i:Nat}{q':MR}{ms':List (Addr×Addr×Sd)}{X:Kn},MQ q' (w'.go i sc)->ms'.map (·.2.2)=w'.hist i sc->ms'.length=i->q'.tr=q0.tr++mtV ms'->X.Perm (mtK ms')->Has H1 (mL B y q'++(X++R1))->w'.go m.toNat sc=w'.go i sc->w'.hist m.toNat sc=w'.hist i sc ->
    qB (g8 ot [] E0 (cJ (g8 (sp_run t.c_Yard) [] E0 (cJ (dg 0) (cJ (dg 2) fL))) (cJ (dg 3) fL))) { nx:=fun x H'=>Q V.non H',rt:=Q } [some (.ref Y.p),some (.ref B.m),some (.int m),some (.int i)] H1:=by
   intro H1 i q' ms' X M1 hh hl ht px h1 g1 g2
   have h2:Has H1 (yL t.c_Yard Y y++(trK w' ts++(mL B y q'++(X++(mtK ms++L))))):=by
    rw[<- eR1] at h1
    have h3:=Has.comm (X:=mL B y q'++(X++mtK ms)) (Y:=yL t.c_Yard Y y++trK w' ts) (R:=L) (by simpa only [wG] using h1)
    simpa only [wG] using h3
   obtain⟨L2,eL2⟩:∃ L2:Kn,mL B y q'++(X++(mtK ms++L))=L2:=⟨_,U⟩
   rw[eL2] at h2
   have inL2:∀ z ∈ L,z ∈ L2:=fun z hz=>by rw[<- eL2]; exact wD _ (wD _ (wD _ hz))
   have pool2:Pool w' sc L2:=⟨fun n e z hz=>List.getElem?_of_mem (inL2 _ (S.pm n e z hz)),fun z hz=>by
    obtain⟨j,hj⟩:=plc.e z hz
    exact List.getElem?_of_mem (inL2 _ (wI hj))⟩
   refine⟨_,U,_,U,Y,y,L2,w',sc,ts,m,U,h2,R,pool2,S.ytr,by omega,by omega,by omega,by omega,fun H3 y' ts' h3 R3 e1 e2 e3 e4 e5 e6 e7 p3=>?_⟩
   refine⟨_,U,_,(i:Int),U,?_⟩
   have lt:ts'.length=i:=by
    have:=congrArg List.length e2
    rw[wF,g2,<- hh,wF,hl] at this
    exact this
   have li:i<=m.toNat:=by
    have h5:=fb w' m.toNat sc
    rw[g2,<- hh,wF,hl] at h5
    exact h5
   have lts:(w'.hist ts.length s0).length=ts.length:=by rw[<- S.his,wF]
   have ga:=gE w' ts.length i s0 lts
   rw[esc] at ga
   rw[g1] at R3
   rw[g2] at e2
   rw[lt,decide_eq_true rfl]
   have em:mL B y' q'=mL B y q':=by unfold mL; rw[e3,e4,e5,e6,e7]
   have hm2:mtK (ms++ms')=mtK ms++mtK ms':=by unfold mtK; exact List.flatMap_append
   refine q H3 (ts++ts') (ms++ms') y' q' ?_ ⟨S.ok,?_,?_,?_,?_,e1,?_,S.pm,S.pe⟩ (by rw[wK,lt]; omega) ?_ ?_ e3 e4 e5 e6 e7
   ·rw[<- eL2] at h3
    have h4:=Has.comm (X:=yL t.c_Yard Y y'++trK w' (ts++ts')) (Y:=mL B y q'++(X++mtK ms)) (R:=L) (by simpa only [wG] using h3)
    unfold hL
    rw[em,hm2]
    refine h4.perm ?_
    have p1:(X++mtK ms).Perm (mtK ms++mtK ms'):=List.perm_append_comm.trans (px.append_left _)
    have p2:=((p1.append_left (mL B y q')).append_right (yL t.c_Yard Y y'++trK w' (ts++ts')++L))
    simpa only [wG] using p2
   ·rw[wK,lt,ga.1]; exact R3
   ·rw[wK,lt,ga.1]; exact M1
   ·rw[wK,lt,ga.2,wL,S.his,e2]
   ·rw[wK,lt,ga.2,wL,S.hms,hh]
   ·rw[ht,S.qtr]; unfold mtV; rw[wL]
   ·rw[R3.rg,wF]
    have:=pX w' i sc
    omega
   ·rw[R3.sd,wF,gD,lss]
  refine⟨fun n σ H'=>∃ (i:Nat) (q':MR) (ms':List (Addr×Addr×Sd)) (X:Kn),n=(m - i).toNat/\σ=[some (.ref Y.p),some (.ref B.m),some (.int m),some (.int i)]/\((i:Int)<=m∨i=0)/\MQ q' (w'.go i sc)/\ms'.map (·.2.2)=w'.hist i sc/\ms'.length=i/\q'.tr=q0.tr++mtV ms'/\X.Perm (mtK ms')/\Has H' (mL B y q'++(X++R1)),⟨_,0,q0,[],[],U,U,.inr rfl,M,U,U,(wU _).symm,.refl _,h0⟩,?_⟩
  rintro n σ H1 ⟨i,q',ms',X,rfl,rfl,hi,M1,hh,hl,ht,px,h1⟩
  have hlen:(w'.hist i sc).length=i:=by rw[<- hh,wF,hl]
  refine⟨_,U,_,U,_,_,U,U,_,U,if2 (fun c=>?_) (fun c=>bL ?_)⟩
  ·have c:=of_decide_eq_true c
   have l5:q'.tr.length<=1000:=by
    rw[ht,wK]
    unfold mtV
    rw[wF,hl]
    omega
   have l6:(w'.go i sc).rg.length<=1000:=by have:=pX w' i sc; omega
   have l7:(w'.go i sc).ss.length<=1000:=by rw[gD]; omega
   refine⟨_,U,B,w',w'.go i sc,{ y with sides:=(w'.go i sc).ss.map V.int,eng:=enV (w'.go i sc).at_,rung:=(w'.go i sc).rg.map V.int },q',X++R1,U,h1,R.ofOkw (okc.go i) rfl rfl rfl rfl rfl rfl rfl,M1,fun n e z hz=>wD _ (inR _ (S.pm n e z hz)),fun z hz=>?_,l5,l6,l7,fun hn H2 h2=>⟨_,U,bL ?_⟩,fun s' hs' H2 b c2 h2=>⟨_,U,cP ?_⟩⟩
   ·obtain⟨j,hj⟩:=(plc.go i).e z hz
    exact wD _ (inR _ (wI hj))
   ·obtain⟨d,hd⟩:∃ d,m.toNat=i+d:=⟨m.toNat - i,by omega⟩
    have ga:=gE w' i d sc hlen
    rw[<- hd,bV w' hn,bG w' hn,wU] at ga
    exact fin M1 hh hl ht px h2 ga.1 ga.2
   ·have ga:=gE w' i 1 sc hlen
    rw[bD w' hs',bg w' hs'] at ga
    refine⟨fun σ' H'=>σ'=[some (.ref Y.p),some (.ref B.m),some (.int m),some (.int ((i+1:Nat):Int))]/\Has H' (mL B y ⟨s'.ss.map V.int,enV s'.at_,s'.rg.map V.int,q'.tr++[.ref b]⟩++(((b,.tup [enV (w'.go i sc).at_,.ref c2,.int (w'.go i sc).rg.length])::(c2,.lst ((w'.go i sc).ss.map V.int))::X)++R1)),fun σ' H' z=>⟨(m - ((i+1:Nat):Int)).toNat,by omega,i+1,_,ms'++[(b,c2,w'.go i sc)],_,U,z.1,.inl (by omega),?_,?_,by rw[wK,hl]; rfl,?_,?_,z.2⟩,?_⟩
    ·rw[ga.1]; exact⟨U,U,U⟩
    ·rw[ga.2,wL,hh]; rfl
    ·show q'.tr++[V.ref b]=q0.tr++mtV (ms'++[(b,c2,w'.go i sc)])
     rw[ht]
     unfold mtV
     rw[wL,wG]
     rfl
    ·have e:mtK (ms'++[(b,c2,w'.go i sc)])=mtK ms'++[(b,HO.tup [enV (w'.go i sc).at_,.ref c2,.int (w'.go i sc).rg.length]),(c2,.lst ((w'.go i sc).ss.map V.int))]:=by
      unfold mtK
      rw[List.flatMap_append]
      rfl
     rw[e]
     exact(List.perm_append_comm (l₁:=[(b,HO.tup [enV (w'.go i sc).at_,.ref c2,.int (w'.go i sc).rg.length]),(c2,.lst ((w'.go i sc).ss.map V.int))]) (l₂:=X)).trans (px.append_right _)
    ·refine⟨_,U,_,_,U,U,?_⟩
     exact⟨U,h2⟩
  ·have c:=of_decide_eq_false c
   have e:m.toNat=i:=by omega
   exact fin M1 hh hl ht px h1 (by rw[e]) (by rw[e])
end
theorem sK {s s':Sd} (h:w.nx s=some s'):s'.rg.take s.rg.length=s.rg:=by
 obtain⟨z,k,o,z',_,_,_,_,rfl⟩:=c7 h
 unfold bd
 dsimp only
 split
 ·rw[List.take_left]
 ·exact List.take_length
theorem kC (w:Wd):∀ (n:Nat) (s:Sd),s.rg.length<=(w.go n s).rg.length
 | 0,_=>Nat.le_refl _
 | n+1,s=>by
  cases hx:w.nx s with
  | none=>rw[bV w hx]; exact Nat.le_refl _
  | some s'=>
   rw[bD w hx]
   refine Nat.le_trans ?_ (kC w n s')
   have:=congrArg List.length (sK hx)
   rw[wV] at this
   omega
theorem pK (ms:List (Addr×Addr×Sd)) (b c:Addr) (s:Sd):mtK (ms++[(b,c,s)])=mtK ms++[(b,HO.tup [enV s.at_,.ref c,.int s.rg.length]),(c,.lst (s.ss.map V.int))]:=by
 unfold mtK
 rw[List.flatMap_append]
 rfl
variable{ms:List (Addr×Addr×Sd)}{s0:Sd}
theorem ms_at {n:Nat} (hm:ms.map (·.2.2)=w.hist n s0) (hl:(w.hist n s0).length=n) {j:Nat} (hj:j<n):∃ b c,ms.take (j+1)=ms.take j++[(b,c,w.go j s0)]/\w.nx (w.go j s0)=some (w.go (j+1) s0):=by
 obtain⟨t1,t2⟩:=cj w hl (show j+1<=n by omega)
 obtain⟨t3,t4⟩:=cj w hl (show j<=n by omega)
 obtain⟨g1,g2⟩:=jn w t1
 have lm:ms.length=n:=by rw[<- hl,<- hm,wF]
 obtain⟨⟨b,c,s⟩,hx⟩:∃ x,ms[j]?=some x:=⟨_,wH (by omega)⟩
 have e1:(w.hist n s0)[j]?=some s:=by rw[<- hm,wM,hx]; rfl
 have e2:(w.hist n s0)[j]?=some (w.go j s0):=by
  have:(w.hist (j+1) s0)[j]?=some (w.go j s0):=by
   rw[g2,wR (by omega),t3,Nat.sub_self]
   rfl
  rw[t2,List.getElem?_take_of_lt (by omega)] at this
  exact this
 rw[e1] at e2
 injection e2 with e2
 refine⟨b,c,?_,g1⟩
 rw[List.take_add_one,hx,<- e2]
 rfl
inductive sp_lback (C:Addr) (vs:List V) (H:Hp) (Q:VK) (E_:XK):Prop
 | mk (A:YA) (B:MA) (w:Wd) (s0:Sd) (ts:List (Addr×Sd)) (ms:List (Addr×Addr×Sd)) (y:YR) (q:MR) (L:Kn) (m:Int) (_:vs=[.ref A.p,.ref B.m,.int m]) (_:Has H (hL C A B w ts ms y q L)) (_:St11 w s0 ts ms y q L) (_:ts.length<=500) (_:y.rung.length<=500) (_:y.sides.length<=500) (_:∀ H' B' ts' ms' y' q',B'.m=B.m->Has H' (hL C A B' w ts' ms' y' q' L)->St11 w s0 ts' ms' y' q' L->ts'.length<=ts.length->y'.rung.length<=y.rung.length->y'.sides.length=y.sides.length->y'.next=y.next->y'.kinds=y.kinds->y'.notes=y.notes->y'.rods=y.rods->y'.mates=y.mates->Q (.bl true) H'):sp_lback C vs H Q E_
section
variable {P:Program}{w:World}{K:PySem.W.Frag}{mg:Str->Option Value}{base:Heap}{t:Adr}
theorem scLb:FnScope ["_law_yard","_law_m","_law_most","_law_done","_law_at","_law_sides","_law_rung"] ["_law_yard","_law_m","_law_most"] (aj r8):={}
theorem pB (T:Txt K mg t):FnOk P w K mg base CX0 9 t.f_J81 t.d_J81 ["_law_yard","_law_m","_law_most"] (sp_lback t.c_Yard):=by
 refine T.F_J81.ok scLb (fun vs H Q E h=>?_) (fun cdv A outer s H vs Q E hr h=>?_)
 ·obtain⟨_,_,_,_,_,_,_,_,_,_,rfl,_⟩:=h
  rfl
 ·obtain⟨Y,B,w',s0,ts,ms,y,q0,L,m,rfl,hH,S,l1,l2,l3,q⟩:=h
  have hu:=bi hr
  refine⟨_,(ae (ax (i:=3) scLb.nd rfl (Or.inl rfl) ai)
   (ae (cV PassesOwn.never (PW.pt (bM (ak cG (pv 3) (pv 2) (am _)) (bq (ak fO (ay aL (by rfl) T.z_len (by rfl) (aa (aB (aq hu (pv 1) ah)) af)) ai (am _)))))
    (ae (cD (k7 PySem.F.plainAttrs_list PySem.F.slot_list_pop PySem.F.type_list_pop la (aB (aq hu (pv 1) ah))) (dC rfl (aU (aI (i:=4) scLb.nd rfl (Or.inl rfl)) (aU (aI (i:=5) scLb.nd rfl (Or.inl rfl)) (aU (aI (i:=6) scLb.nd rfl (Or.inl rfl)) cL)))))
     (ae (aJ hu (pv 1) ah (pv 4) rfl)
     (ae (aJ hu (pv 1) ah (pv 5) rfl)
     (ae (aJ hu (pv 1) ah (hZ jA (aB (aq hu (pv 1) ah)) jF (jE (pv 6))) rfl)
     (ag (ax (i:=3) scLb.nd rfl (Or.inl rfl) (aC ba (pv 3) ai))))))))
   (ag (ap (pcl (fR T) hr T.m_is T.F_is.kp (jZ T) (aa (pcl (qU T) hr T.m_back T.F_back.kp (va T) (aa (pv 0) (aa (pv 2) af))) (aa (pv 3) af))))))),?_⟩
  rw[show L2.start ["_law_yard","_law_m","_law_most","_law_done","_law_at","_law_sides","_law_rung"] [V.ref Y.p,V.ref B.m,V.int m]=([some (V.ref Y.p),some (V.ref B.m),some (V.int m),none,none,none,none]:St) from rfl]
  have lts:(w'.hist ts.length s0).length=ts.length:=by rw[<- S.his,wF]
  have lms:ms.length=ts.length:=by rw[<- lts,<- S.hms,wF]
  obtain⟨n,en⟩:∃ n,ts.length=n:=⟨_,U⟩
  have hms:=S.hms
  rw[en] at lts lms l1 hms
  obtain⟨R1,eR1⟩:∃ X:Kn,yL t.c_Yard Y y++(trK w' ts++L)=X:=⟨_,U⟩
  have h0:Has H (mL B y q0++(mtK ms++R1)):=by rw[<- eR1]; exact hH
  show jx _ _ _ _ _
  have fin:∀ {H1:Hp}{j:Nat}{a1 a2:Addr}{q':MR}{o4 o5 o6:Option V},j<=n->((n:Int) - j=max 0 (min m n))->MQ q' (w'.go j s0)->q'.tr=mtV (ms.take j)->Has H1 (mL { B with s:=a1,g:=a2 } y q'++(mtK (ms.take j)++R1)) ->
    qB (g8 ot [] E0 (cJ (g8 (sp_back t.c_Yard) [] E0 (cJ (dg 0) (cJ (dg 2) fL))) (cJ (dg 3) fL))) { nx:=fun x H'=>Q V.non H',rt:=Q } [some (.ref Y.p),some (.ref B.m),some (.int m),some (.int ((n:Int) - j)),o4,o5,o6] H1:=by
   intro H1 j a1 a2 q' o4 o5 o6 hj hmj M1 ht h1
   obtain⟨B1,eB1⟩:∃ B1:MA,{ B with s:=a1,g:=a2 }=B1:=⟨_,U⟩
   have eBm:B1.m=B.m:=by rw[<- eB1]
   rw[eB1] at h1
   have h2:Has H1 (yL t.c_Yard Y y++(trK w' ts++(mL B1 y q'++(mtK (ms.take j)++L)))):=by
    rw[<- eR1] at h1
    have h3:=Has.comm (X:=mL B1 y q'++mtK (ms.take j)) (Y:=yL t.c_Yard Y y++trK w' ts) (R:=L) (by simpa only [wG] using h1)
    simpa only [wG] using h3
   obtain⟨L2,eL2⟩:∃ L2:Kn,mL B1 y q'++(mtK (ms.take j)++L)=L2:=⟨_,U⟩
   rw[eL2] at h2
   have inL2:∀ z ∈ L,z ∈ L2:=fun z hz=>by rw[<- eL2]; exact wD _ (wD _ hz)
   have pool2:Pool w' s0 L2:=⟨fun n e z hz=>List.getElem?_of_mem (inL2 _ (S.pm n e z hz)),fun z hz=>List.getElem?_of_mem (inL2 _ (S.pe z hz))⟩
   refine⟨_,U,_,U,Y,y,L2,w',s0,ts,m,U,h2,S.ok,S.rep,pool2,S.ytr,S.his,by omega,fun H3 y' j2 ej h3 R3 e1 e2 e3 e4 e5 e6 e7=>?_⟩
   rw[en] at ej
   obtain rfl:j2=j:=by omega
   refine⟨_,U,_,(n:Int) - j2,U,?_⟩
   rw[en,<- hmj,decide_eq_true rfl]
   have em:mL B1 y' q'=mL B1 y q':=by unfold mL; rw[e3,e4,e5,e6,e7]
   have lt:(ts.take j2).length=j2:=by rw[wV]; omega
   refine q H3 B1 (ts.take j2) (ms.take j2) y' q' eBm ?_ ⟨S.ok,by rw[lt]; exact R3,by rw[lt]; exact M1,by rw[lt]; exact e2,?_,e1,ht,S.pm,S.pe⟩ (by rw[lt,en]; exact hj) ?_ ?_ e3 e4 e5 e6 e7
   ·rw[<- eL2] at h3
    have h4:=Has.comm (X:=yL t.c_Yard Y y'++trK w' (ts.take j2)) (Y:=mL B1 y q'++mtK (ms.take j2)) (R:=L) (by simpa only [wG] using h3)
    unfold hL
    rw[em]
    simpa only [wG] using h4
   ·rw[lt,List.map_take,hms,(cj w' lts hj).2]
   ·have r1:=S.rep.rg
    rw[en] at r1
    rw[R3.rg,r1,wF,wF]
    have ga:=(gE w' j2 (n - j2) s0 (cj w' lts hj).1).1
    rw[Nat.add_sub_cancel' hj] at ga
    rw[ga]
    exact kC w' _ _
   ·have r1:=S.rep.sd
    rw[r1,R3.sd,wF,wF,gD,gD]
  refine⟨fun k σ H'=>∃ (j:Nat) (a1 a2:Addr) (q':MR) (o4 o5 o6:Option V),k=j/\σ=[some (.ref Y.p),some (.ref B.m),some (.int m),some (.int ((n:Int) - j)),o4,o5,o6]/\j<=n/\((n:Int) - j<=m∨j=n)/\MQ q' (w'.go j s0)/\q'.tr=mtV (ms.take j)/\Has H' (mL { B with s:=a1,g:=a2 } y q'++(mtK (ms.take j)++R1)),⟨_,n,B.s,B.g,q0,none,none,none,U,by rw[Int.sub_self]; rfl,Nat.le_refl _,.inr rfl,(by rw[<- en]; exact S.mq),(by rw[List.take_of_length_le (by omega)]; exact S.qtr),(by rw[List.take_of_length_le (by omega)]; exact h0)⟩,?_⟩
  rintro k σ H1 ⟨j,a1,a2,q',o4,o5,o6,rfl,rfl,hj,hi,M1,ht,h1⟩
  have ltr:q'.tr.length=k:=by rw[ht]; unfold mtV; rw[wF,wV]; omega
  refine⟨_,U,_,U,_,_,U,U,_,U,if2 (fun c=>?_) (fun c=>bL ?_)⟩
  ·have c:=of_decide_eq_true c
   refine⟨_,⟨_,U,mv (B:={ B with s:=a1,g:=a2 }) (h1.get 0 U)⟩,B.tr,_,U,.inl (SqL.of (h1.get 7 U)),_,_,U,U,_,U,if2 (fun c2=>?_) (fun c2=>?_)⟩
   ·have c2:=of_decide_eq_true c2
    obtain⟨j,rfl⟩:∃ j,k=j+1:=⟨k - 1,by omega⟩
    obtain⟨b,c3,et,hnx⟩:=ms_at hms lts (show j<n by omega)
    rw[et,pK] at h1
    have ha:=Has.comm (X:=mL { B with s:=a1,g:=a2 } y q'++mtK (ms.take j)) (Y:=[(b,HO.tup [enV (w'.go j s0).at_,.ref c3,.int (w'.go j s0).rg.length]),(c3,.lst ((w'.go j s0).ss.map V.int))]) (R:=R1) (by simpa only [wG] using h1)
    have etr:q'.tr=mtV (ms.take j)++[.ref b]:=by rw[ht,et]; unfold mtV; rw[wL]; rfl
    have elast:q'.tr[q'.tr.length - 1]?=some (.ref b):=by rw[etr,wK,wR (by simp),show(mtV (ms.take j)).length+[V.ref b].length - 1 - (mtV (ms.take j)).length=0 by simp]; rfl
    have edl:q'.tr.dropLast=mtV (ms.take j):=by rw[etr,List.dropLast_concat]
    have h2:=ha.puti 9 U (.lst q'.tr.dropLast)
    refine⟨fun σ' H'=>∃ a1 a2 q2 o4 o5 o6,σ'=[some (.ref Y.p),some (.ref B.m),some (.int m),some (.int ((n:Int) - j)),o4,o5,o6]/\MQ q2 (w'.go j s0)/\q2.tr=mtV (ms.take j)/\Has H' (mL { B with s:=a1,g:=a2 } y q2++(mtK (ms.take j)++R1)),fun σ' H' ⟨a1,a2,q2,o4,o5,o6,z1,z2,z3,z4⟩=>⟨j,by omega,j,a1,a2,q2,o4,o5,o6,U,z1,by omega,.inl (by omega),z2,z3,z4⟩,?_⟩
    refine⟨_,⟨_,U,mv (B:={ B with s:=a1,g:=a2 }) (ha.get 2 U)⟩,.inl ⟨U,_,SqL.of (ha.get 9 U)⟩,B.tr,_,_,U,U,ha.get 9 U,elast,b,_,U,SqT.of (h2.get 0 U),U,_,_,U,_,_,U,_,_,U,U,?_⟩
    have h3:=h2.puti 2 U (.dK (mfl { B with s:=a1,g:=a2 } (enV (w'.go j s0).at_) y.next))
    refine⟨_,U,_,U,B.m,_,U,kt (B:={ B with s:=a1,g:=a2 }) (h2.get 2 U) _,?_⟩
    have h4:=h3.puti 2 U (.dK (mfl { B with s:=c3,g:=a2 } (enV (w'.go j s0).at_) y.next))
    refine⟨_,U,_,U,B.m,_,U,wc (B:={ B with s:=a1,g:=a2 }) (h3.get 2 U) c3,?_⟩
    refine⟨_,⟨_,U,pL (B:={ B with s:=c3,g:=a2 }) (h4.get 2 U)⟩,_,U,_,U,a2,_,U,SqL.of (h4.get 8 U),fun g2 hg2=>?_⟩
    have h5:=h4.alloc hg2 (.lst (f7 q'.rung none (some ((w'.go j s0).rg.length:Int))))
    have h6:=h5.puti 3 U (.dK (mfl { B with s:=c3,g:=g2 } (enV (w'.go j s0).at_) y.next))
    refine⟨_,U,B.m,_,U,wd (B:={ B with s:=c3,g:=a2 }) (h5.get 3 U) g2,?_⟩
    refine⟨_,U,_,_,U,U,?_⟩
    have ecut:f7 q'.rung none (some ((w'.go j s0).rg.length:Int))=(w'.go j s0).rg.map V.int:=by
     rw[eU _ _ (Int.natCast_nonneg _),Int.toNat_natCast,M1.rg,<- List.map_take,sK hnx]
    rw[edl,ecut] at h6
    have p1:=cF h6 10 rfl
    have p2:=cF p1 1 rfl
    have p3:=cF p2 9 rfl
    have p4:=cF p3 4 rfl
    have p5:=cF p4 8 rfl
    have p6:=cF p5 8 rfl
    have p7:=cF p6 8 rfl
    have p8:=cF p7 8 rfl
    rw[edl,ecut]
    refine⟨c3,g2,⟨(w'.go j s0).ss.map V.int,enV (w'.go j s0).at_,(w'.go j s0).rg.map V.int,mtV (ms.take j)⟩,some (enV (w'.go j s0).at_),some (.ref c3),some (.int (w'.go j s0).rg.length),?_,⟨U,U,U⟩,U,?_⟩
    ·show [some (V.ref Y.p),some (V.ref B.m),some (V.int m),some (V.int ((n:Int) - ((j+1:Nat):Int)+1)),some (enV (w'.go j s0).at_),some (V.ref c3),some (V.int ((w'.go j s0).rg.length:Int))]=_
     rw[show(n:Int) - ((j+1:Nat):Int)+1=n - j by omega]
    ·exact(Has.comm (X:=mL { B with s:=c3,g:=g2 } y ⟨(w'.go j s0).ss.map V.int,enV (w'.go j s0).at_,(w'.go j s0).rg.map V.int,mtV (ms.take j)⟩) (Y:=[(b,HO.tup [enV (w'.go j s0).at_,.ref c3,.int (w'.go j s0).rg.length]),(a1,.lst q'.sides),(a2,.lst q'.rung)]) (R:=mtK (ms.take j)++R1) p8).tail.tail.tail
   ·have c2:=of_decide_eq_false c2
    exact fin hj (by omega) M1 ht h1
  ·have c:=of_decide_eq_false c
   exact fin hj (by omega) M1 ht h1
end
inductive sp_loff (C:Addr) (vs:List V) (H:Hp) (Q:VK) (E_:XK):Prop
 | mk (A:YA) (B:MA) (w:Wd) (s0:Sd) (ts:List (Addr×Sd)) (ms:List (Addr×Addr×Sd)) (y:YR) (q:MR) (L:Kn) (_:vs=[.ref A.p,.ref B.m]) (_:Has H (hL C A B w ts ms y q L)) (_:St11 w s0 ts ms y q L) (_:∀ H' A' B' s' q',A'.p=A.p->B'.m=B.m->Has H' (hL C A' B' w [] [] { y with eng:=.non,trail:=[] } q' L)->St11 w s' [] [] { y with eng:=.non,trail:=[] } q' L->Q (.bl true) H'):sp_loff C vs H Q E_
variable{ts:List (Addr×Sd)}{q:MR}
section
variable {P:Program}{w:World}{K:PySem.W.Frag}{mg:Str->Option Value}{base:Heap}{t:Adr}
theorem St11.cut {w:Wd}{y y':YR} (S:St11 w s0 ts ms y q L) {s':Sd}{q':MR} (R:Rep w s' y') (M:MQ q' s') (h1:y'.trail=[]) (h2:q'.tr=[]) (pe:∀ z,s'.at_=some z->(z.1,HO.tup [.int z.2.1,.int z.2.2]) ∈ L):St11 w s' [] [] y' q' L :=
 ⟨R.okw,R,M,U,U,h1,h2,S.pm,pe⟩
theorem lc {a0 a1 a2 a3 a4 a5 a6 a7 z:Addr×HO}{M Yl Tr L:Kn} (h:Has H (z::a0::a1::a2::a3::a4::a5::a6::a7::(M++(Yl++(Tr++L))))):Has H ([a0,a1,a2,a3,a4,a5,a6,z]++(Yl++L)):=by
 have s1:List.Sublist (Yl++L) (a7::(M++(Yl++(Tr++L)))):=.cons _ (((List.append_sublist_append_left Yl).mpr (List.sublist_append_right Tr L)).trans (List.sublist_append_right M _))
 have h2:=h.sub (.cons_cons z (.cons_cons a0 (.cons_cons a1 (.cons_cons a2 (.cons_cons a3 (.cons_cons a4 (.cons_cons a5 (.cons_cons a6 s1))))))))
 exact h2.perm (List.perm_middle (l₁:=[a0,a1,a2,a3,a4,a5,a6])).symm
theorem scLo:FnScope ["_law_yard","_law_m"] ["_law_yard","_law_m"] (aj rW):={}
theorem t7 (T:Txt K mg t):FnOk P w K mg base CX0 4 t.f_off t.d_off ["_law_yard","_law_m"] (sp_loff t.c_Yard):=by
 refine T.F_off.ok scLo (fun vs H Q E h=>?_) (fun cdv A outer s H vs Q E hr h=>?_)
 ·obtain⟨_,_,_,_,_,_,_,_,_,rfl,_⟩:=h
  rfl
 ·obtain⟨Y,B,w',s0,ts,ms,y,q0,L,rfl,hH,S,q⟩:=h
  have hu:=bi hr
  refine⟨_,(ae (aJ hu (pv 1) ah aK rfl)
   (ae (aJ hu (pv 1) ah (aN af) rfl)
   (ag (ap (bC cm (aO (pv 0) T.cl_Yard T.M_J01 (ue T) hr (b_J01 T) .nil aM) aK (am _)))))),?_⟩
  rw[show L2.start ["_law_yard","_law_m"] [V.ref Y.p,V.ref B.m]=([some (V.ref Y.p),some (V.ref B.m)]:St) from rfl]
  have h1:=hH.puti 0 U (.dK (mfl B .non y.next))
  refine⟨_,U,B.m,_,U,kt (hH.get 0 U) _,?_⟩
  refine⟨(sz_ 0),fun g hg=>?_⟩
  have h2:=h1.alloc hg (.lst [])
  have h3:=h2.puti 1 U (.dK (mfl { B with tr:=g } .non y.next))
  refine⟨_,U,B.m,_,U,iw (h2.get 1 U) g,?_⟩
  have h4:Has _ (mL { B with tr:=g } y ⟨q0.sides,.non,q0.rung,[]⟩++(yL t.c_Yard Y y++L)):=lc (Tr:=trK w' ts) (M:=mtK ms) (a7:=(B.tr,.lst q0.tr)) h3
  have h5:=Has.comm (X:=mL { B with tr:=g } y ⟨q0.sides,.non,q0.rung,[]⟩) (Y:=yL t.c_Yard Y y) (R:=L) h4
  refine⟨_,U,Y.p,Y.dx,_,U,h5.get 1 U,(dm _ _ _).2.1,Y,y,_,U,h5,fun H6 q6 h6=>⟨U,?_⟩⟩
  have h7:=Has.comm (X:=yL t.c_Yard { Y with tr:=q6 } { y with eng:=.non,trail:=[] }) (Y:=mL { B with tr:=g } { y with eng:=.non,trail:=[] } ⟨q0.sides,.non,q0.rung,[]⟩) (R:=L) h6
  refine q H6 { Y with tr:=q6 } { B with tr:=g } { w'.go ts.length s0 with at_:=none } ⟨q0.sides,.non,q0.rung,[]⟩ rfl rfl h7 (S.cut ?_ ⟨S.mq.sd,U,S.mq.rg⟩ rfl rfl (fun z h=>by cases h))
  have R:=S.rep
  exact⟨R.kd,R.no,R.ro,R.rr,R.sd,R.s12,R.mt,R.mo,U,fun z h=>(by cases h),R.rg⟩
end
def qPt:Str:=("_law_put" : Str)++Str.ofString ".<locals>." ++ "<lambda>"
inductive sp_lput (C Pt:Addr) (vs:List V) (H:Hp) (Q:VK) (E_:XK):Prop
 | mk (A:YA) (B:MA) (w:Wd) (s0:Sd) (ts:List (Addr×Sd)) (ms:List (Addr×Addr×Sd)) (y:YR) (q:MR) (L:Kn) (b:Addr) (n e:Int) (_:vs=[.ref A.p,.ref B.m,.ref b]) (_:Has H (hL C A B w ts ms y q L)) (_:St11 w s0 ts ms y q L) (_:KfOk y w.kf) (_:(b,HO.tup [.int n,.int e]) ∈ L) (_:Tb L Pt qPt) (_:-100000<=n) (_:n<=100000) (_:-100<=e) (_:e<=100) (_:∀ H' A' B' s0' ts' ms' y' q' L',A'.p=A.p->B'.m=B.m->Has H' (hL C A' B' w ts' ms' y' q' L')->St11 w s0' ts' ms' y' q' L'->Tb L' Pt qPt->(∀ z ∈ L,z.1≠Pt->z ∈ L')->ts'.length<=ts.length->y'.rung=y.rung->y'.sides=y.sides->y'.next=y.next->y'.kinds=y.kinds->y'.notes=y.notes->y'.rods=y.rods->y'.mates=y.mates->Q (.bl true) H'):sp_lput C Pt vs H Q E_
def cN (t:Adr) (i:Nat):Addr:=if i=1 then t.c_NoEnd else if i=2 then t.c_NoSide else if i=3 then t.c_NoNote else if i=4 then t.c_NoPiece else if i=5 then t.c_NoRod else if i=8 then t.c_SameEnd else if i=9 then t.c_Linked else if i=10 then t.c_NotLinked else t.c_Occupied
def okN (i:Nat):Prop:=i=1∨i=2∨i=3∨i=4∨i=5∨i=8∨i=9∨i=10∨i=11
theorem okN.lt {i:Nat} (h:okN i):i<22:=by unfold okN at h; omega
theorem xN {mg:Str->Option Value}{t:Adr} (T:Txt K mg t) {i:Nat} (h:okN i):bw K (cN t i) t.c_RailError (eT t i)=true:=by
 rcases h with rfl | rfl | rfl | rfl | rfl | rfl | rfl | rfl | rfl
 ·exact T.x_NoEnd
 ·exact T.x_NoSide
 ·exact T.x_NoNote
 ·exact T.x_NoPiece
 ·exact T.x_NoRod
 ·exact T.x_SameEnd
 ·exact T.x_Linked
 ·exact T.x_NotLinked
 ·exact T.x_Occupied
theorem nN {α:Type}{o:Option α} (h:(!o.isNone)=true):∃ i,o=some i:=by
 cases o with
 | none=>cases h
 | some i=>exact⟨i,U⟩
theorem nO {α:Type}{o:Option α} (h:(!o.isNone)=false):o=none:=by
 cases o with
 | none=>rfl
 | some i=>cases h
theorem i9 {mg:Str->Option Value}{t:Adr} (T:Txt K mg t) {Z L:Kn}{Pt l1:Addr}{qual:Str}{lpos:Pos}{js:List Nat}{tb:XK->TE}{σ:St}{Q:VK}{i:Nat} (hi:okN i) (h:Has H ((l1,HO.lst ((bA (some i)).map V.str))::(Z++L))) (Tt:Tb L Pt qual)
  (hd:∀ H1 W Q1 E1,Has H1 ((l1,HO.lst ((bA (some i)).map V.str))::(Z++W))->(∀ z ∈ L,NT z->z ∈ W)->(∀ H2 G a,Has H2 (G++((l1,HO.lst ((bA (some i)).map V.str))::(Z++W)))->E1 (.ref (cN t i)) (some a) H2)->tb E1 (js.map fun j=>(σ[j]?).join) H1 Q1)
  (k:∀ H' L' r,Has H' (Z++L')->Tb L' Pt qual->(∀ z ∈ L,z.1≠Pt->z ∈ L')->(∀ z ∈ L,NT z->z ∈ L')->(∀ R:VK,R (.bl true) H'->oW K false (.ref r) (.ref l1) H' R)->Q (.ref r) H'):tz Pt qual lpos js (sq K t) tb σ H Q:=by
 have hoi:∀ j,(some i:Option Nat)=some j->j<22:=fun j e=>by cases e; exact hi.lt
 refine tS (Z:=(l1,HO.lst ((bA (some i)).map V.str))::Z) h Tt (fun H3 L3 s3 tb3 kp3=>?_)
 have up:∀ z ∈ L,NT z->z ∈ L3:=fun z hz nt=>kp3 z hz (Tb.ne (Z:=(l1,HO.lst ((bA (some i)).map V.str))::Z) Tt h hz nt)
 refine⟨((l1,HO.lst ((bA (some i)).map V.str))::Z)++L3,[],fun _ _=>False,fun i' N=>i'=i/\∃ G,N=G++(((l1,HO.lst ((bA (some i)).map V.str))::Z)++L3),by rw[wU]; exact s3,fun H1' L1' Q1 E1 s1' _ hX=>?_,fun _ _ _ _ z=>z.elim,?_⟩
 ·refine hd H1' (L3++L1') Q1 E1 (bu s1' (by simp)) (fun z hz nt=>wY _ (up z hz nt)) (fun H2 G a h2=>?_)
  exact hX (cN t i) a i (G++(((l1,HO.lst ((bA (some i)).map V.str))::Z)++L3)) H2 ⟨U,G,U⟩ hi.lt (xN T hi) (bu h2 (by simp))
 ·rintro i' N r H2 ⟨rfl,G,rfl⟩ _ s2
  rw[wU] at s2
  have s4:=sS (Has.comm (X:=[(r,HO.lst [.str (gu i')])]) (Y:=G) (R:=((l1,HO.lst ((bA (some i')).map V.str))::Z)++L3) s2)
  refine k H2 L3 r s4.tail.tail tb3 kp3 up (fun R hR=>⟨dt (bA (some i')),dt (bA (some i')),dJ (s4.get 0 U),dJ (s4.get 1 U),jo _ hoi,jo _ hoi,?_⟩)
  rw[if_neg Bool.false_ne_true,uT _ (qe _ hoi)]
  exact hR
variable{kf:Int->Option Kd}
theorem mH {n e:Int}{i:Nat} (h:ci kf n e=some i):okN i:=by
 unfold ci at h
 split at h
 ·cases h; exact .inr (.inr (.inr (.inl rfl)))
 ·split at h
  ·cases h; exact .inl rfl
  ·cases h
theorem df {y:YR}{n e:Int} (hk:KfOk y kf) (hn:ci kf n e=none):eF y n e/\∃ k,kf n=some k/\0<=e/\e<k.many:=by
 unfold ci at hn
 cases h9:kf n with
 | none=>rw[h9] at hn; cases hn
 | some k=>
  rw[h9] at hn
  dsimp only at hn
  by_cases z:e<0∨k.many<=e
  ·rw[if_pos z] at hn; cases hn
  ·exact⟨⟨k,by rw[hk n,h9]; rfl,by omega,by omega⟩,k,U,by omega,by omega⟩
theorem d0 {y:YR}{n e:Int}{i:Nat}{X:XK}{Pa Ea:Addr} (hk:KfOk y kf) (hi:ci kf n e=some i) (sn:L2.Small n) (se:L2.Small e) (h4:i=4->∀ a,X (.ref Pa) (some a) H) (h1:i=1->∀ a,X (.ref Ea) (some a) H):gc Pa Ea y n e X H:=by
 unfold ci at hi
 cases h9:kf n with
 | none=>
  rw[h9] at hi
  cases hi
  exact .inl ⟨by rw[hk n,h9]; rfl,sn,h4 rfl⟩
 | some k=>
  rw[h9] at hi
  dsimp only at hi
  by_cases z:e<0∨k.many<=e
  ·rw[if_pos z] at hi
   cases hi
   exact .inr ⟨k,by rw[hk n,h9]; rfl,z,se,h1 rfl⟩
  ·rw[if_neg z] at hi; cases hi
section
variable {P:Program}{w:World}{K:PySem.W.Frag}{mg:Str->Option Value}{base:Heap}{t:Adr}
theorem nS {K:PySem.W.Frag}{H':Hp}{l:Addr}{o:Option Nat}{X:Kn}{R:VK} (ho:∀ i,o=some i->i<22) (h:Has H' ((l,.lst ((bA o).map V.str))::X)) (r:∀ H2,Has H2 ((l,.lst ((bA o).map V.str))::X)->R (.bl (!o.isNone)) H2) :
  (0:Nat)<=sizeLine/\∀ p,H' p=none->oW K true (.ref l) (.ref p) (upd H' p (.lst [])) R:=⟨(sz_ 0),fun p hp=>by
 have h2:=h.alloc hp (.lst [])
 refine⟨dt (bA o),dt (bA none),dJ (h2.get 1 U),dJ (h2.get 0 U),jo _ ho,jo _ sL,?_⟩
 rw[if_pos rfl,mG]
 exact r _ h2.tail⟩
theorem St11.mono {w:Wd}{y:YR}{L L':Kn} (S:St11 w s0 ts ms y q L) (up:∀ z ∈ L,NT z->z ∈ L'):St11 w s0 ts ms y q L' :=
 ⟨S.ok,S.rep,S.mq,S.his,S.hms,S.ytr,S.qtr,fun n e z hz=>up _ (S.pm n e z hz) (fun _ h=>by cases h),fun z hz=>up _ (S.pe z hz) (fun _ h=>by cases h)⟩
theorem scLpu:FnScope ["_law_yard","_law_m","_law_end","_law_due_here"] ["_law_yard","_law_m","_law_end"] (aj oI):={}
theorem qW (T:Txt K mg t) (kb:K.In base) (hbm:BM base mg):FnOk P w K mg base CX0 11 t.f_put t.d_put ["_law_yard","_law_m","_law_end"] (sp_lput t.c_Yard t.p_put):=by
 refine T.F_put.okC scLpu (fun vs H Q E h=>?_) (fun cdv A outer s H vs Q E hcdv hr h=>?_)
 ·obtain⟨_,_,_,_,_,_,_,_,_,_,_,_,rfl,_⟩:=h
  rfl
 ·obtain⟨Y,B,w',s0,ts,ms,y,q0,L,b,n,e,rfl,hH,S,hk,mb,tb,n0,n1,e0,e1,q⟩:=h
  have hu:=bi hr
  obtain⟨cc,ecd,hch⟩:=T.tb_put
  have ecdv:cdv=.ref cc:=hcdv.symm.trans ecd
  subst ecdv
  have hCH:PySem.W.CodeHd base cc t.p_put:=PySem.W.codeHd_of_K kb hch
  have sm:∀ b:Int,b.natAbs<=1000000->L2.Small b:=fun b hb=>dh (Nat.lt_of_le_of_lt hb (by decide))
  refine⟨_,(ae (ax (i:=3) scLpu.nd rfl (Or.inl rfl) (pcl (jJ T) hr T.m_J21 T.F_J21.kp (mT T) (aa (pv 1) (aa (pv 2) af))))
   (ae (au (ak (eN hr.units) (pv 3) (aN af) (am _))
    (ag (ap (bC (dE hr.units) (c9 (kd:=7) (N':=["_law_end","_law_yard"]) [2,0] (gq T) (hr.mono (by decide)) (by rfl) T.m_J11 T.F_J11.kp rfl hCH hbm (fun _=>rfl) rfl rfl rfl rfl rfl (by decide +kernel) (esc:=aj oI) rfl (by decide +kernel) (by decide +kernel) (by rfl) (fun _ _ _ _ _=>rfl) (fun _ _ _ _ _ _ _ _ hr1=>by exact(aH (pv 1) T.cl_Yard T.M_Jy (uf T) hr1 (wl T) .nil jd (aa (pv 0) af)))) (pv 3) (am _))))
    al)
   (ae (aJ hu (pv 1) ah (pv 2) rfl)
   (ae (aJ hu (pv 1) ah (aN af) rfl)
   (ag (ap (bC cm (aH (pv 0) T.cl_Yard T.M_Jy (ok_Jy T) hr (wl T) .nil aM (aa (pv 2) af)) aK (am _)))))))),?_⟩
  rw[show L2.start ["_law_yard","_law_m","_law_end","_law_due_here"] [V.ref Y.p,V.ref B.m,V.ref b]=([some (V.ref Y.p),some (V.ref B.m),some (V.ref b),none]:St) from rfl]
  refine⟨_,U,_,U,B,y,q0,b,n,e,w'.kf,_,U,hH,wD _ (wD _ (wD _ mb)),hk,fun H1 l1 h1=>?_⟩
  dsimp only[List.set]
  have b1:∀ i,ci w'.kf n e=some i->i<22:=fD _ _ _
  refine⟨_,U,nS b1 h1 (fun H2 h2=>⟨_,U,if2 (fun c=>?_) (fun c=>?_)⟩)⟩
  ·obtain⟨i,hi⟩:=nN c
   rw[hi] at h2
   refine i9 T (mH hi) (Z:=mL B y q0++(mtK ms++(yL t.c_Yard Y y++trK w' ts))) (bu h2 (by simp)) tb (fun H1 W Q1 E1 g1 up hE=>?_) (fun H3 L3 r g3 tb3 kp3 up fin=>⟨_,U,fin _ (q _ Y B s0 ts ms y q0 L3 rfl rfl (bu g3 (by simp[hL])) (S.mono up) tb3 kp3 (Nat.le_refl _) rfl rfl rfl rfl rfl rfl rfl)⟩)
   have g2:=Has.comm (X:=(l1,HO.lst ((bA (some i)).map V.str))::(mL B y q0++mtK ms)) (Y:=yL t.c_Yard Y y) (R:=trK w' ts++W) (bu g1 (by simp))
   obtain⟨j,hj⟩:=List.getElem?_of_mem (wD ((l1,HO.lst ((bA (some i)).map V.str))::(mL B y q0++mtK ms)) (wD (trK w' ts) (up _ mb (fun _ h=>by cases h))))
   exact⟨_,U,Y.p,Y.dx,_,U,g2.get 1 U,(dm _ _ _).1,_,U,Y,y,_,b,n,e,j,U,g2,hj,d0 hk hi (sm n (by omega)) (sm e (by omega)) (fun z a=>by subst z; exact hE H1 [] a g1) (fun z a=>by subst z; exact hE H1 [] a g1)⟩
  ·have hn:=nO c
   have h3:=h2.tail
   have h4:=h3.puti 0 U (.dK (mfl B (.ref b) y.next))
   refine⟨_,U,_,U,B.m,_,U,kt (h3.get 0 U) _,?_⟩
   refine⟨(sz_ 0),fun g hg=>?_⟩
   have h5:=h4.alloc hg (.lst [])
   have h6:=h5.puti 1 U (.dK (mfl { B with tr:=g } (.ref b) y.next))
   refine⟨_,U,B.m,_,U,iw (h5.get 1 U) g,?_⟩
   have h7:Has _ (mL { B with tr:=g } y ⟨q0.sides,.ref b,q0.rung,[]⟩++(yL t.c_Yard Y y++L)):=lc (Tr:=trK w' ts) (M:=mtK ms) (a7:=(B.tr,.lst q0.tr)) h6
   have h8:=Has.comm (X:=mL { B with tr:=g } y ⟨q0.sides,.ref b,q0.rung,[]⟩) (Y:=yL t.c_Yard Y y) (R:=L) h7
   obtain⟨j,hj⟩:=List.getElem?_of_mem (wD (mL { B with tr:=g } y ⟨q0.sides,.ref b,q0.rung,[]⟩) mb)
   obtain⟨k,hkk,k0,k1⟩:∃ k,w'.kf n=some k/\0<=e/\e<k.many:=by
    unfold ci at hn
    cases h9:w'.kf n with
    | none=>rw[h9] at hn; cases hn
    | some k=>
     rw[h9] at hn
     dsimp only at hn
     by_cases z:e<0∨k.many<=e
     ·rw[if_pos z] at hn; cases hn
     ·exact⟨k,U,by omega,by omega⟩
   refine⟨_,U,Y.p,Y.dx,_,U,h8.get 1 U,(dm _ _ _).1,_,U,Y,y,_,b,n,e,j,U,h8,hj,⟨k,by rw[hk n,hkk]; rfl,k0,k1⟩,fun H9 q9 h9=>⟨U,?_⟩⟩
   have h10:=Has.comm (X:=yL t.c_Yard { Y with tr:=q9 } { y with eng:=.ref b,trail:=[] }) (Y:=mL { B with tr:=g } { y with eng:=.ref b,trail:=[] } ⟨q0.sides,.ref b,q0.rung,[]⟩) (R:=L) h9
   have R:=S.rep
   refine q H9 { Y with tr:=q9 } { B with tr:=g } { w'.go ts.length s0 with at_:=some (b,n,e) } [] [] { y with eng:=.ref b,trail:=[] } ⟨q0.sides,.ref b,q0.rung,[]⟩ L rfl rfl h10 (S.cut ?_ ⟨S.mq.sd,U,S.mq.rg⟩ rfl rfl (fun z h=>by cases h; exact mb)) tb (fun z hz _=>hz) (Nat.zero_le _) rfl rfl rfl rfl rfl rfl rfl
   exact⟨R.kd,R.no,R.ro,R.rr,R.sd,R.s12,R.mt,R.mo,U,fun z h=>by cases h; exact⟨k,hkk,k0,k1⟩,R.rg⟩
end
def qTh:Str:=("_law_throw" : Str)++Str.ofString ".<locals>." ++ "<lambda>"
def iW (side:Int):Option Nat:=if side<1∨2<side then some 2 else none
def g7 (len bar side:Int):Option Nat:=if len<=bar then some 5 else iW side
theorem tP (side:Int):∀ i,iW side=some i->i<22:=fun i h=>by
 unfold iW at h
 split at h
 ·cases h; decide
 ·cases h
theorem tdueN {len bar side:Int}{i:Nat} (h:g7 len bar side=some i):okN i:=by
 unfold g7 iW at h
 split at h
 ·cases h; exact .inr (.inr (.inr (.inr (.inl rfl))))
 ·split at h
  ·cases h; exact .inr (.inl rfl)
  ·cases h
theorem tu (len bar side:Int):∀ i,g7 len bar side=some i->i<22:=fun i h=>by
 unfold g7 at h
 split at h
 ·cases h; decide
 ·exact tP _ _ h
inductive sp_lthrow (C Pt:Addr) (vs:List V) (H:Hp) (Q:VK) (E_:XK):Prop
 | mk (A:YA) (B:MA) (w:Wd) (s0:Sd) (ts:List (Addr×Sd)) (ms:List (Addr×Addr×Sd)) (y:YR) (q:MR) (L:Kn) (r v:Int) (_:vs=[.ref A.p,.ref B.m,.int r,.int v]) (_:Has H (hL C A B w ts ms y q L)) (_:St11 w s0 ts ms y q L) (_:Tb L Pt qTh) (_:0<=r) (_:r<=100000) (_:0<=v) (_:v<=100) (_:∀ H' A' B' s0' ts' ms' y' q' L',A'.p=A.p->B'.m=B.m->Has H' (hL C A' B' w ts' ms' y' q' L')->St11 w s0' ts' ms' y' q' L'->Tb L' Pt qTh->(∀ z ∈ L,z.1≠Pt->z ∈ L')->ts'.length<=ts.length->y'.rung=y.rung->y'.sides.length=y.sides.length->y'.next=y.next->y'.kinds=y.kinds->y'.notes=y.notes->y'.rods=y.rods->y'.mates=y.mates->Q (.bl true) H'):sp_lthrow C Pt vs H Q E_
section
variable {P:Program}{w:World}{K:PySem.W.Frag}{mg:Str->Option Value}{base:Heap}{t:Adr}
theorem scLth:FnScope ["_law_yard","_law_m","_law_bar","_law_side","_law_due_here"] ["_law_yard","_law_m","_law_bar","_law_side"] (aj jB):={}
theorem ni (T:Txt K mg t) (kb:K.In base) (hbm:BM base mg):FnOk P w K mg base CX0 11 t.f_throw t.d_throw ["_law_yard","_law_m","_law_bar","_law_side"] (sp_lthrow t.c_Yard t.p_throw):=by
 refine T.F_throw.okC scLth (fun vs H Q E h=>?_) (fun cdv A outer s H vs Q E hcdv hr h=>?_)
 ·obtain⟨_,_,_,_,_,_,_,_,_,_,_,rfl,_⟩:=h
  rfl
 ·obtain⟨Y,B,w',s0,ts,ms,y,q0,L,r,v,rfl,hH,S,tb,r0,r1,v0,v1,q⟩:=h
  have hu:=bi hr
  obtain⟨cc,ecd,hch⟩:=T.tb_throw
  have ecdv:cdv=.ref cc:=hcdv.symm.trans ecd
  subst ecdv
  have hCH:PySem.W.CodeHd base cc t.p_throw:=PySem.W.codeHd_of_K kb hch
  have sm:∀ b:Int,b.natAbs<=1000000->L2.Small b:=fun b hb=>dh (Nat.lt_of_le_of_lt hb (by decide))
  have lq:q0.sides.length=y.sides.length:=by rw[S.mq.sd,S.rep.sd]
  refine⟨_,(ae (ax (i:=4) scLth.nd rfl (Or.inl rfl) (aN af))
   (ae (bo (au (PW.pt (cQ (ak cG (pv 3) ai (am _)) (ck (ak fO (pv 3) ai (am _)))))
    (ag (ax (i:=4) scLth.nd rfl (Or.inl rfl) (aN (aa ah af))))
    al))
   (ae (bo (au (ak ii (pv 2) (ay aL (by rfl) T.z_len (by rfl) (aa (aB (aq hu (pv 1) ah)) af)) (am _))
    (ag (ax (i:=4) scLth.nd rfl (Or.inl rfl) (aN (aa ah af))))
    al))
   (ae (bo (au (ak (eN hr.units) (pv 4) (aN af) (am _))
    (ag (ap (bC (dE hr.units) (c9 (kd:=7) (N':=["_law_bar","_law_side","_law_yard"]) [2,3,0] (gq T) (hr.mono (by decide)) (by rfl) T.m_J11 T.F_J11.kp rfl hCH hbm (fun _=>rfl) rfl rfl rfl rfl rfl (by decide +kernel) (esc:=aj jB) rfl (by decide +kernel) (by decide +kernel) (by rfl) (fun _ _ _ _ _=>rfl) (fun _ _ _ _ _ _ _ _ hr1=>by exact(aH (pv 2) T.cl_Yard T.M_Ji (um T) hr1 (wv T) .nil jd (aa (pv 0) (aa (pv 1) af))))) (pv 4) (am _))))
    al))
   (ae (cD (pv 3) (gl (aB (aq hu (pv 1) ah)) (pv 2) dN))
   (ae (aJ hu (pv 1) ah (aN af) rfl)
   (ag (ap (bC cm (aH (pv 0) T.cl_Yard T.M_Ji (ok_Ji T) hr (wv T) .nil aM (aa (pv 2) (aa (pv 3) af))) aK (am _)))))))))),?_⟩
  rw[show L2.start ["_law_yard","_law_m","_law_bar","_law_side","_law_due_here"] [V.ref Y.p,V.ref B.m,V.int r,V.int v]=([some (V.ref Y.p),some (V.ref B.m),some (V.int r),some (V.int v),none]:St) from rfl]
  refine⟨(sz_ 0),fun l0 hl0=>?_⟩
  have h1:=hH.alloc hl0 (.lst [])
  dsimp only[List.set]
  refine⟨fun σ' H'=>∃ l,σ'=[some (.ref Y.p),some (.ref B.m),some (.int r),some (.int v),some (.ref l)]/\Has H' ((l,.lst ((bA (iW v)).map V.str))::hL t.c_Yard Y B w' ts ms y q0 L),?_,?_⟩
  ·refine⟨_,U,_,_,U,U,_,U,if2 (fun c=>cP ?_) (fun c=>?_)⟩
   ·have c:=of_decide_eq_true c
    refine⟨(sz_ 1),fun l hl=>⟨l,U,?_⟩⟩
    unfold iW
    rw[if_pos (.inl c)]
    exact h1.tail.alloc hl _
   ·have c:=of_decide_eq_false c
    refine⟨_,U,_,_,U,U,_,U,if2 (fun c2=>?_) (fun c2=>?_)⟩
    ·have c2:=of_decide_eq_true c2
     refine⟨(sz_ 1),fun l hl=>⟨l,U,?_⟩⟩
     unfold iW
     rw[if_pos (.inr c2)]
     exact h1.tail.alloc hl _
    ·have c2:=of_decide_eq_false c2
     refine⟨l0,U,?_⟩
     unfold iW
     rw[if_neg (fun z=>z.elim c c2)]
     exact h1
  rintro _ H2 ⟨l2,rfl,h2⟩
  refine⟨fun σ' H'=>∃ l,σ'=[some (.ref Y.p),some (.ref B.m),some (.int r),some (.int v),some (.ref l)]/\Has H' ((l,.lst ((bA (g7 y.sides.length r v)).map V.str))::hL t.c_Yard Y B w' ts ms y q0 L),?_,?_⟩
  ·refine⟨_,U,_,⟨_,U,fS (h2.get 1 U)⟩,B.s,_,U,.inl (SqL.of (h2.get 5 U)),_,_,U,U,_,U,if2 (fun c=>?_) (fun c=>?_)⟩
   ·have c:=of_decide_eq_true c
    refine⟨(sz_ 1),fun l hl=>⟨l,U,?_⟩⟩
    unfold g7
    rw[if_pos (by rw[<- lq]; exact c)]
    exact h2.tail.alloc hl _
   ·have c:=of_decide_eq_false c
    refine⟨l2,U,?_⟩
    unfold g7
    rw[if_neg (by rw[<- lq]; exact c)]
    exact h2
  rintro _ H3 ⟨l1,rfl,h3⟩
  have b1:∀ i,g7 y.sides.length r v=some i->i<22:=tu _ _ _
  refine⟨fun σ' H'=>g7 y.sides.length r v=none/\σ'=[some (.ref Y.p),some (.ref B.m),some (.int r),some (.int v),some (.ref l1)]/\Has H' (hL t.c_Yard Y B w' ts ms y q0 L),?_,?_⟩
  ·refine⟨_,U,nS b1 h3 (fun H2 h2=>⟨_,U,if2 (fun c=>?_) (fun c=>?_)⟩)⟩
   ·obtain⟨i,hi⟩:=nN c
    rw[hi] at h2
    refine i9 T (tdueN hi) (Z:=mL B y q0++(mtK ms++(yL t.c_Yard Y y++trK w' ts))) (bu h2 (by simp[hL])) tb (fun H1 W Q1 E1 g1 up hE=>?_) (fun H3 L3 r' g3 tb3 kp3 up fin=>⟨_,U,fin _ (q _ Y B s0 ts ms y q0 L3 rfl rfl (bu g3 (by simp[hL])) (S.mono up) tb3 kp3 (Nat.le_refl _) rfl rfl rfl rfl rfl rfl rfl)⟩)
    have g2:=Has.comm (X:=(l1,HO.lst ((bA (some i)).map V.str))::(mL B y q0++mtK ms)) (Y:=yL t.c_Yard Y y) (R:=trK w' ts++W) (bu g1 (by simp))
    refine⟨_,U,Y.p,Y.dx,_,U,g2.get 1 U,(bY _ _ _).2.2.1,_,U,_,U,Y,y,_,r,v,U,g2,?_⟩
    unfold g7 at hi
    by_cases z:(y.sides.length:Int)<=r
    ·rw[if_pos z] at hi
     cases hi
     exact .inl ⟨.inr z,sm r (by omega),fun a=>hE H1 [] a g1⟩
    ·rw[if_neg z] at hi
     unfold iW at hi
     by_cases z2:v<1∨2<v
     ·rw[if_pos z2] at hi
      cases hi
      exact .inr ⟨r0,by omega,by omega,by omega,sm v (by omega),fun a=>hE H1 [] a g1⟩
     ·rw[if_neg z2] at hi; cases hi
   ·exact⟨nO c,U,h2.tail⟩
  rintro _ H4 ⟨hn,rfl,h4⟩
  have good:r<y.sides.length/\(v=1∨v=2):=by
   unfold g7 iW at hn
   by_cases z:(y.sides.length:Int)<=r
   ·rw[if_pos z] at hn; cases hn
   ·rw[if_neg z] at hn
    by_cases z2:v<1∨2<v
    ·rw[if_pos z2] at hn; cases hn
    ·omega
  have ej:ixN q0.sides.length r=some r.toNat:=by
   unfold ixN
   rw[if_pos r0,if_pos (by rw[lq]; exact good.1)]
  have h5:=h4.puti 4 U (.lst (q0.sides.set r.toNat (.int v)))
  refine⟨_,U,_,⟨_,U,fS (h4.get 0 U)⟩,_,U,B.s,_,_,_,U,U,h4.get 4 U,ej,?_⟩
  refine⟨(sz_ 0),fun g hg=>?_⟩
  have h6:=h5.alloc hg (.lst [])
  have h7:=h6.puti 1 U (.dK (mfl { B with tr:=g } q0.at_ y.next))
  refine⟨_,U,B.m,_,U,iw (h6.get 1 U) g,?_⟩
  have h8:Has _ (mL { B with tr:=g } y ⟨q0.sides.set r.toNat (.int v),q0.at_,q0.rung,[]⟩++(yL t.c_Yard Y y++L)):=lc (Tr:=trK w' ts) (M:=mtK ms) (a7:=(B.tr,.lst q0.tr)) h7
  have h9:=Has.comm (X:=mL { B with tr:=g } y ⟨q0.sides.set r.toNat (.int v),q0.at_,q0.rung,[]⟩) (Y:=yL t.c_Yard Y y) (R:=L) h8
  refine⟨_,U,Y.p,Y.dx,_,U,h9.get 1 U,(bY _ _ _).2.2.1,_,U,_,U,Y,y,_,r,v,U,h9,r0,good.1,good.2,fun H10 q10 h10=>⟨U,?_⟩⟩
  have h11:=Has.comm (X:=yL t.c_Yard { Y with tr:=q10 } { y with sides:=y.sides.set r.toNat (.int v),trail:=[] }) (Y:=mL { B with tr:=g } { y with sides:=y.sides.set r.toNat (.int v),trail:=[] } ⟨q0.sides.set r.toNat (.int v),q0.at_,q0.rung,[]⟩) (R:=L) h10
  have R:=S.rep
  have pl0:Pool w' s0 L:=⟨fun n e z hz=>List.getElem?_of_mem (S.pm n e z hz),fun z hz=>List.getElem?_of_mem (S.pe z hz)⟩
  refine q H10 { Y with tr:=q10 } { B with tr:=g } { w'.go ts.length s0 with ss:=(w'.go ts.length s0).ss.set r.toNat v } [] [] { y with sides:=y.sides.set r.toNat (.int v),trail:=[] } ⟨q0.sides.set r.toNat (.int v),q0.at_,q0.rung,[]⟩ L rfl rfl h11 (S.cut (R.throw r.toNat v good.2) ⟨?_,S.mq.at_,S.mq.rg⟩ rfl rfl (fun z h=>?_)) tb (fun z hz _=>hz) (Nat.zero_le _) rfl (by rw[List.length_set]) rfl rfl rfl rfl rfl
  ·show q0.sides.set r.toNat (.int v)=((w'.go ts.length s0).ss.set r.toNat v).map V.int
   rw[S.mq.sd,List.map_set]
  ·obtain⟨j,hj⟩:=(pl0.go ts.length).e z h
   exact wI hj
end
def qLk:Str:=("_law_link" : Str)++Str.ofString ".<locals>." ++ "<lambda>"
theorem tX {a b:Option Nat} (ha:∀ i,a=some i->okN i) (hb:∀ i,b=some i->okN i):∀ i,orD a b=some i->okN i:=by
 cases a with
 | none=>exact hb
 | some j=>exact ha
variable{mt:Int->Int->Bool}
theorem uC {n1 e1 n2 e2:Int}:∀ i,gL kf mt n1 e1 n2 e2=some i->okN i:=tX (tX (fun _=>mH) (fun _=>mH)) (fun i h=>by
 split at h
 ·cases h; exact .inr (.inr (.inr (.inr (.inr (.inl rfl)))))
 ·split at h
  ·cases h; exact .inr (.inr (.inr (.inr (.inr (.inr (.inl rfl))))))
  ·cases h)
theorem sw (a b c:Kn):(a++(b++c)).Perm (b++(a++c)):=by rw[<- wG,<- wG]; exact List.perm_append_comm.append_right _
theorem jb {κ:Type} [DecidableEq κ] {kvs:List (κ×V)}{j k:κ}{v:V} (h:k ∈ (aG kvs j v).map (·.1)):k ∈ kvs.map (·.1)∨k=j:=by
 obtain⟨p,hp,rfl⟩:=wX.mp h
 unfold aG at hp
 split at hp
 ·obtain⟨p',hp',e⟩:=wX.mp hp
  split at e
  ·rename_i c; rw[<- e]; exact .inr c
  ·rw[<- e]; exact .inl (wW hp')
 ·rcases xb.mp hp with hp | hp
  ·exact .inl (wW hp)
  ·cases xh.mp hp; exact .inr rfl
inductive sp_llink (C Pt:Addr) (vs:List V) (H:Hp) (Q:VK) (E_:XK):Prop
 | mk (A:YA) (B:MA) (w:Wd) (s0:Sd) (ts:List (Addr×Sd)) (ms:List (Addr×Addr×Sd)) (y:YR) (q:MR) (L:Kn) (b1 b2:Addr) (n1 e1 n2 e2:Int) (_:vs=[.ref A.p,.ref B.m,.ref b1,.ref b2]) (_:Has H (hL C A B w ts ms y q L)) (_:St11 w s0 ts ms y q L) (_:KfOk y w.kf) (_:(b1,HO.tup [.int n1,.int e1]) ∈ L) (_:(b2,HO.tup [.int n2,.int e2]) ∈ L) (_:Tb L Pt qLk) (_:(-100000<=n1/\n1<=100000/\-100<=e1/\e1<=100)) (_:(-100000<=n2/\n2<=100000/\-100<=e2/\e2<=100)) (_:y.mates.length<=20000) (_:∀ H' A' B' w1 s0' ts' ms' y' q' L',(w1=w∨w1=w.link (b1,n1,e1) (b2,n2,e2)/\¬ (n1=n2/\e1=e2)/\w.mf n1 e1=none/\w.mf n2 e2=none)->A'.p=A.p->B'.m=B.m->Has H' (hL C A' B' w1 ts' ms' y' q' L')->St11 w1 s0' ts' ms' y' q' L'->Tb L' Pt qLk->(∀ z ∈ L,z.1≠Pt->z ∈ L')->ts'.length<=ts.length->y'.rung=y.rung->y'.sides=y.sides->y'.next=y.next->y'.kinds=y.kinds->y'.notes=y.notes->y'.rods=y.rods->y'.mates.length<=y.mates.length+2->(∀ k ∈ y'.mates.map (·.1),k ∈ y.mates.map (·.1)∨k=kE n1 e1∨k=kE n2 e2)->Q (.bl true) H'):sp_llink C Pt vs H Q E_
section
variable {P:Program}{w:World}{K:PySem.W.Frag}{mg:Str->Option Value}{base:Heap}{t:Adr}
theorem scLlk:FnScope ["_law_yard","_law_m","_law_one","_law_other","_law_due_here"] ["_law_yard","_law_m","_law_one","_law_other"] (aj kZ):={}
theorem pE (T:Txt K mg t) (kb:K.In base) (hbm:BM base mg):FnOk P w K mg base CX0 12 t.f_link t.d_link ["_law_yard","_law_m","_law_one","_law_other"] (sp_llink t.c_Yard t.p_link):=by
 refine T.F_link.okC scLlk (fun vs H Q E h=>?_) (fun cdv A outer s H vs Q E hcdv hr h=>?_)
 ·obtain⟨_,_,_,_,_,_,_,_,_,_,_,_,_,_,_,rfl,_⟩:=h
  rfl
 ·obtain⟨Y,B,w',s0,ts,ms,y,q0,L,b1,b2,n1,e1,n2,e2,rfl,hH,S,hk,m1,m2,tb,k1,k2,lm,q⟩:=h
  have hu:=bi hr
  obtain⟨cc,ecd,hch⟩:=T.tb_link
  have ecdv:cdv=.ref cc:=hcdv.symm.trans ecd
  subst ecdv
  have hCH:PySem.W.CodeHd base cc t.p_link:=PySem.W.codeHd_of_K kb hch
  have sm:∀ b:Int,b.natAbs<=1000000->L2.Small b:=fun b hb=>dh (Nat.lt_of_le_of_lt hb (by decide))
  refine⟨_,(ae (ax (i:=4) scLlk.nd rfl (Or.inl rfl) (pcl (ok_Ju T) hr T.m_Ju T.F_Ju.kp (b_Ju T) (aa (pv 1) (aa (pv 2) (aa (pv 3) af)))))
   (ae (au (ak (eN hr.units) (pv 4) (aN af) (am _))
    (ag (ap (bC (dE hr.units) (c9 (kd:=7) (N':=["_law_one","_law_other","_law_yard"]) [2,3,0] (gq T) (hr.mono (by decide)) (by rfl) T.m_J11 T.F_J11.kp rfl hCH hbm (fun _=>rfl) rfl rfl rfl rfl rfl (by decide +kernel) (esc:=aj kZ) rfl (by decide +kernel) (by decide +kernel) (by rfl) (fun _ _ _ _ _=>rfl) (fun _ _ _ _ _ _ _ _ hr1=>by exact(aH (pv 2) T.cl_Yard T.M_Jn (uj T) hr1 (wr T) .nil jd (aa (pv 0) (aa (pv 1) af))))) (pv 4) (am _))))
    al)
   (ae (aJ hu (aB (aq hu (pv 1) ah)) (pv 2) (pv 3) rfl)
   (ae (aJ hu (aB (aq hu (pv 1) ah)) (pv 3) (pv 2) rfl)
   (ae (aJ hu (pv 1) ah (aN af) rfl)
   (ag (ap (bC cm (aH (pv 0) T.cl_Yard T.M_Jn (ok_Jn T) hr (wr T) .nil aM (aa (pv 2) (aa (pv 3) af))) aK (am _))))))))),?_⟩
  rw[show L2.start ["_law_yard","_law_m","_law_one","_law_other","_law_due_here"] [V.ref Y.p,V.ref B.m,V.ref b1,V.ref b2]=([some (V.ref Y.p),some (V.ref B.m),some (V.ref b1),some (V.ref b2),none]:St) from rfl]
  have up1:∀ z ∈ L,z ∈ mtK ms++(yL t.c_Yard Y y++(trK w' ts++L)):=fun z hz=>wD _ (wD _ (wD _ hz))
  refine⟨_,U,_,U,_,U,B,y,q0,b1,b2,n1,e1,n2,e2,w'.kf,_,U,hH,up1 _ m1,up1 _ m2,hk,fun H1 l1 h1=>?_⟩
  dsimp only[List.set]
  obtain⟨du,edu⟩:∃ du,gL w'.kf (fun n e=>(az y.mates (kE n e)).isSome) n1 e1 n2 e2=du:=⟨_,U⟩
  have hb:∀ i,du=some i->i<22:=by rw[<- edu]; exact qZ _ _ _ _ _ _
  rw[edu] at h1
  refine⟨_,U,nS hb h1 (fun H2 h2=>⟨_,U,if2 (fun c=>?_) (fun c=>?_)⟩)⟩
  ·obtain⟨i,hi⟩:=nN c
   subst hi
   refine i9 T (uC i edu) (Z:=mL B y q0++(mtK ms++(yL t.c_Yard Y y++trK w' ts))) (bu h2 (by simp)) tb (fun H1 W Q1 E1 g1 up hE=>?_) (fun H3 L3 r g3 tb3 kp3 up fin=>⟨_,U,fin _ (q _ Y B w' s0 ts ms y q0 L3 (.inl rfl) rfl rfl (bu g3 (by simp[hL])) (S.mono up) tb3 kp3 (Nat.le_refl _) rfl rfl rfl rfl rfl rfl (by omega) (fun _ h=>.inl h))⟩)
   have g2:=Has.comm (X:=(l1,HO.lst ((bA (some i)).map V.str))::(mL B y q0++mtK ms)) (Y:=yL t.c_Yard Y y) (R:=trK w' ts++W) (bu g1 (by simp))
   have mb:∀ {z:Addr×HO},z ∈ L->NT z->∃ j:Nat,(((l1,HO.lst ((bA (some i)).map V.str))::(mL B y q0++mtK ms))++(trK w' ts++W))[j]?=some z:=fun hz nt=>List.getElem?_of_mem (wD _ (wD _ (up _ hz nt)))
   obtain⟨j1,hj1⟩:=mb m1 (fun _ h=>by cases h)
   obtain⟨j2,hj2⟩:=mb m2 (fun _ h=>by cases h)
   refine⟨_,U,Y.p,Y.dx,_,U,g2.get 1 U,(cH _ _ _).2.2.1,_,U,_,U,Y,y,_,b1,b2,n1,e1,n2,e2,j1,j2,U,g2,hj1,hj2,?_⟩
   have x4:i=4->∀ a,E1 (.ref t.c_NoPiece) (some a) H1:=fun z a=>by subst z; exact hE H1 [] a g1
   have x1:i=1->∀ a,E1 (.ref t.c_NoEnd) (some a) H1:=fun z a=>by subst z; exact hE H1 [] a g1
   unfold gL at edu
   cases h8:ci w'.kf n1 e1 with
   | some j=>
    rw[h8] at edu
    cases edu
    exact .inl (d0 hk h8 (sm n1 (by omega)) (sm e1 (by omega)) x4 x1)
   | none=>
    rw[h8] at edu
    cases h9:ci w'.kf n2 e2 with
    | some j=>
     rw[h9] at edu
     cases edu
     exact .inr (.inl ⟨(df hk h8).1,d0 hk h9 (sm n2 (by omega)) (sm e2 (by omega)) x4 x1⟩)
    | none=>
     rw[h9] at edu
     have edu:(if n1=n2/\e1=e2 then some 8 else if (az y.mates (kE n1 e1)).isSome=true∨(az y.mates (kE n2 e2)).isSome=true then some 9 else none)=some i:=edu
     refine .inr (.inr ⟨(df hk h8).1,(df hk h9).1,sm n1 (by omega),sm e1 (by omega),sm n2 (by omega),sm e2 (by omega),?_⟩)
     by_cases z:n1=n2/\e1=e2
     ·rw[if_pos z] at edu
      cases edu
      exact .inl ⟨z.1,z.2,fun a=>hE H1 [] a g1⟩
     ·rw[if_neg z] at edu
      by_cases z2:(az y.mates (kE n1 e1)).isSome=true∨(az y.mates (kE n2 e2)).isSome=true
      ·rw[if_pos z2] at edu
       cases edu
       refine .inr ⟨z,z2.imp (fun u e=>by rw[e] at u; cases u) (fun u e=>by rw[e] at u; cases u),fun H' N a hh=>hE H' N a ?_⟩
       exact bu (hh.perm ((sw (yL t.c_Yard Y y) ((l1,HO.lst ((bA (some 9)).map V.str))::(mL B y q0++mtK ms)) (trK w' ts++W)).append_left N)) (by simp)
      ·rw[if_neg z2] at edu; cases edu
  ·have hn:du=none:=nO c
   subst hn
   unfold gL at edu
   have d1:ci w'.kf n1 e1=none:=by
    cases h9:ci w'.kf n1 e1 with
    | none=>rfl
    | some i=>rw[h9] at edu; cases edu
   rw[d1] at edu
   have d2:ci w'.kf n2 e2=none:=by
    cases h9:ci w'.kf n2 e2 with
    | none=>rfl
    | some i=>rw[h9] at edu; cases edu
   rw[d2] at edu
   have edu:(if n1=n2/\e1=e2 then some 8 else if (az y.mates (kE n1 e1)).isSome=true∨(az y.mates (kE n2 e2)).isSome=true then some 9 else none)=(none:Option Nat):=edu
   have d3:¬ (n1=n2/\e1=e2):=fun z=>by rw[if_pos z] at edu; cases edu
   rw[if_neg d3] at edu
   have d4:¬ ((az y.mates (kE n1 e1)).isSome=true∨(az y.mates (kE n2 e2)).isSome=true):=fun z=>by rw[if_pos z] at edu; cases edu
   obtain⟨th1,kk1,hk1,k10,k11⟩:=df hk d1
   obtain⟨th2,kk2,hk2,k20,k21⟩:=df hk d2
   have h3:Has H2 (hL t.c_Yard Y B w' ts ms y q0 L):=h2.tail
   have g1:=h3.at_ _ (wD _ (up1 _ m1))
   have g2:=h3.at_ _ (wD _ (up1 _ m2))
   have len1:=bF y.mates (kE n1 e1) (V.ref b2)
   have len2:=bF (aG y.mates (kE n1 e1) (.ref b2)) (kE n2 e2) (V.ref b1)
   have h4:=h3.puti 5 U (.dT (aG y.mates (kE n1 e1) (.ref b2)))
   refine⟨_,U,_,⟨_,U,dR (h3.get 0 U)⟩,_,U,B.mt,_,U,DPut.t (k:=kE n1 e1) (h3.get 5 U) g1 (aS (by omega)),?_⟩
   have g2':=h4.at_ (b2,HO.tup [.int n2,.int e2]) (wD (mL B { y with mates:=aG y.mates (kE n1 e1) (.ref b2) } q0) (up1 _ m2))
   have h5:=h4.puti 5 U (.dT (aG (aG y.mates (kE n1 e1) (.ref b2)) (kE n2 e2) (.ref b1)))
   refine⟨_,U,_,⟨_,U,dR (h4.get 0 U)⟩,_,U,B.mt,_,U,DPut.t (k:=kE n2 e2) (h4.get 5 U) g2' (aS (by omega)),?_⟩
   refine⟨(sz_ 0),fun g hg=>?_⟩
   have h6:=h5.alloc hg (.lst [])
   have h7:=h6.puti 1 U (.dK (mfl { B with tr:=g } q0.at_ y.next))
   refine⟨_,U,B.m,_,U,iw (h6.get 1 U) g,?_⟩
   have h8:Has _ (mL { B with tr:=g } { y with mates:=aG (aG y.mates (kE n1 e1) (.ref b2)) (kE n2 e2) (.ref b1),trail:=[] } ⟨q0.sides,q0.at_,q0.rung,[]⟩++(yL t.c_Yard Y y++L)):=lc (Tr:=trK w' ts) (M:=mtK ms) (a7:=(B.tr,.lst q0.tr)) h7
   have h9:=Has.comm (X:=mL { B with tr:=g } { y with mates:=aG (aG y.mates (kE n1 e1) (.ref b2)) (kE n2 e2) (.ref b1),trail:=[] } ⟨q0.sides,q0.at_,q0.rung,[]⟩) (Y:=yL t.c_Yard Y y) (R:=L) h8
   obtain⟨j1,hj1⟩:=List.getElem?_of_mem (wD (mL { B with tr:=g } { y with mates:=aG (aG y.mates (kE n1 e1) (.ref b2)) (kE n2 e2) (.ref b1),trail:=[] } ⟨q0.sides,q0.at_,q0.rung,[]⟩) m1)
   obtain⟨j2,hj2⟩:=List.getElem?_of_mem (wD (mL { B with tr:=g } { y with mates:=aG (aG y.mates (kE n1 e1) (.ref b2)) (kE n2 e2) (.ref b1),trail:=[] } ⟨q0.sides,q0.at_,q0.rung,[]⟩) m2)
   have no1:az y.mates (kE n1 e1)=none:=by
    cases h10:az y.mates (kE n1 e1) with
    | none=>rfl
    | some u=>exact(d4 (.inl (by rw[h10]; rfl))).elim
   have no2:az y.mates (kE n2 e2)=none:=by
    cases h10:az y.mates (kE n2 e2) with
    | none=>rfl
    | some u=>exact(d4 (.inr (by rw[h10]; rfl))).elim
   have mfn:∀ {n e:Int},az y.mates (kE n e)=none->w'.mf n e=none:=fun {n e} h=>by
    rw[S.rep.mt] at h
    cases h10:w'.mf n e with
    | none=>rfl
    | some u=>rw[h10] at h; cases h
   have neK:¬ kE n1 e1=kE n2 e2:=fun z=>d3 (by
    unfold kE at z
    simpa using z)
   refine⟨_,U,Y.p,Y.dx,_,U,h9.get 1 U,(cH _ _ _).2.2.1,_,U,_,U,Y,y,_,b1,b2,n1,e1,n2,e2,j1,j2,U,h9,hj1,hj2,th1,th2,neK,no1,no2,by omega,fun H10 q10 h10=>⟨U,?_⟩⟩
   have h11:=Has.comm (X:=yL t.c_Yard { Y with tr:=q10 } { y with mates:=aG (aG y.mates (kE n1 e1) (.ref b2)) (kE n2 e2) (.ref b1),trail:=[] }) (Y:=mL { B with tr:=g } { y with mates:=aG (aG y.mates (kE n1 e1) (.ref b2)) (kE n2 e2) (.ref b1),trail:=[] } ⟨q0.sides,q0.at_,q0.rung,[]⟩) (R:=L) h10
   have R:=S.rep.link (x:=(b1,n1,e1)) (z:=(b2,n2,e2)) ⟨kk1,hk1,k10,k11⟩ ⟨kk2,hk2,k20,k21⟩
   have pl0:Pool w' s0 L:=⟨fun n e z hz=>List.getElem?_of_mem (S.pm n e z hz),fun z hz=>List.getElem?_of_mem (S.pe z hz)⟩
   refine q H10 { Y with tr:=q10 } { B with tr:=g } (w'.link (b1,n1,e1) (b2,n2,e2)) (w'.go ts.length s0) [] [] { y with mates:=aG (aG y.mates (kE n1 e1) (.ref b2)) (kE n2 e2) (.ref b1),trail:=[] } ⟨q0.sides,q0.at_,q0.rung,[]⟩ L (.inr ⟨U,d3,mfn no1,mfn no2⟩) rfl rfl h11 ⟨R.okw,R,⟨S.mq.sd,S.mq.at_,S.mq.rg⟩,U,U,U,U,fun n e z hz=>?_,fun z hz=>?_⟩ tb (fun z hz _=>hz) (Nat.zero_le _) rfl rfl rfl rfl rfl rfl (by show(aG (aG y.mates (kE n1 e1) (.ref b2)) (kE n2 e2) (.ref b1)).length<=_; omega) (fun k h=>(jb h).elim (fun h=>(jb h).imp id .inl) (fun h=>.inr (.inr h)))
   ·have hz:(if (n,e)=(n2,e2) then some (b1,n1,e1) else if (n,e)=(n1,e1) then some (b2,n2,e2) else w'.mf n e)=some z:=hz
    split at hz
    ·cases hz; exact m1
    ·split at hz
     ·cases hz; exact m2
     ·exact S.pm n e z hz
   ·obtain⟨j,hj⟩:=(pl0.go ts.length).e z hz
    exact wI hj
end
def qUl:Str:=("_law_unlink" : Str)++Str.ofString ".<locals>." ++ "<lambda>"
def gH (kf:Int->Option Kd) (mt:Int->Int->Bool) (n e:Int):Option Nat:=orD (ci kf n e) (if mt n e=true then none else some 10)
theorem qA (kf:Int->Option Kd) (mt:Int->Int->Bool) (n e:Int):∀ i,gH kf mt n e=some i->i<22:=sx _ _ (fD _ _ _) (fun i h=>by
 split at h
 ·cases h
 ·cases h; decide)
theorem tq {n e:Int}:∀ i,gH kf mt n e=some i->okN i:=tX (fun _=>mH) (fun i h=>by
 split at h
 ·cases h
 ·cases h; exact .inr (.inr (.inr (.inr (.inr (.inr (.inr (.inl rfl))))))))
theorem kE_iff {a b c d:Int}:kE a b=kE c d↔(a,b)=(c,d):=by
 constructor
 ·intro h
  injection h with h1 h2
  injection h2 with h2 _
  injection h1 with h1
  injection h2 with h2
  rw[h1,h2]
 ·intro h
  injection h with h1 h2
  rw[h1,h2]
theorem Rep.unl {W:Wd}{y:YR} (R:Rep W s y) {n1 e1:Int}{z:En}:Rep { W with mf:=iy W.mf (n1,e1) z.2 } s { y with mates:=ar (ar y.mates (kE n1 e1)) (kE z.2.1 z.2.2),trail:=[] }:=by
 have sub:∀ {n e u},iy W.mf (n1,e1) z.2 n e=some u->W.mf n e=some u:=fun {n e u} hu=>by
  unfold iy at hu
  split at hu
  ·cases hu
  ·exact hu
 refine⟨R.kd,R.no,R.ro,R.rr,R.sd,R.s12,fun n e=>?_,fun n e u hu=>R.mo n e u (sub hu),R.en,R.eo,R.rg⟩
 show az (ar (ar y.mates (kE n1 e1)) (kE z.2.1 z.2.2)) (kE n e)=Option.map _ (iy W.mf (n1,e1) z.2 n e)
 unfold iy
 by_cases c2:(n,e)=z.2
 ·rw[if_pos (.inr c2),show kE n e=kE z.2.1 z.2.2 from kE_iff.mpr c2,cI]; rfl
 ·rw[cr (fun q=>c2 (kE_iff.mp q))]
  by_cases c1:(n,e)=(n1,e1)
  ·rw[if_pos (.inl c1),show kE n e=kE n1 e1 from kE_iff.mpr c1,cI]; rfl
  ·rw[if_neg (fun q=>q.elim c1 c2),cr (fun q=>c1 (kE_iff.mp q))]
   exact R.mt n e
theorem fX {κ:Type} [DecidableEq κ] (kvs:List (κ×V)) (k:κ):(ar kvs k).length<=kvs.length:=by
 induction kvs with
 | nil=>exact Nat.le_refl _
 | cons p r ih=>
  by_cases e:p.1=k
  ·rw[fe e,wQ]; omega
  ·rw[dX e,wQ,wQ]; omega
theorem iK {κ:Type} [DecidableEq κ] {kvs:List (κ×V)}{j k:κ} (h:k ∈ (ar kvs j).map (·.1)):k ∈ kvs.map (·.1):=by
 obtain⟨p,hp,rfl⟩:=wX.mp h
 exact wW (List.mem_filter.mp hp).1
inductive sp_lunlink (C Pt:Addr) (vs:List V) (H:Hp) (Q:VK) (E_:XK):Prop
 | mk (A:YA) (B:MA) (w:Wd) (s0:Sd) (ts:List (Addr×Sd)) (ms:List (Addr×Addr×Sd)) (y:YR) (q:MR) (L:Kn) (b:Addr) (n e:Int) (_:vs=[.ref A.p,.ref B.m,.ref b]) (_:Has H (hL C A B w ts ms y q L)) (_:St11 w s0 ts ms y q L) (_:KfOk y w.kf) (_:Wsym w.mf) (_:(b,HO.tup [.int n,.int e]) ∈ L) (_:Tb L Pt qUl) (_:-100000<=n) (_:n<=100000) (_:-100<=e) (_:e<=100) (_:∀ H' A' B' w1 s0' ts' ms' y' q' L',(w1=w∨∃ z,w.mf n e=some z/\w1={ w with mf:=iy w.mf (n,e) z.2 })->A'.p=A.p->B'.m=B.m->Has H' (hL C A' B' w1 ts' ms' y' q' L')->St11 w1 s0' ts' ms' y' q' L'->Tb L' Pt qUl->(∀ z ∈ L,z.1≠Pt->z ∈ L')->ts'.length<=ts.length->y'.rung=y.rung->y'.sides=y.sides->y'.next=y.next->y'.kinds=y.kinds->y'.notes=y.notes->y'.rods=y.rods->y'.mates.length<=y.mates.length->(∀ k ∈ y'.mates.map (·.1),k ∈ y.mates.map (·.1))->Q (.bl true) H'):sp_lunlink C Pt vs H Q E_
section
variable {P:Program}{w:World}{K:PySem.W.Frag}{mg:Str->Option Value}{base:Heap}{t:Adr}
theorem scLul:FnScope ["_law_yard","_law_m","_law_end","_law_due_here"] ["_law_yard","_law_m","_law_end"] (aj oS):={}
theorem qX (T:Txt K mg t) (kb:K.In base) (hbm:BM base mg):FnOk P w K mg base CX0 12 t.f_J91 t.d_J91 ["_law_yard","_law_m","_law_end"] (sp_lunlink t.c_Yard t.p_J91):=by
 refine T.F_J91.okC scLul (fun vs H Q E h=>?_) (fun cdv A outer s H vs Q E hcdv hr h=>?_)
 ·obtain⟨_,_,_,_,_,_,_,_,_,_,_,_,rfl,_⟩:=h
  rfl
 ·obtain⟨Y,B,w',s0,ts,ms,y,q0,L,b,n,e,rfl,hH,S,hk,sy,mb,tb,n0,n1,e0,e1,q⟩:=h
  have hu:=bi hr
  obtain⟨cc,ecd,hch⟩:=T.tb_J91
  have ecdv:cdv=.ref cc:=hcdv.symm.trans ecd
  subst ecdv
  have hCH:PySem.W.CodeHd base cc t.p_J91:=PySem.W.codeHd_of_K kb hch
  have sm:∀ b:Int,b.natAbs<=1000000->L2.Small b:=fun b hb=>dh (Nat.lt_of_le_of_lt hb (by decide))
  refine⟨_,(ae (ax (i:=3) scLul.nd rfl (Or.inl rfl) (pcl (jJ T) hr T.m_J21 T.F_J21.kp (mT T) (aa (pv 1) (aa (pv 2) af))))
   (ae (bo (au (PW.pt (bM (ak (dE hr.units) (pv 3) (aN af) (am _)) (bq (bB (cv hu (pv 2) (aB (aq hu (pv 1) ah)))))))
    (ag (ax (i:=3) scLul.nd rfl (Or.inl rfl) (aN (aa ah af))))
    al))
   (ae (bo (au (ak (eN hr.units) (pv 3) (aN af) (am _))
    (ag (ap (bC (dE hr.units) (c9 (kd:=7) (N':=["_law_end","_law_yard"]) [2,0] (gq T) (hr.mono (by decide)) (by rfl) T.m_J11 T.F_J11.kp rfl hCH hbm (fun _=>rfl) rfl rfl rfl rfl rfl (by decide +kernel) (esc:=aj oS) rfl (by decide +kernel) (by decide +kernel) (by rfl) (fun _ _ _ _ _=>rfl) (fun _ _ _ _ _ _ _ _ hr1=>by exact(aH (pv 1) T.cl_Yard T.M_Jb (ur T) hr1 (wy T) .nil jd (aa (pv 0) af)))) (pv 3) (am _))))
    al))
   (ae (av (ki hu (aB (aq hu (pv 1) ah)) (ki hu (aB (aq hu (pv 1) ah)) (pv 2) ⟨U,U,U,U⟩) ⟨U,U,U,U⟩))
   (ae (aJ hu (pv 1) ah (aN af) rfl)
   (ag (ap (bC cm (aH (pv 0) T.cl_Yard T.M_Jb (ok_Jb T) hr (wy T) .nil aM (aa (pv 2) af)) aK (am _))))))))),?_⟩
  rw[show L2.start ["_law_yard","_law_m","_law_end","_law_due_here"] [V.ref Y.p,V.ref B.m,V.ref b]=([some (V.ref Y.p),some (V.ref B.m),some (V.ref b),none]:St) from rfl]
  have up1:∀ z ∈ L,z ∈ mtK ms++(yL t.c_Yard Y y++(trK w' ts++L)):=fun z hz=>wD _ (wD _ (wD _ hz))
  refine⟨_,U,_,U,B,y,q0,b,n,e,w'.kf,_,U,hH,up1 _ mb,hk,fun H1 l1 h1=>?_⟩
  dsimp only[List.set]
  have b0:∀ i,ci w'.kf n e=some i->i<22:=fD _ _ _
  obtain⟨du,edu⟩:∃ du,gH w'.kf (fun n e=>(az y.mates (kE n e)).isSome) n e=du:=⟨_,U⟩
  have hb:∀ i,du=some i->i<22:=by rw[<- edu]; exact qA _ _ _ _
  refine⟨fun σ' H'=>∃ l,σ'=[some (.ref Y.p),some (.ref B.m),some (.ref b),some (.ref l)]/\Has H' ((l,.lst ((bA du).map V.str))::hL t.c_Yard Y B w' ts ms y q0 L),?_,?_⟩
  ·refine⟨_,U,rj b0 h1 (fun H2 h2=>⟨_,U,if2 (fun c=>?_) (fun c=>bL ⟨l1,U,?_⟩)⟩)⟩
   ·have c:=Option.isNone_iff_eq_none.mp c
    have t1:=h2.at_ (b,HO.tup [.int n,.int e]) (wE _ (wD _ (up1 _ mb)))
    refine⟨_,U,_,⟨_,U,dR (h2.get 1 U)⟩,B.mt,_,U,DGet.t (k:=kE n e) (h2.get 6 U) t1,_,U,if2 (fun c2=>?_) (fun c2=>?_)⟩
    ·refine⟨(sz_ 1),fun l hl=>⟨l,U,?_⟩⟩
     have:du=some 10:=by
      rw[<- edu]
      unfold gH
      rw[c]
      exact if_neg (fun z=>by rw[show(az y.mates (kE n e)).isSome=true from z] at c2; cases c2)
     rw[this]
     exact h2.tail.alloc hl _
    ·refine⟨l1,U,?_⟩
     have:du=ci w'.kf n e:=by
      rw[<- edu,c]
      unfold gH
      rw[c]
      refine if_pos ?_
      cases h9:(az y.mates (kE n e)).isSome with
      | true=>exact h9
      | false=>rw[h9] at c2; cases c2
     rw[this]
     exact h2
   ·have:du=ci w'.kf n e:=by
     rw[<- edu]
     unfold gH
     cases h9:ci w'.kf n e with
     | none=>rw[h9] at c; cases c
     | some i=>rfl
    rw[this]
    exact h2
  rintro _ H2 ⟨l2,rfl,h2⟩
  clear h1 l1 H1
  refine⟨fun σ' H'=>du=none/\σ'=[some (.ref Y.p),some (.ref B.m),some (.ref b),some (.ref l2)]/\Has H' (hL t.c_Yard Y B w' ts ms y q0 L),?_,?_⟩
  ·refine⟨_,U,nS hb h2 (fun H2 h2=>⟨_,U,if2 (fun c=>?_) (fun c=>?_)⟩)⟩
   ·obtain⟨i,hi⟩:=nN c
    subst hi
    refine i9 T (tq i edu) (Z:=mL B y q0++(mtK ms++(yL t.c_Yard Y y++trK w' ts))) (bu h2 (by simp[hL])) tb (fun H1 W Q1 E1 g1 up hE=>?_) (fun H3 L3 r g3 tb3 kp3 up fin=>⟨_,U,fin _ (q _ Y B w' s0 ts ms y q0 L3 (.inl rfl) rfl rfl (bu g3 (by simp[hL])) (S.mono up) tb3 kp3 (Nat.le_refl _) rfl rfl rfl rfl rfl rfl (Nat.le_refl _) (fun _ h=>h))⟩)
    have g2:=Has.comm (X:=(l2,HO.lst ((bA (some i)).map V.str))::(mL B y q0++mtK ms)) (Y:=yL t.c_Yard Y y) (R:=trK w' ts++W) (bu g1 (by simp))
    obtain⟨j,hj⟩:=List.getElem?_of_mem (wD ((l2,HO.lst ((bA (some i)).map V.str))::(mL B y q0++mtK ms)) (wD (trK w' ts) (up _ mb (fun _ h=>by cases h))))
    refine⟨_,U,Y.p,Y.dx,_,U,g2.get 1 U,(cH _ _ _).2.2.2,_,U,Y,y,_,b,n,e,j,U,g2,hj,?_⟩
    unfold gH at edu
    cases h8:ci w'.kf n e with
    | some j=>
     rw[h8] at edu
     cases edu
     exact .inl (d0 hk h8 (sm n (by omega)) (sm e (by omega)) (fun z a=>by subst z; exact hE H1 [] a g1) (fun z a=>by subst z; exact hE H1 [] a g1))
    | none=>
     rw[h8] at edu
     have edu:(if (az y.mates (kE n e)).isSome=true then none else some 10)=some i:=edu
     cases h9:az y.mates (kE n e) with
     | some v=>rw[h9] at edu; cases edu
     | none=>
      rw[h9] at edu
      cases edu
      exact .inr ⟨(df hk h8).1,U,sm n (by omega),sm e (by omega),fun a=>hE H1 [] a g1⟩
   ·exact⟨nO c,U,h2.tail⟩
  rintro _ H3 ⟨rfl,rfl,h3⟩
  clear h2 H2
  unfold gH at edu
  have d1:ci w'.kf n e=none:=by
   cases h9:ci w'.kf n e with
   | none=>rfl
   | some i=>rw[h9] at edu; cases edu
  rw[d1] at edu
  have edu:(if (az y.mates (kE n e)).isSome=true then none else some 10)=(none:Option Nat):=edu
  obtain⟨z,hz⟩:∃ z,w'.mf n e=some z:=by
   cases h9:w'.mf n e with
   | some z=>exact⟨z,U⟩
   | none=>rw[S.rep.mt,h9] at edu; cases edu
  obtain⟨zne,z',hz',ez'⟩:=sy n e z hz
  have v1:az y.mates (kE n e)=some (.ref z.1):=by rw[S.rep.mt,hz]; rfl
  have v2:az y.mates (kE z.2.1 z.2.2)=some (.ref z'.1):=by rw[S.rep.mt,hz']; rfl
  have neK:¬ kE z.2.1 z.2.2=kE n e:=fun u=>zne (kE_iff.mp u)
  have v3:az (ar y.mates (kE n e)) (kE z.2.1 z.2.2)=some (.ref z'.1):=by rw[cr neK]; exact v2
  obtain⟨th1,kk1,hk1,k10,k11⟩:=df hk d1
  have mz:=S.pm n e z hz
  have g1:=h3.at_ _ (wD _ (up1 _ mb))
  have h4:=h3.puti 5 U (.dT (ar y.mates (kE n e)))
  have g2:=h4.at_ (z.1,HO.tup [.int z.2.1,.int z.2.2]) (wD (mL B { y with mates:=ar y.mates (kE n e) } q0) (up1 _ mz))
  have h5:=h4.puti 5 U (.dT (ar (ar y.mates (kE n e)) (kE z.2.1 z.2.2)))
  refine⟨_,⟨_,U,dR (h3.get 0 U)⟩,B.mt,U,.inr ⟨_,.inl (h3.get 5 U)⟩,_,⟨_,U,dR (h3.get 0 U)⟩,B.mt,U,.inr ⟨_,.inl (h3.get 5 U)⟩,_,U,b,_,kE n e,_,U,h3.get 5 U,g1,v1,z.1,_,kE z.2.1 z.2.2,_,U,h4.get 5 U,g2,v3,?_⟩
  refine⟨(sz_ 0),fun g hg=>?_⟩
  have h6:=h5.alloc hg (.lst [])
  have h7:=h6.puti 1 U (.dK (mfl { B with tr:=g } q0.at_ y.next))
  refine⟨_,U,B.m,_,U,iw (h6.get 1 U) g,?_⟩
  have h8:Has _ (mL { B with tr:=g } { y with mates:=ar (ar y.mates (kE n e)) (kE z.2.1 z.2.2),trail:=[] } ⟨q0.sides,q0.at_,q0.rung,[]⟩++(yL t.c_Yard Y y++L)):=lc (Tr:=trK w' ts) (M:=mtK ms) (a7:=(B.tr,.lst q0.tr)) h7
  have h9:=Has.comm (X:=mL { B with tr:=g } { y with mates:=ar (ar y.mates (kE n e)) (kE z.2.1 z.2.2),trail:=[] } ⟨q0.sides,q0.at_,q0.rung,[]⟩) (Y:=yL t.c_Yard Y y) (R:=L) h8
  obtain⟨j1,hj1⟩:=List.getElem?_of_mem (wD (mL { B with tr:=g } { y with mates:=ar (ar y.mates (kE n e)) (kE z.2.1 z.2.2),trail:=[] } ⟨q0.sides,q0.at_,q0.rung,[]⟩) mb)
  obtain⟨j2,hj2⟩:=List.getElem?_of_mem (wD (mL { B with tr:=g } { y with mates:=ar (ar y.mates (kE n e)) (kE z.2.1 z.2.2),trail:=[] } ⟨q0.sides,q0.at_,q0.rung,[]⟩) mz)
  refine⟨_,U,Y.p,Y.dx,_,U,h9.get 1 U,(cH _ _ _).2.2.2,_,U,Y,y,_,b,z.1,n,e,z.2.1,z.2.2,j1,j2,_,U,h9,hj1,hj2,th1,neK,v1,v2,fun H10 q10 h10=>⟨U,?_⟩⟩
  have h11:=Has.comm (X:=yL t.c_Yard { Y with tr:=q10 } { y with mates:=ar (ar y.mates (kE n e)) (kE z.2.1 z.2.2),trail:=[] }) (Y:=mL { B with tr:=g } { y with mates:=ar (ar y.mates (kE n e)) (kE z.2.1 z.2.2),trail:=[] } ⟨q0.sides,q0.at_,q0.rung,[]⟩) (R:=L) h10
  have R:=S.rep.unl (n1:=n) (e1:=e) (z:=z)
  have pl0:Pool w' s0 L:=⟨fun n e z hz=>List.getElem?_of_mem (S.pm n e z hz),fun z hz=>List.getElem?_of_mem (S.pe z hz)⟩
  refine q H10 { Y with tr:=q10 } { B with tr:=g } { w' with mf:=iy w'.mf (n,e) z.2 } (w'.go ts.length s0) [] [] { y with mates:=ar (ar y.mates (kE n e)) (kE z.2.1 z.2.2),trail:=[] } ⟨q0.sides,q0.at_,q0.rung,[]⟩ L (.inr ⟨z,hz,U⟩) rfl rfl h11 ⟨R.okw,R,⟨S.mq.sd,S.mq.at_,S.mq.rg⟩,U,U,U,U,fun n' e' u hu=>?_,fun u hu=>?_⟩ tb (fun z hz _=>hz) (Nat.zero_le _) rfl rfl rfl rfl rfl rfl (Nat.le_trans (fX _ _) (fX _ _)) (fun k h=>iK (iK h))
  ·have hu:iy w'.mf (n,e) z.2 n' e'=some u:=hu
   unfold iy at hu
   split at hu
   ·cases hu
   ·exact S.pm n' e' u hu
  ·obtain⟨j,hj⟩:=(pl0.go ts.length).e u hu
   exact wI hj
end
def qLf:Str:=("_law_lift" : Str)++Str.ofString ".<locals>." ++ "<lambda>"
theorem q5 (kf:Int->Option Kd) (mt:Int->Int->Bool) (at_:Option En) (n:Int):∀ i,dU kf mt at_ n=some i->i<22:=fun i h=>by
 unfold dU at h
 split at h
 ·cases h; decide
 ·split at h
  ·cases h; decide
  ·unfold iX at h
   split at h
   ·split at h
    ·cases h; decide
    ·cases h
   ·cases h
theorem uD {at_:Option En}{n:Int}:∀ i,dU kf mt at_ n=some i->okN i:=fun i h=>by
 unfold dU at h
 split at h
 ·cases h; exact .inr (.inr (.inr (.inl rfl)))
 ·split at h
  ·cases h; exact .inr (.inr (.inr (.inr (.inr (.inr (.inl rfl))))))
  ·unfold iX at h
   split at h
   ·split at h
    ·cases h; exact .inr (.inr (.inr (.inr (.inr (.inr (.inr (.inr rfl)))))))
    ·cases h
   ·cases h
def Wd.lift (W:Wd) (n:Int):Wd:={ W with kf:=fun i=>if i=n then Option.none else W.kf i }
theorem Rep.lift {W:Wd}{y:YR} (R:Rep W s y) (sy:Wsym W.mf) {n:Int}{k:Kd} (hk:W.kf n=some k) (hm:∀ e:Int,0<=e->e<k.many->W.mf n e=Option.none) (he:∀ z,s.at_=some z->z.2.1≠n) :
  Rep (W.lift n) s { y with kinds:=ar y.kinds (Sum.inl n),notes:=ar y.notes (Sum.inl n),rods:=ar y.rods (Sum.inl n),trail:=[] }:=by
 have kfs:∀ {i:Int}{k':Kd},(W.lift n).kf i=some k'->¬ i=n/\W.kf i=some k':=fun {i k'} hi=>by
  have hi:(if i=n then Option.none else W.kf i)=some k':=hi
  by_cases c:i=n
  ·rw[if_pos c] at hi; cases hi
  ·rw[if_neg c] at hi; exact⟨c,hi⟩
 have key:∀ {i:Int},¬ i=n->¬ (Sum.inl i:Key)=Sum.inl n:=fun c e=>c (Sum.inl.inj e)
 have no:∀ e z,W.mf n e=some z->False:=fun e z hz=>by
  obtain⟨_,z',h1,h2⟩:=sy n e z hz
  obtain⟨k',hk',e0,e1⟩:=R.mo _ _ _ h1
  rw[h2] at hk' e0 e1
  rw[show((n,e):Int×Int).1=n from rfl,hk] at hk'
  cases hk'
  rw[hm e e0 e1] at hz
  cases hz
 have okl:∀ z:En,W.ok z->¬ z.2.1=n->(W.lift n).ok z:=fun z ⟨k',a,b,c⟩ ne=>⟨k',by show(if z.2.1=n then Option.none else W.kf z.2.1)=_; rw[if_neg ne]; exact a,b,c⟩
 refine⟨fun i k' hi=>?_,fun i k' hi=>?_,fun i k' hi=>?_,fun i k' hi hp=>R.rr i k' (kfs hi).2 hp,R.sd,R.s12,R.mt,fun i e z hz=>okl z (R.mo i e z hz) (fun c=>?_),R.en,fun z hz=>okl z (R.eo z hz) (he z hz),R.rg⟩
 ·show az (ar y.kinds _) _=_
  rw[cr (key (kfs hi).1)]; exact R.kd _ _ (kfs hi).2
 ·show az (ar y.notes _) _=_
  rw[cr (key (kfs hi).1)]; exact R.no _ _ (kfs hi).2
 ·show az (ar y.rods _) _=_
  rw[cr (key (kfs hi).1)]; exact R.ro _ _ (kfs hi).2
 ·obtain⟨_,z',h1,_⟩:=sy i e z hz
  rw[c] at h1
  exact no _ _ h1
theorem KfOk.lift {y:YR}{W:Wd} (h:KfOk y W.kf) (n:Int) {a b:List (Key×V)}:KfOk { y with kinds:=ar y.kinds (Sum.inl n),notes:=a,rods:=b,trail:=[] } (W.lift n).kf:=fun i=>by
 show az (ar y.kinds (Sum.inl n)) (Sum.inl i)=Option.map _ (if i=n then Option.none else W.kf i)
 by_cases c:i=n
 ·rw[if_pos c,c,cI]; rfl
 ·rw[if_neg c,cr (fun e=>c (Sum.inl.inj e))]; exact h i
inductive sp_llift (C Pt:Addr) (vs:List V) (H:Hp) (Q:VK) (E_:XK):Prop
 | mk (A:YA) (B:MA) (w:Wd) (s0:Sd) (ts:List (Addr×Sd)) (ms:List (Addr×Addr×Sd)) (y:YR) (q:MR) (L:Kn) (n:Int) (_:vs=[.ref A.p,.ref B.m,.int n]) (_:Has H (hL C A B w ts ms y q L)) (_:St11 w s0 ts ms y q L) (_:KfOk y w.kf) (_:Wsym w.mf) (_:Tb L Pt qLf) (_:-100000<=n) (_:n<=100000) (_:∀ H' A' B' w1 s0' ts' ms' y' q' L',(w1=w/\y'.kinds=y.kinds/\y'.notes=y.notes/\y'.rods=y.rods∨w1=w.lift n/\y'.kinds=ar y.kinds (Sum.inl n)/\y'.notes=ar y.notes (Sum.inl n)/\y'.rods=ar y.rods (Sum.inl n))->A'.p=A.p->B'.m=B.m->Has H' (hL C A' B' w1 ts' ms' y' q' L')->St11 w1 s0' ts' ms' y' q' L'->Tb L' Pt qLf->(∀ z ∈ L,z.1≠Pt->z ∈ L')->ts'.length<=ts.length->y'.rung=y.rung->y'.sides=y.sides->y'.next=y.next->y'.mates=y.mates->KfOk y' w1.kf->Q (.bl true) H'):sp_llift C Pt vs H Q E_
section
variable {P:Program}{w:World}{K:PySem.W.Frag}{mg:Str->Option Value}{base:Heap}{t:Adr}
theorem su {R:Hp->Prop}{a:Addr}{kvs:List (Key×V)}{k:Key}{L0:Kn} (i:Nat) (h:Has H L0) (hi:L0[i]?=some (a,.dK kvs)) (r:∀ H',Has H' (L0.set i (a,.dK (ar kvs k)))->R H') :
  (∀ v:V,az kvs k=some v->R (upd H a (.dK (ar kvs k))))/\(az kvs k=none->R H):=by
 refine⟨fun v _=>r _ (h.puti i hi _),fun hn=>r _ ?_⟩
 rw[cE hn]
 have:L0.set i (a,.dK kvs)=L0:=by
  refine List.ext_getElem? fun j=>?_
  rw[List.getElem?_set]
  by_cases c:i=j
  ·subst c
   rw[if_pos rfl,hi,if_pos (List.getElem?_eq_some_iff.mp hi).1]
  ·rw[if_neg c]
 rw[this]
 exact h
theorem scLlf:FnScope ["_law_yard","_law_m","_law_piece","_law_due_here"] ["_law_yard","_law_m","_law_piece"] (aj k6):={}
theorem pF (T:Txt K mg t) (kb:K.In base) (hbm:BM base mg):FnOk P w K mg base CX0 12 t.f_lift t.d_lift ["_law_yard","_law_m","_law_piece"] (sp_llift t.c_Yard t.p_lift):=by
 refine T.F_lift.okC scLlf (fun vs H Q E h=>?_) (fun cdv A outer s H vs Q E hcdv hr h=>?_)
 ·obtain⟨_,_,_,_,_,_,_,_,_,_,rfl,_⟩:=h
  rfl
 ·obtain⟨Y,B,w',s0,ts,ms,y,q0,L,n,rfl,hH,S,hk,sy,tb,n0,n1,q⟩:=h
  have hu:=bi hr
  obtain⟨cc,ecd,hch⟩:=T.tb_lift
  have ecdv:cdv=.ref cc:=hcdv.symm.trans ecd
  subst ecdv
  have hCH:PySem.W.CodeHd base cc t.p_lift:=PySem.W.codeHd_of_K kb hch
  have smn:L2.Small n:=dh (Nat.lt_of_le_of_lt (show n.natAbs<=1000000 by omega) (by decide))
  refine⟨_,(ae (ax (i:=3) scLlf.nd rfl (Or.inl rfl) (pcl (ok_Jw T) hr T.m_Jw T.F_Jw.kp (b_Jw T) (aa (pv 1) (aa (pv 2) af))))
   (ae (au (ak (eN hr.units) (pv 3) (aN af) (am _))
    (ag (ap (bC (dE hr.units) (c9 (kd:=7) (N':=["_law_piece","_law_yard"]) [2,0] (gq T) (hr.mono (by decide)) (by rfl) T.m_J11 T.F_J11.kp rfl hCH hbm (fun _=>rfl) rfl rfl rfl rfl rfl (by decide +kernel) (esc:=aj k6) rfl (by decide +kernel) (by decide +kernel) (by rfl) (fun _ _ _ _ _=>rfl) (fun _ _ _ _ _ _ _ _ hr1=>by exact(aH (pv 1) T.cl_Yard T.M_Jr (ui T) hr1 (wn T) .nil jd (aa (pv 0) af)))) (pv 3) (am _))))
    al)
   (ae (av (o9 (aB (aq hu (pv 1) ah)) (pv 2) ⟨U,U,U,U⟩))
   (ae (bo (av (dP (aB (aq hu (pv 1) ah)) (pv 2) aK ⟨U,U,U,U⟩)))
   (ae (bo (av (dP (aB (aq hu (pv 1) ah)) (pv 2) aK ⟨U,U,U,U⟩)))
   (ae (aJ hu (pv 1) ah (aN af) rfl)
   (ag (ap (bC cm (aH (pv 0) T.cl_Yard T.M_Jr (ok_Jr T) hr (wn T) .nil aM (aa (pv 2) af)) aK (am _)))))))))),?_⟩
  rw[show L2.start ["_law_yard","_law_m","_law_piece","_law_due_here"] [V.ref Y.p,V.ref B.m,V.int n]=([some (V.ref Y.p),some (V.ref B.m),some (V.int n),none]:St) from rfl]
  have up1:∀ z ∈ L,z ∈ mtK ms++(yL t.c_Yard Y y++(trK w' ts++L)):=fun z hz=>wD _ (wD _ (wD _ hz))
  obtain⟨sc,esc⟩:∃ sc,w'.go ts.length s0=sc:=⟨_,U⟩
  have R:=S.rep
  have M:=S.mq
  rw[esc] at R M
  have pl0:Pool w' s0 L:=⟨fun n e z hz=>List.getElem?_of_mem (S.pm n e z hz),fun z hz=>List.getElem?_of_mem (S.pe z hz)⟩
  have pe:∀ z,sc.at_=some z->(z.1,HO.tup [.int z.2.1,.int z.2.2]) ∈ L:=fun z hz=>by
   rw[<- esc] at hz
   obtain⟨j,hj⟩:=(pl0.go ts.length).e z hz
   exact wI hj
  refine⟨_,U,_,U,B,y,q0,n,w'.kf,sc.at_,_,U,hH,hk,M.at_,fun z hz=>up1 _ (pe z hz),fun H1 l1 h1=>?_⟩
  dsimp only[List.set]
  obtain⟨du,edu⟩:∃ du,dU w'.kf (fun n e=>(az y.mates (kE n e)).isSome) sc.at_ n=du:=⟨_,U⟩
  have hb:∀ i,du=some i->i<22:=by rw[<- edu]; exact q5 _ _ _ _
  rw[edu] at h1
  refine⟨_,U,nS hb h1 (fun H2 h2=>⟨_,U,if2 (fun c=>?_) (fun c=>?_)⟩)⟩
  ·obtain⟨i,hi⟩:=nN c
   subst hi
   refine i9 T (uD i edu) (Z:=mL B y q0++(mtK ms++(yL t.c_Yard Y y++trK w' ts))) (bu h2 (by simp)) tb (fun H1 W Q1 E1 g1 up hE=>?_) (fun H3 L3 r g3 tb3 kp3 up fin=>⟨_,U,fin _ (q _ Y B w' s0 ts ms y q0 L3 (.inl ⟨U,U,U,U⟩) rfl rfl (bu g3 (by simp[hL])) (S.mono up) tb3 kp3 (Nat.le_refl _) rfl rfl rfl rfl hk)⟩)
   have g2:=Has.comm (X:=(l1,HO.lst ((bA (some i)).map V.str))::(mL B y q0++mtK ms)) (Y:=yL t.c_Yard Y y) (R:=trK w' ts++W) (bu g1 (by simp))
   have bk:∀ {N:Kn}{H':Hp},Has H' (N++(yL t.c_Yard Y y++(((l1,HO.lst ((bA (some i)).map V.str))::(mL B y q0++mtK ms))++(trK w' ts++W))))->Has H' (N++((l1,HO.lst ((bA (some i)).map V.str))::((mL B y q0++(mtK ms++(yL t.c_Yard Y y++trK w' ts)))++W))):=fun {N H'} hh=>bu (hh.perm ((sw (yL t.c_Yard Y y) ((l1,HO.lst ((bA (some i)).map V.str))::(mL B y q0++mtK ms)) (trK w' ts++W)).append_left N)) (by simp)
   refine⟨_,U,Y.p,Y.dx,_,U,g2.get 1 U,sQ _ _ _,_,U,Y,y,_,n,U,g2,smn,?_⟩
   unfold dU at edu
   cases h8:w'.kf n with
   | none=>
    rw[h8] at edu
    cases edu
    exact .inl ⟨by rw[hk n,h8]; rfl,fun a=>hE H1 [] a g1⟩
   | some k=>
    rw[h8] at edu
    have edu:(if ∃ e:Nat,e<k.many.toNat/\(az y.mates (kE n e)).isSome=true then some 9 else iX sc.at_ n)=some i:=edu
    refine .inr ⟨k,by rw[hk n,h8]; rfl,?_⟩
    by_cases z:∃ e:Nat,e<k.many.toNat/\(az y.mates (kE n e)).isSome=true
    ·rw[if_pos z] at edu
     cases edu
     obtain⟨e,he,hv⟩:=z
     exact .inl ⟨⟨e,by omega,by omega,fun u=>by rw[u] at hv; cases hv⟩,fun H' N a hh=>hE H' N a (bk hh)⟩
    ·rw[if_neg z] at edu
     unfold iX at edu
     cases hat:sc.at_ with
     | none=>rw[hat] at edu; cases edu
     | some u=>
      rw[hat] at edu
      dsimp only at edu
      by_cases c3:u.2.1=n
      ·rw[if_pos c3] at edu
       cases edu
       refine .inr ⟨fun e e0 e1=>?_,⟨u.1,u.2.2,by rw[R.en,hat]; rfl,?_⟩,fun H' a hh=>hE H' [] a (bk (N:=[]) hh)⟩
       ·cases h9:az y.mates (kE n e) with
        | none=>rfl
        | some v=>exact(z ⟨e.toNat,by omega,by rw[Int.toNat_of_nonneg e0,h9]; rfl⟩).elim
       ·rw[<- c3]
        exact wD _ (wD _ (up _ (pe u hat) (fun _ h=>by cases h)))
      ·rw[if_neg c3] at edu; cases edu
  ·have hn:du=none:=nO c
   subst hn
   unfold dU at edu
   obtain⟨k,hkk⟩:∃ k,w'.kf n=some k:=by
    cases h8:w'.kf n with
    | none=>rw[h8] at edu; cases edu
    | some k=>exact⟨k,U⟩
   rw[hkk] at edu
   have edu:(if ∃ e:Nat,e<k.many.toNat/\(az y.mates (kE n e)).isSome=true then some 9 else iX sc.at_ n)=(none:Option Nat):=edu
   have z:¬ ∃ e:Nat,e<k.many.toNat/\(az y.mates (kE n e)).isSome=true:=fun z=>by rw[if_pos z] at edu; cases edu
   rw[if_neg z] at edu
   have he:∀ u,sc.at_=some u->u.2.1≠n:=fun u hu c3=>by
    unfold iX at edu
    rw[hu] at edu
    dsimp only at edu
    rw[if_pos c3] at edu
    cases edu
   have hm:∀ e:Int,0<=e->e<k.many->az y.mates (kE n e)=none:=fun e e0 e1=>by
    cases h9:az y.mates (kE n e) with
    | none=>rfl
    | some v=>exact(z ⟨e.toNat,by omega,by rw[Int.toNat_of_nonneg e0,h9]; rfl⟩).elim
   have hmf:∀ e:Int,0<=e->e<k.many->w'.mf n e=none:=fun e e0 e1=>by
    have:=hm e e0 e1
    rw[R.mt] at this
    cases h9:w'.mf n e with
    | none=>rfl
    | some v=>rw[h9] at this; cases this
   have h3:Has H2 (hL t.c_Yard Y B w' ts ms y q0 L):=h2.tail
   have vk:az y.kinds (Sum.inl n)=some (.str k.str):=by rw[hk n,hkk]; rfl
   refine⟨_,⟨_,U,gv (h3.get 0 U)⟩,B.k,U,.inl ⟨_,.inl (h3.get 1 U)⟩,_,U,_,Sum.inl n,_,h3.get 1 U,U,vk,?_⟩
   have h4:=h3.puti 1 U (.dK (ar y.kinds (Sum.inl n)))
   generalize upd H2 B.k _=H4 at h4 ⊢
   refine⟨fun σ' H'=>σ'=[some (.ref Y.p),some (.ref B.m),some (.int n),some (.ref l1)]/\Has H' (mL B { y with kinds:=ar y.kinds (Sum.inl n),notes:=ar y.notes (Sum.inl n) } q0++(mtK ms++(yL t.c_Yard Y y++(trK w' ts++L)))),?_,?_⟩
   ·exact⟨_,⟨_,U,ny (h4.get 0 U)⟩,B.n,U,.inl ⟨_,.inl (h4.get 2 U)⟩,_,U,_,Sum.inl n,h4.get 2 U,U,su (R:=fun H'=>_=_/\Has H' _) 2 h4 rfl (fun H' h=>⟨U,h⟩)⟩
   rintro _ H5 ⟨rfl,h5⟩
   refine⟨fun σ' H'=>σ'=[some (.ref Y.p),some (.ref B.m),some (.int n),some (.ref l1)]/\Has H' (mL B { y with kinds:=ar y.kinds (Sum.inl n),notes:=ar y.notes (Sum.inl n),rods:=ar y.rods (Sum.inl n),trail:=[] } q0++(mtK ms++(yL t.c_Yard Y y++(trK w' ts++L)))),?_,?_⟩
   ·exact⟨_,⟨_,U,jM (h5.get 0 U)⟩,B.r,U,.inl ⟨_,.inl (h5.get 3 U)⟩,_,U,_,Sum.inl n,h5.get 3 U,U,su (R:=fun H'=>_=_/\Has H' _) 3 h5 rfl (fun H' h=>⟨U,h⟩)⟩
   rintro _ H6 ⟨rfl,h6⟩
   clear h5 h4 h3 h2
   obtain⟨y2,ey2⟩:∃ y2:YR,{ y with kinds:=ar y.kinds (Sum.inl n),notes:=ar y.notes (Sum.inl n),rods:=ar y.rods (Sum.inl n),trail:=[] }=y2:=⟨_,U⟩
   have R2:=R.lift sy hkk hmf he
   have K2:KfOk y2 (w'.lift n).kf:=by rw[<- ey2]; exact hk.lift n
   rw[ey2] at h6 R2
   have en2:y2.next=y.next:=by rw[<- ey2]
   refine⟨(sz_ 0),fun g hg=>?_⟩
   have h7:=h6.alloc hg (.lst [])
   have h8:=h7.puti 1 U (.dK (mfl { B with tr:=g } q0.at_ y2.next))
   refine⟨_,U,B.m,_,U,iw (h7.get 1 U) g,?_⟩
   have h9:Has _ (mL { B with tr:=g } y2 ⟨q0.sides,q0.at_,q0.rung,[]⟩++(yL t.c_Yard Y y++L)):=lc (Tr:=trK w' ts) (M:=mtK ms) (a7:=(B.tr,.lst q0.tr)) h8
   have h10:=Has.comm (X:=mL { B with tr:=g } y2 ⟨q0.sides,q0.at_,q0.rung,[]⟩) (Y:=yL t.c_Yard Y y) (R:=L) h9
   refine⟨_,U,Y.p,Y.dx,_,U,h10.get 1 U,sQ _ _ _,_,U,Y,y,_,n,k,U,h10,vk,hm,?_,fun H11 q11 h11=>⟨U,?_⟩⟩
   ·cases hat:sc.at_ with
    | none=>exact .inl (by rw[R.en,hat]; rfl)
    | some u=>exact .inr ⟨u.1,u.2.1,u.2.2,by rw[R.en,hat]; rfl,wD _ (pe u hat),he u hat⟩
   rw[ey2] at h11
   have h12:=Has.comm (X:=yL t.c_Yard { Y with tr:=q11 } y2) (Y:=mL { B with tr:=g } y2 ⟨q0.sides,q0.at_,q0.rung,[]⟩) (R:=L) h11
   refine q H11 { Y with tr:=q11 } { B with tr:=g } (w'.lift n) sc [] [] y2 ⟨q0.sides,q0.at_,q0.rung,[]⟩ L (.inr ⟨U,by rw[<- ey2],by rw[<- ey2],by rw[<- ey2]⟩) rfl rfl h12 ⟨R2.okw,R2,⟨M.sd,M.at_,M.rg⟩,U,U,by rw[<- ey2]; rfl,U,S.pm,pe⟩ tb (fun z hz _=>hz) (Nat.zero_le _) (by rw[<- ey2]) (by rw[<- ey2]) en2 (by rw[<- ey2]) K2
end
def qLy:Str:=("_law_lay" : Str)++Str.ofString ".<locals>." ++ "<lambda>"
def cz:Option Int->V
 | none=>.non
 | some r=>.int r
def ly1 (k:Kd) (tone:Int):Option Nat:=if k=.bell/\9999<tone then some 3 else none
def ly2 (k:Kd) (tone:Int) (bar:Option Int) (len:Int):Option Nat :=
 match bar with
 | none=>ly1 k tone
 | some r=>if k.point=true/\len<=r then some 5 else ly1 k tone
theorem sN (k:Kd) (tone:Int):∀ i,ly1 k tone=some i->i<22:=fun i h=>by
 unfold ly1 at h
 split at h
 ·cases h; decide
 ·cases h
theorem ly222 (k:Kd) (tone:Int) (bar:Option Int) (len:Int):∀ i,ly2 k tone bar len=some i->i<22:=fun i h=>by
 unfold ly2 at h
 split at h
 ·exact sN _ _ _ h
 ·split at h
  ·cases h; decide
  ·exact sN _ _ _ h
theorem lyN {k:Kd}{tone:Int}{bar:Option Int}{len:Int}:∀ i,ly2 k tone bar len=some i->okN i:=by
 have h1:∀ i,ly1 k tone=some i->okN i:=fun i h=>by
  unfold ly1 at h
  split at h
  ·cases h; exact .inr (.inr (.inl rfl))
  ·cases h
 intro i h
 unfold ly2 at h
 split at h
 ·exact h1 i h
 ·split at h
  ·cases h; exact .inr (.inr (.inr (.inr (.inl rfl))))
  ·exact h1 i h
theorem oX {κ:Type} [DecidableEq κ] {kvs:List (κ×V)}{k:κ} (v v':V) (h:az kvs k=none):aG (aG kvs k v) k v'=aG kvs k v':=by
 rw[hU v h,hU v' h]
 unfold aG
 rw[if_pos (by simp),wL]
 have e:∀ p ∈ kvs,¬ p.1=k:=fun p hp c=>by
  have a:=de k kvs
  rw[h] at a
  exact absurd (List.any_eq_true.mpr ⟨p,hp,decide_eq_true c⟩) (by rw[a]; decide)
 have e2:kvs.map (fun kv=>if kv.1=k then(kv.1,v') else kv)=kvs:=(List.map_congr_left (g:=fun p=>p) (fun p hp=>if_neg (e p hp))).trans (List.map_id' kvs)
 rw[e2]
 simp
theorem Kd.three (k:Kd):decide (V.int k.many=V.int 3)=k.point:=by cases k <;> rfl
theorem Kd.bell_np {k:Kd} (h:k=.bell):k.point=false:=by rw[h]; rfl
theorem KfOk.lay {y:YR}{W:Wd} (h:KfOk y W.kf) (k:Kd) (note r:Int) (rod:V):KfOk (dq y k note rod) (W.lay y.next k note r).kf:=fun i=>by
 show az (aG y.kinds (Sum.inl y.next) (.str k.str)) (Sum.inl i)=Option.map _ (if i=y.next then some k else W.kf i)
 rw[b7]
 by_cases c:i=y.next
 ·rw[if_pos c,if_pos (by rw[c])]; rfl
 ·rw[if_neg c,if_neg (fun e=>c (Sum.inl.inj e))]; exact h i
inductive sp_llay (C Pt:Addr) (vs:List V) (H:Hp) (Q:VK) (E_:XK):Prop
 | mk (A:YA) (B:MA) (w:Wd) (s0:Sd) (ts:List (Addr×Sd)) (ms:List (Addr×Addr×Sd)) (y:YR) (q:MR) (L:Kn) (k:Kd) (tone:Int) (bar:Option Int) (_:vs=[.ref A.p,.ref B.m,.str k.str,.int tone,cz bar]) (_:Has H (hL C A B w ts ms y q L)) (_:St11 w s0 ts ms y q L) (_:KfOk y w.kf) (_:Fre y) (_:Small y) (_:Tb L Pt qLy) (_:0<=tone) (_:tone<=100000) (_:(∀ r,bar=some r->0<=r/\r<=100000)) (_:∀ H' A' B' w1 s0' ts' ms' y' q' L',(w1=w/\y'=y∨∃ r,w1=w.lay y.next k tone r/\y'=dq y k tone (cz bar))->A'.p=A.p->B'.m=B.m->Has H' (hL C A' B' w1 ts' ms' y' q' L')->St11 w1 s0' ts' ms' y' q' L'->Tb L' Pt qLy->(∀ z ∈ L,z.1≠Pt->z ∈ L')->ts'.length<=ts.length->KfOk y' w1.kf->Q (.bl true) H'):sp_llay C Pt vs H Q E_
section
variable {P:Program}{w:World}{K:PySem.W.Frag}{mg:Str->Option Value}{base:Heap}{t:Adr}
theorem scLly:FnScope ["_law_yard","_law_m","_law_kind_here","_law_tone","_law_bar","_law_due_here","_law_piece","_law_good"] ["_law_yard","_law_m","_law_kind_here","_law_tone","_law_bar"] (aj oK):={}
theorem mh (T:Txt K mg t) (kb:K.In base) (hbm:BM base mg):FnOk P w K mg base CX0 12 t.f_lay t.d_lay ["_law_yard","_law_m","_law_kind_here","_law_tone","_law_bar"] (sp_llay t.c_Yard t.p_lay):=by
 obtain⟨_,hd_Jx_4,hb_Jx_4⟩:=rF T
 refine T.F_lay.okC scLly (fun vs H Q E h=>?_) (fun cdv A outer s H vs Q E hcdv hr h=>?_)
 ·obtain⟨_,_,_,_,_,_,_,_,_,_,_,_,rfl,_⟩:=h
  rfl
 ·obtain⟨Y,B,w',s0,ts,ms,y,q0,L,k,tone,bar,rfl,hH,S,hk,fre,smy,tb,t0,t1,br,q⟩:=h
  have hu:=bi hr
  obtain⟨cc,ecd,hch⟩:=T.tb_lay
  have ecdv:cdv=.ref cc:=hcdv.symm.trans ecd
  subst ecdv
  have hCH:PySem.W.CodeHd base cc t.p_lay:=PySem.W.codeHd_of_K kb hch
  have sm:∀ b:Int,b.natAbs<=1000000->L2.Small b:=fun b hb=>dh (Nat.lt_of_le_of_lt hb (by decide))
  have lq:q0.sides=y.sides:=by rw[S.mq.sd,S.rep.sd]
  refine⟨_,(ae (ax (i:=5) scLly.nd rfl (Or.inl rfl) (aN af))
   (ae (bo (au (PW.pt (bM (ak bp (pv 2) ah (am _)) (bq (ak fO (pv 3) ai (am _)))))
    (ag (ax (i:=5) scLly.nd rfl (Or.inl rfl) (aN (aa ah af))))
    al))
   (ae (bo (au (PW.pt (bM (ak bp (pcl (e9 T) hr T.m_many T.F_many.kp (gF T) (aa (pv 2) af)) ai (am _)) (bM (ak cZ (pv 4) aK (am _)) (bq (ak ii (pv 4) (ay aL (by rfl) T.z_len (by rfl) (aa (aB (aq hu (pv 1) ah)) af)) (am _))))))
    (ag (ax (i:=5) scLly.nd rfl (Or.inl rfl) (aN (aa ah af))))
    al))
   (ae (bo (au (ak (eN hr.units) (pv 5) (aN af) (am _))
    (ag (ap (bC (dE hr.units) (c9 (kd:=7) (N':=["_law_kind_here","_law_tone","_law_bar","_law_yard"]) [2,3,4,0] (gq T) (hr.mono (by decide)) (by rfl) T.m_J11 T.F_J11.kp rfl hCH hbm (fun _=>rfl) rfl rfl rfl rfl rfl (by decide +kernel) (esc:=aj oK) rfl (by decide +kernel) (by decide +kernel) (by rfl) (fun _ _ _ _ _=>rfl) (fun _ _ _ _ _ _ _ _ hr1=>by exact(aH (pv 3) T.cl_Yard T.M_Jx (ug T) hr1 hb_Jx_4 hd_Jx_4 jd (aa (pv 0) (aa (pv 1) (aa (pv 2) af)))))) (pv 5) (am _))))
    al))
   (ae (ax (i:=6) scLly.nd rfl (Or.inl rfl) (aB (aq hu (pv 1) ah)))
   (ae (ax (i:=7) scLly.nd rfl (Or.inl rfl) (pcl (fR T) hr T.m_is T.F_is.kp (jZ T) (aa (aH (pv 0) T.cl_Yard T.M_Jx (ok_Jx T) hr hb_Jx_4 hd_Jx_4 aM (aa (pv 2) (aa (pv 3) (aa (pv 4) af)))) (aa (pv 6) af))))
   (ae (aJ hu (pv 1) ah (aC ba (pv 6) ai) rfl)
   (ae (aJ hu (aB (aq hu (pv 1) ah)) (pv 6) (pv 2) rfl)
   (ae (bo (au (ak bp (pv 2) ah (am _))
    (ag (aJ hu (aB (aq hu (pv 1) ah)) (pv 6) (pv 3) rfl))
    al))
   (ae (bo (au (ak bp (pcl (e9 T) hr T.m_many T.F_many.kp (gF T) (aa (pv 2) af)) ai (am _))
    (ae (aJ hu (aB (aq hu (pv 1) ah)) (pv 6) (pv 4) rfl)
     (ag (bo (au (ak cm (pv 4) aK (am _))
      (ae (aJ hu (aB (aq hu (pv 1) ah)) (pv 6) (ay aL (by rfl) T.z_len (by rfl) (aa (aB (aq hu (pv 1) ah)) af)) rfl)
       (ag (av (fi PySem.F.plainAttrs_list PySem.F.slot_list_append PySem.F.type_list_append bW (aB (aq hu (pv 1) ah)) (aa ai af)))))
      al))))
    al))
   (ae (aJ hu (pv 1) ah (aN af) rfl)
   (ag (ap (pv 7)))))))))))))),?_⟩
  rw[show L2.start ["_law_yard","_law_m","_law_kind_here","_law_tone","_law_bar","_law_due_here","_law_piece","_law_good"] [V.ref Y.p,V.ref B.m,V.str k.str,V.int tone,cz bar]=([some (V.ref Y.p),some (V.ref B.m),some (V.str k.str),some (V.int tone),some (cz bar),none,none,none]:St) from rfl]
  refine⟨(sz_ 0),fun l0 hl0=>?_⟩
  have h1:=hH.alloc hl0 (.lst [])
  dsimp only[List.set]
  refine⟨fun σ' H'=>∃ l,σ'=[some (.ref Y.p),some (.ref B.m),some (.str k.str),some (.int tone),some (cz bar),some (.ref l),none,none]/\Has H' ((l,.lst ((bA (ly1 k tone)).map V.str))::hL t.c_Yard Y B w' ts ms y q0 L),?_,?_⟩
  ·refine⟨_,U,U,_,U,?_⟩
   rw[k.isBell]
   refine ifd (fun kb=>?_) (fun kb=>bL ⟨l0,U,?_⟩)
   ·refine⟨_,U,_,_,U,U,_,U,if2 (fun c=>?_) (fun c=>?_)⟩
    ·have c:=of_decide_eq_true c
     refine⟨(sz_ 1),fun l hl=>⟨l,U,?_⟩⟩
     unfold ly1
     rw[if_pos ⟨kb,c⟩]
     exact h1.tail.alloc hl _
    ·have c:=of_decide_eq_false c
     refine⟨l0,U,?_⟩
     unfold ly1
     rw[if_neg (fun z=>c z.2)]
     exact h1
   ·unfold ly1
    rw[if_neg (fun z=>kb z.1)]
    exact h1
  rintro _ H2 ⟨l2,rfl,h2⟩
  clear h1 hl0
  obtain⟨du,edu⟩:∃ du,ly2 k tone bar y.sides.length=du:=⟨_,U⟩
  have hb:∀ i,du=some i->i<22:=by rw[<- edu]; exact ly222 _ _ _ _
  refine⟨fun σ' H'=>∃ l,σ'=[some (.ref Y.p),some (.ref B.m),some (.str k.str),some (.int tone),some (cz bar),some (.ref l),none,none]/\Has H' ((l,.lst ((bA du).map V.str))::hL t.c_Yard Y B w' ts ms y q0 L),?_,?_⟩
  ·refine⟨_,U,k,U,U,_,U,?_⟩
   rw[k.three]
   cases kp:k.point with
   | false=>
    refine ifF rfl (bL ⟨l2,U,?_⟩)
    have:du=ly1 k tone:=by
     rw[<- edu]
     unfold ly2
     cases bar with
     | none=>rfl
     | some r=>exact if_neg (fun z=>by rw[kp] at z; cases z.1)
    rw[this]
    exact h2
   | true=>
    refine ifT rfl ?_
    cases bar with
    | none=>exact⟨_,U,U,_,U,ifF rfl (bL ⟨l2,U,by rw[<- edu]; exact h2⟩)⟩
    | some r=>
     refine⟨_,U,U,_,U,ifT rfl ?_⟩
     refine⟨_,U,_,⟨_,U,fS (h2.get 1 U)⟩,B.s,_,U,.inl (SqL.of (h2.get 5 U)),_,_,U,U,_,U,if2 (fun c=>?_) (fun c=>?_)⟩
     ·have c:=of_decide_eq_true c
      refine⟨(sz_ 1),fun l hl=>⟨l,U,?_⟩⟩
      have:du=some 5:=by rw[<- edu]; exact if_pos ⟨kp,by rw[<- lq]; exact c⟩
      rw[this]
      exact h2.tail.alloc hl _
     ·have c:=of_decide_eq_false c
      refine⟨l2,U,?_⟩
      have:du=ly1 k tone:=by rw[<- edu]; exact if_neg (fun z=>c (by rw[lq]; exact z.2))
      rw[this]
      exact h2
  rintro _ H3 ⟨l1,rfl,h3⟩
  clear h2
  refine⟨fun σ' H'=>du=none/\σ'=[some (.ref Y.p),some (.ref B.m),some (.str k.str),some (.int tone),some (cz bar),some (.ref l1),none,none]/\Has H' (hL t.c_Yard Y B w' ts ms y q0 L),?_,?_⟩
  ·refine⟨_,U,nS hb h3 (fun H2 h2=>⟨_,U,if2 (fun c=>?_) (fun c=>?_)⟩)⟩
   ·obtain⟨i,hi⟩:=nN c
    subst hi
    refine i9 T (lyN i edu) (Z:=mL B y q0++(mtK ms++(yL t.c_Yard Y y++trK w' ts))) (bu h2 (by simp[hL])) tb (fun H1 W Q1 E1 g1 up hE=>?_) (fun H3 L3 r g3 tb3 kp3 up fin=>⟨_,U,fin _ (q _ Y B w' s0 ts ms y q0 L3 (.inl ⟨U,U⟩) rfl rfl (bu g3 (by simp[hL])) (S.mono up) tb3 kp3 (Nat.le_refl _) hk)⟩)
    have g2:=Has.comm (X:=(l1,HO.lst ((bA (some i)).map V.str))::(mL B y q0++mtK ms)) (Y:=yL t.c_Yard Y y) (R:=trK w' ts++W) (bu g1 (by simp))
    refine⟨_,U,Y.p,Y.dx,_,U,g2.get 1 U,(bY _ _ _).1,_,U,_,U,_,U,Y,y,_,k.str,tone,cz bar,U,g2,?_⟩
    have f1:ly1 k tone=some i->k=.bell/\9999<tone/\i=3:=fun h=>by
     unfold ly1 at h
     split at h
     ·rename_i z; cases h; exact⟨z.1,z.2,U⟩
     ·cases h
    by_cases z:∃ r,bar=some r/\k.point=true/\(y.sides.length:Int)<=r
    ·obtain⟨r,rfl,z⟩:=z
     have e5:(some 5:Option Nat)=some i:=(if_pos z).symm.trans edu
     cases e5
     have:=br r rfl
     exact .inr (.inr ⟨k,r,U,z.1,U,.inr z.2,sm r (by omega),fun a=>hE H1 [] a g1⟩)
    ·have e3:ly1 k tone=some i:=by
      cases bar with
      | none=>exact edu
      | some r=>exact(if_neg (fun z'=>z ⟨r,U,z'⟩)).symm.trans edu
     obtain⟨rfl,c2,rfl⟩:=f1 e3
     exact .inr (.inl ⟨U,.inr c2,sm tone (by omega),fun a=>hE H1 [] a g1⟩)
   ·exact⟨nO c,U,h2.tail⟩
  rintro _ H4 ⟨rfl,rfl,h4⟩
  clear h3
  have okb:k=.bell->tone<=9999:=fun e=>by
   have kp:=Kd.bell_np e
   have:ly1 k tone=none:=by
    cases bar with
    | none=>exact edu
    | some r=>exact(if_neg (fun z=>by rw[kp] at z; cases z.1)).symm.trans edu
   unfold ly1 at this
   by_cases c:9999<tone
   ·rw[if_pos ⟨e,c⟩] at this; cases this
   ·omega
  have okp:k.point=true->cz bar≠.non->∃ r:Int,cz bar=.int r/\0<=r/\r<y.sides.length:=fun kp nb=>by
   cases bar with
   | none=>exact absurd rfl nb
   | some r=>
    refine⟨r,U,(br r rfl).1,?_⟩
    by_cases c:(y.sides.length:Int)<=r
    ·have:(some 5:Option Nat)=none:=(if_pos ⟨kp,c⟩).symm.trans edu
     cases this
    ·omega
  obtain⟨f1,f2,f3⟩:=fre y.next (Int.le_refl _)
  refine⟨_,⟨_,U,mw (h4.get 0 U)⟩,?_⟩
  dsimp only[List.set]
  have h5:=Has.comm (X:=mL B y q0++mtK ms) (Y:=yL t.c_Yard Y y) (R:=trK w' ts++L) (bu h4 (by simp[hL]))
  refine⟨_,U,Y.p,Y.dx,_,U,h5.get 1 U,(bY _ _ _).1,_,U,_,U,_,U,Y,y,_,k,tone,cz bar,U,h5,smy,fun e=>⟨t0,okb e⟩,okp,fun H6 q6 h6=>?_⟩
  refine⟨_,U,_,_,U,?_⟩
  rw[decide_eq_true rfl]
  dsimp only[List.set]
  obtain⟨y1,ey1⟩:∃ y1,dq y k tone (cz bar)=y1:=⟨_,U⟩
  rw[ey1] at h6
  have h7:Has H6 (mL B y q0++(mtK ms++(yL t.c_Yard { Y with tr:=q6 } y1++(trK w' ts++L)))):=bu (Has.comm (X:=yL t.c_Yard { Y with tr:=q6 } y1) (Y:=mL B y q0++mtK ms) (R:=trK w' ts++L) h6) (by simp)
  obtain⟨R1,eR1⟩:∃ R1:Kn,mtK ms++(yL t.c_Yard { Y with tr:=q6 } y1++(trK w' ts++L))=R1:=⟨_,U⟩
  rw[eR1] at h7
  clear h6 h5 h4
  refine⟨_,U,_,_,U,U,_,U,B.m,_,U,sM (h7.get 0 U) _,?_⟩
  have h8:=h7.puti 0 U (.dK (mfl B q0.at_ (y.next+1)))
  refine⟨_,U,_,⟨_,U,gv (h8.get 0 U)⟩,_,U,B.k,_,U,DPut.k (k:=.inl y.next) (h8.get 1 U) (aS (by have:=smy.k; omega)),?_⟩
  have h9:Has _ (mL B { y with next:=y.next+1,kinds:=aG y.kinds (.inl y.next) (.str k.str) } q0++R1):=h8.puti 1 U (.dK (aG y.kinds (.inl y.next) (.str k.str)))
  generalize upd _ B.k _=H9 at h9 ⊢
  clear h8 h7
  refine⟨fun σ' H'=>σ'=[some (.ref Y.p),some (.ref B.m),some (.str k.str),some (.int tone),some (cz bar),some (.ref l1),some (.int y.next),some (.bl true)]/\Has H' (mL B { y with next:=y.next+1,kinds:=aG y.kinds (.inl y.next) (.str k.str),notes:=y1.notes } q0++R1),?_,?_⟩
  ·refine⟨_,U,U,_,U,?_⟩
   rw[k.isBell]
   refine ifd (fun kb=>?_) (fun kb=>⟨U,?_⟩)
   ·refine⟨_,U,_,⟨_,U,ny (h9.get 0 U)⟩,_,U,B.n,_,U,DPut.k (k:=.inl y.next) (h9.get 2 U) (aS (by show y.notes.length<=_; have:=smy.n; omega)),U,?_⟩
    rw[<- ey1,show(dq y k tone (cz bar)).notes=aG y.notes (.inl y.next) (.int tone) from if_pos kb]
    exact h9.puti 2 U (.dK (aG y.notes (.inl y.next) (.int tone)))
   ·rw[<- ey1,show(dq y k tone (cz bar)).notes=y.notes from if_neg kb]
    exact h9
  rintro _ H10 ⟨rfl,h10⟩
  clear h9
  refine⟨fun σ' H'=>σ'=[some (.ref Y.p),some (.ref B.m),some (.str k.str),some (.int tone),some (cz bar),some (.ref l1),some (.int y.next),some (.bl true)]/\Has H' (mL B y1 { q0 with sides:=y1.sides }++R1),?_,?_⟩
  ·refine⟨_,U,k,U,U,_,U,?_⟩
   rw[k.three]
   cases kp:k.point with
   | false=>
    refine ifF rfl ⟨U,?_⟩
    have e1:(dq y k tone (cz bar)).rods=y.rods:=if_neg (by rw[kp]; decide)
    have e2:(dq y k tone (cz bar)).sides=y.sides:=if_neg (fun z=>by rw[kp] at z; cases z.1)
    rw[<- ey1] at h10 ⊢
    unfold mL at h10 ⊢
    rw[e1,e2,<- lq]
    exact h10
   | true=>
    refine ifT rfl ⟨_,U,_,⟨_,U,jM (h10.get 0 U)⟩,_,U,B.r,_,U,DPut.k (k:=.inl y.next) (h10.get 3 U) (aS (by show y.rods.length<=_; have:=smy.r; omega)),?_⟩
    have h11:Has _ (mL B { y with next:=y.next+1,kinds:=aG y.kinds (.inl y.next) (.str k.str),notes:=y1.notes,rods:=aG y.rods (.inl y.next) (cz bar) } q0++R1):=h10.puti 3 U (.dK (aG y.rods (.inl y.next) (cz bar)))
    generalize upd _ B.r _=H11 at h11 ⊢
    refine⟨fun σ' H'=>σ'=[some (.ref Y.p),some (.ref B.m),some (.str k.str),some (.int tone),some (cz bar),some (.ref l1),some (.int y.next),some (.bl true)]/\Has H' (mL B y1 { q0 with sides:=y1.sides }++R1),?_,fun _ _ z=>z⟩
    cases bar with
    | some r=>
     refine⟨_,U,U,_,U,ifF rfl ⟨U,?_⟩⟩
     have e1:(dq y k tone (cz (some r))).rods=aG y.rods (.inl y.next) (cz (some r)):=if_pos kp
     have e2:(dq y k tone (cz (some r))).sides=y.sides:=if_neg (fun z=>nomatch z.2)
     rw[<- ey1] at h11 ⊢
     unfold mL at h11 ⊢
     rw[e1,e2,<- lq]
     exact h11
    | none=>
     refine⟨_,U,U,_,U,ifT rfl ?_⟩
     have pp:aG (aG y.rods (.inl y.next) (cz none)) (.inl y.next) (.int q0.sides.length)=aG y.rods (.inl y.next) (.int q0.sides.length):=oX _ _ f3
     refine⟨_,⟨_,U,fS (h11.get 0 U)⟩,B.s,_,U,.inl (SqL.of (h11.get 4 U)),_,⟨_,U,jM (h11.get 0 U)⟩,_,U,B.r,_,U,DPut.k (k:=.inl y.next) (h11.get 3 U) (aS (by have:=bF y.rods (.inl y.next) (cz none); have:=smy.r; show(aG y.rods (.inl y.next) (cz none)).length<=_; omega)),?_⟩
     have h12:=h11.puti 3 U (.dK (aG (aG y.rods (.inl y.next) (cz none)) (.inl y.next) (.int q0.sides.length)))
     refine⟨_,⟨_,U,fS (h12.get 0 U)⟩,.inl ⟨U,_,SqL.of (h12.get 4 U)⟩,B.s,_,_,U,U,h12.get 4 U,aS (by rw[lq]; have:=smy.s; omega),U,?_⟩
     have h13:=h12.puti 4 U (.lst (q0.sides++[.int 1]))
     have e1:(dq y k tone (cz none)).rods=aG y.rods (.inl y.next) (.int y.sides.length):=if_pos kp
     have e2:(dq y k tone (cz none)).sides=y.sides++[.int 1]:=if_pos ⟨kp,U⟩
     rw[<- ey1] at h13 ⊢
     unfold mL at h13 ⊢
     rw[e1,e2,<- lq,<- pp]
     exact h13
  rintro _ H14 ⟨rfl,h14⟩
  clear h10
  refine⟨(sz_ 0),fun g hg=>?_⟩
  have h15:=h14.alloc hg (.lst [])
  have h16:=h15.puti 1 U (.dK (mfl { B with tr:=g } q0.at_ y1.next))
  refine⟨_,U,B.m,_,U,iw (h15.get 1 U) g,_,U,?_⟩
  rw[<- eR1] at h16
  have h17:Has _ (mL { B with tr:=g } y1 ⟨y1.sides,q0.at_,q0.rung,[]⟩++(yL t.c_Yard { Y with tr:=q6 } y1++L)):=lc (Tr:=trK w' ts) (M:=mtK ms) (a7:=(B.tr,.lst q0.tr)) h16
  obtain⟨sc,esc⟩:∃ sc,w'.go ts.length s0=sc:=⟨_,U⟩
  have R:=S.rep
  have M:=S.mq
  rw[esc] at R M
  have pl0:Pool w' s0 L:=⟨fun n e z hz=>List.getElem?_of_mem (S.pm n e z hz),fun z hz=>List.getElem?_of_mem (S.pe z hz)⟩
  have pe:∀ z,sc.at_=some z->(z.1,HO.tup [.int z.2.1,.int z.2.2]) ∈ L:=fun z hz=>by
   rw[<- esc] at hz
   obtain⟨j,hj⟩:=(pl0.go ts.length).e z hz
   exact wI hj
  have hf:w'.kf y.next=none:=by
   have:=hk y.next
   rw[f1] at this
   cases h9:w'.kf y.next with
   | none=>rfl
   | some k=>rw[h9] at this; cases this
  have ls:y.sides.length=sc.ss.length:=by rw[R.sd,wF]
  obtain⟨r,ss',R2⟩:∃ r ss',Rep (w'.lay y.next k tone r) ⟨ss',sc.at_,sc.rg⟩ (dq y k tone (cz bar)):=by
   cases bar with
   | none=>
    refine⟨sc.ss.length,if k.point=true then sc.ss++[1] else sc.ss,R.lay fre hf k tone _ _ _ (fun kp=>.inl ⟨U,U,if_pos kp⟩) (fun kp=>if_neg (by rw[kp]; decide))⟩
   | some r=>
    refine⟨r,sc.ss,R.lay fre hf k tone _ _ _ (fun kp=>.inr ?_) (fun _=>rfl)⟩
    obtain⟨r',er,r0,r1⟩:=okp kp (fun z=>nomatch z)
    cases er
    exact⟨U,r0,by omega,U⟩
  have K2:=hk.lay k tone r (cz bar)
  rw[ey1] at R2 K2
  have etr:y1.trail=[]:=by rw[<- ey1]; rfl
  exact q _ { Y with tr:=q6 } { B with tr:=g } (w'.lay y.next k tone r) ⟨ss',sc.at_,sc.rg⟩ [] [] y1 ⟨y1.sides,q0.at_,q0.rung,[]⟩ L (.inr ⟨r,U,ey1.symm⟩) rfl rfl h17 ⟨R2.okw,R2,⟨R2.sd,M.at_,M.rg⟩,U,U,etr,U,S.pm,pe⟩ tb (fun z hz _=>hz) (Nat.zero_le _) K2
end
def jO (KS:List (Int×Kd)):List (Key×V):=KS.map fun p=>(.inl p.1,.str p.2.str)
theorem nC (KS:List (Int×Kd)):((jO KS).map fun kv=>kV kv.1)=(KS.map (·.1)).map V.int:=by unfold jO; rw[xg,xg]; rfl
theorem sP (n:Nat):eO n=((List.range n).map Int.ofNat).map V.int:=by rw[xg]; rfl
theorem j6 {κ:Type} [DecidableEq κ] {kvs:List (κ×V)}{p:κ×V} (h:p ∈ kvs):∃ v,az kvs p.1=some v:=by
 have:=de p.1 kvs
 rw[List.any_eq_true.mpr ⟨p,h,decide_eq_true rfl⟩] at this
 exact Option.isSome_iff_exists.mp this.symm
def mLz (B:MA) (y:YR) (q:MR) (z:HO):Kn :=
 [(B.m,.dK (mfl B q.at_ y.next)),(B.k,z),(B.n,.dK y.notes),(B.r,.dK y.rods),(B.s,.lst q.sides),(B.mt,.dT y.mates),(B.g,.lst q.rung),(B.tr,.lst q.tr)]
inductive sp_lalike (C:Addr) (vs:List V) (H:Hp) (Q:VK) (E_:XK):Prop
 | mk (A:YA) (B:MA) (w:Wd) (s0:Sd) (ts:List (Addr×Sd)) (ms:List (Addr×Addr×Sd)) (y:YR) (q:MR) (L:Kn) (KS:List (Int×Kd)) (_:vs=[.ref A.p,.ref B.m]) (_:Has H (hL C A B w ts ms y q L)) (_:St11 w s0 ts ms y q L) (_:KfOk y w.kf) (_:y.kinds=jO KS) (_:Small y) (_:y.rung.length<=10000) (_:∀ H',Has H' (hL C A B w ts ms y q L)->Q (.bl true) H'):sp_lalike C vs H Q E_
theorem andD {c:Prop} [Decidable c] {U F G:Prop} (hu:G->c->U) (h:G):if decide c=true then U else(if false=true then F else G):=ifd (hu h) (fun _=>bL h)
theorem vc {b:Bool}{U F G:Prop} (hu:G->b=true->U) (h:G):if b=true then U else(if false=true then F else G):=if2 (hu h) (fun _=>bL h)
section
variable {P:Program}{w:World}{K:PySem.W.Frag}{mg:Str->Option Value}{base:Heap}{t:Adr}
theorem scLak:FnScope ["_law_yard","_law_m","_law_piece","_law_kind_here","_law_place"] ["_law_yard","_law_m"] (aj oT):={}
theorem pC (T:Txt K mg t):FnOk P w K mg base CX0 6 t.f_J71 t.d_J71 ["_law_yard","_law_m"] (sp_lalike t.c_Yard):=by
 refine T.F_J71.ok scLak (fun vs H Q E h=>?_) (fun cdv A outer s H vs Q E hr h=>?_)
 ·obtain⟨_,_,_,_,_,_,_,_,_,_,rfl,_⟩:=h
  rfl
 ·obtain⟨Y,B,w',s0,ts,ms,y,q0,L,KS,rfl,hH,S,hk,ekk,sm,lrg,q⟩:=h
  have hu:=bi hr
  refine⟨_,(ae (au (PW.pt (cQ (bZ (bj (pcl (jI T) hr T.m_Ja1 T.F_Ja1.kp (mR T) (aa (aO (pv 0) T.cl_Yard T.M_Jc (ok_Jc T) hr (b_Jc T) .nil aM) (aa (aZ (f9 rfl) (by rfl) T.z_list (by rfl) (aa (aB (aq hu (pv 1) ah)) af)) af))))) (ck (bZ (bj (pcl (jI T) hr T.m_Ja1 T.F_Ja1.kp (mR T) (aa (aO (pv 0) T.cl_Yard T.M_Jj (ok_Jj T) hr (b_Jj T) .nil aM) (aa (aB (aq hu (pv 1) ah)) af))))))))
    (ag (ap cM))
    al)
   (ae (au (bZ (bj (pcl (jI T) hr T.m_Ja1 T.F_Ja1.kp (mR T) (aa (aO (pv 0) T.cl_Yard T.M_Js (sC T) hr (wm T) .nil aM) (aa (aZ (fq rfl) (by rfl) T.z_list (by rfl) (aa (aZ gP (by rfl) T.z_range (by rfl) (aa (ay aL (by rfl) T.z_len (by rfl) (aa (aB (aq hu (pv 1) ah)) af)) af)) af)) af)))))
    (ag (ap cM))
    al)
   (ae (au (bZ (bj (pcl (jI T) hr T.m_Ja1 T.F_Ja1.kp (mR T) (aa (o8 (esc:=aj oT) (k:=1) ["_law_bar","_law_yard","_law_m","_law_piece","_law_kind_here","_law_place"] rfl (gT (aO (pv 0) T.cl_Yard T.M_Js (sC T) hr (wm T) .nil aM)) (fun _ _ _ _ _=>by exact(aI (i:=0) (show List.Nodup (["_law_bar","_law_yard","_law_m","_law_piece","_law_kind_here","_law_place"]:List Str) from by decide +kernel) rfl (Or.inl rfl))) (fun _ _ _ _ _=>by exact lQ) (fun _ _ _ _ _=>by exact(aH (pv 1) T.cl_Yard T.M_Jq (sD T) hr (wo T) .nil aM (aa (pv 0) af))) rfl (by decide +kernel) (by decide +kernel) rfl (by decide +kernel) (by rfl) (fun _ _ h _=>h) (by decide +kernel)) (aa (aB (aq hu (pv 1) ah)) af)))))
    (ag (ap cM))
    al)
   (ae (au (PW.pt (cQ (bZ (bj (pcl (pA T) hr T.m_Jb1 T.F_Jb1.kp (sW T) (aa (aO (pv 0) T.cl_Yard T.M_Ja (ma T) hr (rE T) .nil aM) (aa (aB (aq hu (pv 1) ah)) af))))) (ck (bZ (bj (pcl (fR T) hr T.m_is T.F_is.kp (jZ T) (aa (aO (pv 0) T.cl_Yard T.M_Jg (sI T) hr (ww T) .nil aM) (aa (ay aL (by rfl) T.z_len (by rfl) (aa (aB (aq hu (pv 1) ah)) af)) af))))))))
    (ag (ap cM))
    al)
   (ae (qL (cK PassesOwn.never rfl (qO (aB (aq hu (pv 1) ah))) (aI (i:=2) scLak.nd rfl (Or.inl rfl))
    (ae (ax (i:=3) scLak.nd rfl (Or.inl rfl) (aq hu (aB (aq hu (pv 1) ah (fun _ _=>rfl))) (pv 2)))
     (ae (au (ak ig (aH (pv 0) T.cl_Yard T.M_Jo (sF T) hr (wq T) .nil aM (aa (pv 2) af)) (pv 3) (am _))
      (ag (ap cM))
      al)
     (ae (au (PW.pt (bM (ak bp (pv 3) ah (am _)) (bq (bZ (bj (pcl (fR T) hr T.m_is T.F_is.kp (jZ T) (aa (aH (pv 0) T.cl_Yard T.M_Jt (ok_Jt T) hr (b_Jt T) .nil aM (aa (pv 2) af)) (aa (aq hu (aB (aq hu (pv 1) ah (fun _ _=>rfl))) (pv 2)) af))))))))
      (ag (ap cM))
      al)
     (ae (au (PW.pt (bM (ak bp (pcl (e9 T) hr T.m_many T.F_many.kp (gF T) (aa (pv 3) af)) ai (am _)) (bq (bZ (bj (pcl (fR T) hr T.m_is T.F_is.kp (jZ T) (aa (aH (pv 0) T.cl_Yard T.M_Jz (sB T) hr (wk T) .nil aM (aa (pv 2) af)) (aa (aq hu (aB (aq hu (pv 1) ah (fun _ _=>rfl))) (pv 2)) af))))))))
      (ag (ap cM))
      al)
     (ag (cK PassesOwn.never rfl (cu (by rfl) T.z_range (aa (pcl (e9 T) hr T.m_many T.F_many.kp (gF T) (aa (pv 3) af)) af)) (aI (i:=4) scLak.nd rfl (Or.inl rfl))
      (ag (au (bZ (bj (pcl (pA T) hr T.m_Jb1 T.F_Jb1.kp (sW T) (aa (aH (pv 0) T.cl_Yard T.M_Jp (sE T) hr (wp T) .nil aM (@aa _ _ _ _ _ (aF (aa (pv 2) (aa (pv 4) af))) af (by rfl))) (aa (ic hu (aB (aq hu (pv 1) ah)) (aF (aa (pv 2) (aa (pv 4) af))) ⟨U,U,U,U⟩) af)))))
        (ag (ap cM))
        al))))))))))
   (ag (ap cM))))))),?_⟩
  rw[show L2.start ["_law_yard","_law_m","_law_piece","_law_kind_here","_law_place"] [V.ref Y.p,V.ref B.m]=([some (V.ref Y.p),some (V.ref B.m),none,none,none]:St) from rfl]
  obtain⟨sc,esc⟩:∃ sc,w'.go ts.length s0=sc:=⟨_,U⟩
  have R:=S.rep
  have M:=S.mq
  rw[esc] at R M
  have pl0:Pool w' s0 L:=⟨fun n e z hz=>List.getElem?_of_mem (S.pm n e z hz),fun z hz=>List.getElem?_of_mem (S.pe z hz)⟩
  have pe:∀ z,sc.at_=some z->(z.1,HO.tup [.int z.2.1,.int z.2.2]) ∈ L:=fun z hz=>by
   rw[<- esc] at hz
   obtain⟨j,hj⟩:=(pl0.go ts.length).e z hz
   exact wI hj
  have ltr:q0.tr.length=y.trail.length:=by
   have a:=congrArg List.length S.hms
   have b:=congrArg List.length S.his
   rw[wF] at a b
   rw[S.qtr,S.ytr]
   unfold mtV trV
   rw[wF,wF]
   exact a.trans b.symm
  have lKS:KS.length<=10000:=by have:=sm.k; rw[ekk] at this; unfold jO at this; rw[wF] at this; exact this
  have lss:sc.ss.length<=10000:=by have:=sm.s; rw[R.sd,wF] at this; exact this
  rw[R.rg,wF] at lrg
  obtain⟨R1,eR1⟩:∃ X:Kn,mtK ms++(trK w' ts++L)=X:=⟨_,U⟩
  have inR:∀ z ∈ L,z ∈ R1:=fun z hz=>by rw[<- eR1]; exact wD _ (wD _ hz)
  have h0:Has H (yL t.c_Yard Y y++(mL B y q0++R1)):=by
   have:=Has.comm (X:=mL B y q0++mtK ms) (Y:=yL t.c_Yard Y y) (R:=trK w' ts++L) (bu hH (by simp[hL]))
   exact bu this (by rw[<- eR1]; simp)
  have back:∀ {H':Hp},Has H' (yL t.c_Yard Y y++(mL B y q0++R1))->Has H' (hL t.c_Yard Y B w' ts ms y q0 L):=fun h=>by
   rw[<- eR1] at h
   have:=Has.comm (X:=yL t.c_Yard Y y) (Y:=mL B y q0++mtK ms) (R:=trK w' ts++L) (bu h (by simp))
   exact bu this (by simp[hL])
  clear hH
  refine⟨_,U,Y.p,Y.dx,_,U,h0.get 1 U,(dm _ _ _).2.2.2.1,Y,y,_,U,h0,fun H1 l h1=>?_⟩
  refine⟨_,⟨_,U,gv (h1.get 10 U)⟩,B.k,_,U,.inl (h1.get 11 U),fun l2 hl2=>?_⟩
  have h2:=h1.alloc hl2 (.lst (y.kinds.map fun kv=>kV kv.1))
  rw[ekk,nC] at h2 ⊢
  refine⟨l,l2,KS.map (·.1),KS.map (·.1),1,0,_,U,h2,U,U,by rw[wF]; omega,fun H3 h3=>?_⟩
  rw[decide_eq_true rfl]
  refine⟨_,U,bL ?_⟩
  replace h3:=h3.tail.tail
  clear h2 h1 hl2 h0
  refine⟨_,U,Y.p,Y.dx,_,U,h3.get 1 U,(dm _ _ _).2.2.2.2.2.2.2.1,Y,y,_,U,h3,fun H4 l4 h4=>?_⟩
  refine⟨_,⟨_,U,pL (h4.get 10 U)⟩,l4,B.g,sc.rg,sc.rg,0,16,_,U,h4,by rw[R.rg]; rfl,by rw[<- M.rg]; rfl,by omega,fun H5 h5=>?_⟩
  rw[decide_eq_true rfl]
  refine⟨_,U,bL ?_⟩
  replace h5:=h5.tail
  clear h4 h3
  refine⟨_,U,Y.p,Y.dx,_,U,h5.get 1 U,(bY _ _ _).2.2.2.1,Y,y,_,U,h5,sm,fun H6 l6 h6=>?_⟩
  refine⟨_,⟨_,U,fS (h6.get 10 U)⟩,B.s,_,U,.inl (SqL.of (h6.get 14 U)),_,U,fun p hp=>?_⟩
  have lq:q0.sides.length=sc.ss.length:=by rw[M.sd,wF]
  have ly:y.sides.length=sc.ss.length:=by rw[R.sd,wF]
  have h7:=h6.alloc hp (.rng 0 (q0.sides.length:Int))
  refine⟨p,_,U,h7.get 0 U,by omega,by omega,fun l8 hl8=>?_⟩
  have h8:=h7.alloc hl8 (.lst (eO (q0.sides.length:Int).toNat))
  rw[show(q0.sides.length:Int).toNat=sc.ss.length by omega,sP] at h8 ⊢
  rw[ly,sP] at h8
  refine⟨l6,l8,(List.range sc.ss.length).map Int.ofNat,(List.range sc.ss.length).map Int.ofNat,2,0,_,U,h8,U,U,by simp; omega,fun H9 h9=>?_⟩
  rw[decide_eq_true rfl]
  refine⟨_,U,bL ?_⟩
  replace h9:=h9.tail.tail.tail
  clear h8 h7 h6 h5 hp hl8
  refine⟨_,U,Y.p,Y.dx,_,U,h9.get 1 U,(bY _ _ _).2.2.2.1,Y,y,_,U,h9,sm,fun H10 rl h10=>?_⟩
  rw[ly] at h10
  refine⟨rl,U,⟨_,SqL.of (h10.get 0 U)⟩,fun D hD=>?_⟩
  refine⟨fun n m zs H'=>m=sc.ss.length - n/\n<=sc.ss.length/\zs=(sc.ss.take n).map V.int/\Has H' ((D,.lst zs)::(rl,.lst (eO sc.ss.length))::(yL t.c_Yard Y y++(mL B y q0++R1))),⟨sc.ss.length,U,Nat.zero_le _,U,h10.alloc hD _⟩,?_⟩
  clear h10 h9 hD
  rintro n m' zs H' ⟨rfl,hn,rfl,h12⟩
  refine⟨h12.get 0 U,?_⟩
  have gl12:SqL K H' rl (eO sc.ss.length):=SqL.of (h12.get 1 U)
  by_cases hlt:n<sc.ss.length
  ·refine .inr ⟨⟨_,_,gl12,gC hlt⟩,?_⟩
   rintro x H2 ⟨rfl,hx1⟩
   have hx2:=hx1 _ gl12
   rw[gC hlt] at hx2
   cases hx2
   refine⟨U,oh ?_⟩
   have gn:y.sides[((n:Nat):Int).toNat]?=some (V.int sc.ss[n]):=by rw[R.sd,Int.toNat_natCast,wM,wH hlt]; rfl
   refine⟨_,U,Y.p,Y.dx,_,U,h12.get 3 U,(bY _ _ _).2.2.2.2.2.1,_,U,Y,y,_,n,V.int sc.ss[n],U,Has.comm (X:=[_,_]) (Y:=yL t.c_Yard Y y) h12,by omega,gn,?_⟩
   refine⟨aS (by rw[wF,wV]; omega),h12.get 0 U,sc.ss.length - (n+1),by omega,U,hlt,?_,h12.puti 0 U _⟩
   rw[List.take_succ,wL,wH hlt]
   rfl
  have en:n=sc.ss.length:=by omega
  subst en
  refine .inl ⟨⟨_,gl12,by rw[c8]; omega⟩,?_⟩
  rw[List.take_length] at h12
  refine⟨_,⟨_,U,fS (h12.get 11 U)⟩,D,B.s,sc.ss,sc.ss,0,15,_,U,h12,U,by rw[<- M.sd]; rfl,by omega,fun H13 h13=>?_⟩
  rw[decide_eq_true rfl]
  refine⟨_,U,bL ?_⟩
  replace h13:=h13.tail.tail
  clear h12 gl12 hlt hn
  have isE:∀ {H:Hp}{L0:Kn}{o:Option En}{G:Prop},Has H L0->(∀ z,o=some z->(z.1,HO.tup [.int z.2.1,.int z.2.2]) ∈ L0)->G->((([enV o,enV o]++[]:List V)=[.non,.non]/\G)∨∃ (a b:Addr) (n e:Int),([enV o,enV o]++[]:List V)=[.ref a,.ref b]/\H a=some (.tup [.int n,.int e])/\H b=some (.tup [.int n,.int e])/\G):=fun {H L0 o G} h e hq=>by
   cases o with
   | none=>exact .inl ⟨U,hq⟩
   | some z=>exact .inr ⟨z.1,z.1,z.2.1,z.2.2,U,h.at_ _ (e z rfl),h.at_ _ (e z rfl),hq⟩
  refine⟨_,U,Y.p,Y.dx,_,U,h13.get 1 U,(dm _ _ _).2.2.2.2.2.2.1,Y,y,_,U,h13,_,⟨_,U,gI (h13.get 9 U)⟩,?_⟩
  rw[R.en,M.at_]
  refine isE h13 (fun z hz=>wD _ (wD _ (inR _ (pe z hz)))) ⟨_,U,bL ?_⟩
  refine⟨_,U,Y.p,Y.dx,_,U,h13.get 1 U,(dm _ _ _).2.2.2.2.2.2.2.2,Y,y,_,U,h13,_,⟨_,U,mv (h13.get 9 U)⟩,B.tr,_,U,.inl (SqL.of (h13.get 16 U)),_,_,U,?_⟩
  rw[decide_eq_true (by rw[ltr])]
  refine⟨_,U,bL ?_⟩
  refine⟨B.k,y.kinds,h13.get 10 U,_,⟨_,U,gv (h13.get 9 U)⟩,B.k,y.kinds,U,h13.get 10 U,fun o=>?_⟩
  refine pZ (fun i σ H'=>(∃ o2 o3 o4:Option V,σ=[some (.ref Y.p),some (.ref B.m),o2,o3,o4])/\Has H' (yL t.c_Yard Y y++(mLz B y q0 (.frz o (.dK y.kinds))++R1))) ⟨⟨_,_,_,U⟩,h13.puti 10 U (.frz o (.dK y.kinds))⟩ (fun i σ H' _ h=>h.2.get 10 U) ?_ ?_
  ·clear h13
   rintro i kv σ H2 hi ⟨⟨o2,o3,o4,rfl⟩,h2⟩
   have hmem:=wI hi
   rw[ekk] at hmem
   obtain⟨⟨n,k0⟩,hp,rfl⟩:=wX.mp hmem
   obtain⟨v,hv⟩:=j6 (wI hi)
   have hv:az y.kinds (Sum.inl n)=some v:=hv
   have hkn:=hk n
   rw[hv] at hkn
   obtain⟨k,kfn,ev⟩:∃ k,w'.kf n=some k/\v=.str k.str:=by
    cases h9:w'.kf n with
    | none=>rw[h9] at hkn; cases hkn
    | some k=>rw[h9] at hkn; exact⟨k,U,Option.some.inj hkn⟩
   subst ev
   have gk:DGet H2 B.k (.int n) (some (.str k.str)):=.inl ⟨y.kinds,.inl n,.inr ⟨o,h2.get 10 U⟩,U,hv.symm⟩
   show jx _ _ _ _ _
   refine⟨_,⟨_,U,gv (h2.get 9 U)⟩,_,U,B.k,_,U,gk,?_⟩
   dsimp only[List.set]
   refine⟨_,U,Y.p,Y.dx,_,U,h2.get 1 U,(dm _ _ _).2.2.2.2.1,_,U,Y,y,_,n,_,U,h2,hv,_,U,U,_,U,ifF (by rw[decide_eq_true rfl]; rfl) ?_⟩
   refine⟨_,U,U,_,U,?_⟩
   rw[k.isBell]
   have vno:=R.no n k kfn
   have gno:DGet H2 B.n (.int n) (if k=.bell then some (.int (w'.nf n)) else none):=by rw[<- vno]; exact DGet.k (k:=.inl n) (h2.get 11 U)
   refine andD (fun g kb=>?_) ?_
   ·rw[if_pos kb] at vno gno
    exact⟨_,U,Y.p,Y.dx,_,U,h2.get 1 U,(dm _ _ _).2.2.2.2.2.1,_,U,Y,y,_,n,_,_,U,h2,hv,vno,_,⟨_,U,ny (h2.get 9 U)⟩,_,U,B.n,_,U,gno,_,_,U,_,U,ifF (by rw[decide_eq_true rfl]; rfl) g⟩
   refine⟨_,U,k,U,U,_,U,?_⟩
   rw[k.three]
   have vro:=R.ro n k kfn
   have gro:DGet H2 B.r (.int n) (if k.point=true then some (.int (w'.rf n)) else none):=by rw[<- vro]; exact DGet.k (k:=.inl n) (h2.get 12 U)
   refine vc (fun g kp=>?_) ?_
   ·rw[if_pos kp] at vro gro
    exact⟨_,U,Y.p,Y.dx,_,U,h2.get 1 U,(bY _ _ _).2.2.2.2.1,_,U,Y,y,_,n,_,_,U,h2,hv,vro,_,⟨_,U,jM (h2.get 9 U)⟩,_,U,B.r,_,U,gro,_,_,U,_,U,ifF (by rw[decide_eq_true rfl]; rfl) g⟩
   clear gro vro gno vno gk
   have km:1<=k.many/\k.many<=3:=by cases k <;> decide
   refine⟨_,U,k,U,k.many,U,by omega,by omega,cw (fun i σ H'=>(∃ o4:Option V,σ=[some (.ref Y.p),some (.ref B.m),some (.int n),some (.str k.str),o4])/\Has H' (yL t.c_Yard Y y++(mLz B y q0 (.frz o (.dK y.kinds))++R1))) ⟨⟨_,U⟩,h2⟩ ?_ ?_⟩
   ·clear h2
    rintro j σ H2 hj ⟨⟨o4,rfl⟩,h2⟩
    rw[Int.zero_add]
    refine⟨_,U,Y.p,Y.dx,_,U,h2.get 1 U,(cH _ _ _).2.1,_,U,_,U,(show 2<=sizeLine by decide),fun b hb=>?_⟩
    have h3:=h2.alloc hb (.tup [.int n,.int (j:Int)])
    have h4:=Has.comm (X:=[(b,HO.tup [.int n,.int (j:Int)])]) (Y:=yL t.c_Yard Y y) (R:=mLz B y q0 (.frz o (.dK y.kinds))++R1) h3
    refine⟨Y,y,_,b,n,j,0,U,h4,U,⟨k,hv,by omega,by omega⟩,?_⟩
    refine⟨_,⟨_,U,dR (h3.get 10 U)⟩,B.mt,U,.inr ⟨_,.inl (h3.get 15 U)⟩,_,U,_,U,(show 2<=sizeLine by decide),fun b2 hb2=>?_⟩
    have h5:=h3.alloc hb2 (.tup [.int n,.int (j:Int)])
    refine⟨_,DGet.t (k:=kE n j) (h5.get 16 U) (h5.get 0 U),?_⟩
    have em:(az y.mates (kE n j)).getD .non=enV (w'.mf n j):=by
     rw[R.mt]
     cases w'.mf n j <;> rfl
    rw[em]
    exact isE h5 (fun z hz=>wE _ (wE _ (wD _ (wD _ (inR _ (S.pm _ _ z hz)))))) ⟨_,U,bL ⟨⟨_,U⟩,h5.tail.tail⟩⟩
   ·rintro σ H3 ⟨⟨o4,rfl⟩,h3⟩
    exact⟨⟨_,_,_,U⟩,h3⟩
  ·rintro σ H2 ⟨⟨o2,o3,o4,rfl⟩,h2⟩
   refine⟨o,h2.get 10 U,?_⟩
   have h3:Has _ (yL t.c_Yard Y y++(mL B y q0++R1)):=h2.puti 10 U (.dK y.kinds)
   exact q _ (back h3)
end
theorem gx (n:Int):∀ (KS:List (Int×Kd)),ar (jO KS) (Sum.inl n)=jO (KS.filter fun p=>decide (¬ p.1=n))
 | []=>rfl
 | p::KS=>by
  show ar (((Sum.inl p.1:Key),V.str p.2.str)::jO KS) (Sum.inl n)=_
  by_cases c:p.1=n
  ·rw[fe (show((Sum.inl p.1:Key),V.str p.2.str).1=Sum.inl n by rw[c]),List.filter_cons_of_neg (by simp[c]),gx n KS]
  ·rw[dX (fun e=>c (Sum.inl.inj e)),List.filter_cons_of_pos (by simp[c]),gx n KS]
   rfl
theorem dc {κ:Type} [DecidableEq κ] {kvs:List (κ×V)}{k j:κ} (h:az kvs j=none):az (ar kvs k) j=none:=by
 by_cases c:j=k
 ·rw[c,cI]
 ·rw[cr c,h]
structure G11 (w:Wd) (s0:Sd) (ts:List (Addr×Sd)) (ms:List (Addr×Addr×Sd)) (y:YR) (q:MR) (L:Kn) (c:Nat):Prop where
 st:St11 w s0 ts ms y q L
 kf:KfOk y w.kf
 fr:Fre y
 sy:Wsym w.mf
 kk:∃ KS,y.kinds=jO KS
 n0:0<=y.next
 n1:y.next<=c
 lk:y.kinds.length<=c
 ln:y.notes.length<=c
 lr:y.rods.length<=c
 ls:y.sides.length<=c
 lm:y.mates.length<=2*c
 lg:y.rung.length<=8*c
 lt:ts.length<=8*c
 km:∀ k ∈ y.mates.map (·.1),∃ n e:Int,k=kE n e
 kp:∀ n k,w.kf n=some k->0<=n
section
variable {w w1:Wd}{s0 s0':Sd}{ts ts':List (Addr×Sd)}{ms ms':List (Addr×Addr×Sd)}{y y':YR}{q q':MR}{L L':Kn}{c:Nat}
theorem G11.small (G:G11 w s0 ts ms y q L c) (hc:c<=100):Small y:=by
 have lt:=G.lt
 have:y.trail.length=ts.length:=by rw[G.st.ytr]; unfold trV; rw[wF]
 have:=G.lk; have:=G.ln; have:=G.lr; have:=G.ls; have:=G.lm; have:=G.lg
 exact⟨by omega,by omega,by omega,by omega,by omega,by omega,by omega⟩
theorem Fre.of (h:Fre y) (e1:y'.next=y.next) (e2:y'.kinds=y.kinds) (e3:y'.notes=y.notes) (e4:y'.rods=y.rods):Fre y':=fun n hn=>by rw[e2,e3,e4]; exact h n (by rw[<- e1]; exact hn)
theorem KfOk.of (h:KfOk y kf) (e:y'.kinds=y.kinds):KfOk y' kf:=fun n=>by rw[e]; exact h n
theorem G11.same (G:G11 w s0 ts ms y q L c) (S:St11 w1 s0' ts' ms' y' q' L') (ek:w1.kf=w.kf) (sy:Wsym w1.mf) (e1:y'.next=y.next) (e2:y'.kinds=y.kinds) (e3:y'.notes=y.notes) (e4:y'.rods=y.rods) (e5:y'.mates.length<=y.mates.length+2) (e6:y'.sides.length=y.sides.length) (e7:y'.rung.length<=y.rung.length+8) (e8:ts'.length<=ts.length+8) (ekm:∀ k ∈ y'.mates.map (·.1),∃ n e:Int,k=kE n e):G11 w1 s0' ts' ms' y' q' L' (c+1):=by
 have a1:=G.n0; have a2:=G.n1; have a3:=G.lk; have a4:=G.ln; have a5:=G.lr; have a6:=G.ls; have a7:=G.lm; have a8:=G.lg; have a9:=G.lt
 exact⟨S,by rw[ek]; exact G.kf.of e2,G.fr.of e1 e2 e3 e4,sy,by rw[e2]; exact G.kk,by rw[e1]; exact a1,by rw[e1]; omega,by rw[e2]; omega,by rw[e3]; omega,by rw[e4]; omega,by rw[e6]; omega,by omega,by omega,by omega,ekm,by rw[ek]; exact G.kp⟩
theorem G11.lift (G:G11 w s0 ts ms y q L c) {n:Int} (S:St11 (w.lift n) s0' ts' ms' y' q' L') (kf:KfOk y' (w.lift n).kf) (e1:y'.next=y.next) (e2:y'.kinds=ar y.kinds (Sum.inl n)) (e3:y'.notes=ar y.notes (Sum.inl n)) (e4:y'.rods=ar y.rods (Sum.inl n)) (e5:y'.mates=y.mates) (e6:y'.sides=y.sides) (e7:y'.rung=y.rung) (e8:ts'.length<=ts.length):G11 (w.lift n) s0' ts' ms' y' q' L' (c+1):=by
 have a1:=G.n0; have a2:=G.n1; have a3:=G.lk; have a4:=G.ln; have a5:=G.lr; have a6:=G.ls; have a7:=G.lm; have a8:=G.lg; have a9:=G.lt
 have d1:=fX y.kinds (Sum.inl n); have d2:=fX y.notes (Sum.inl n); have d3:=fX y.rods (Sum.inl n)
 refine⟨S,kf,fun i hi=>?_,G.sy,?_,by rw[e1]; exact a1,by rw[e1]; omega,by rw[e2]; omega,by rw[e3]; omega,by rw[e4]; omega,by rw[e6]; omega,by rw[e5]; omega,by rw[e7]; omega,by omega,by rw[e5]; exact G.km,fun i k hi=>?_⟩
 ·obtain⟨f1,f2,f3⟩:=G.fr i (by rw[<- e1]; exact hi)
  rw[e2,e3,e4]
  exact⟨dc f1,dc f2,dc f3⟩
 ·obtain⟨KS,hKS⟩:=G.kk
  exact⟨_,by rw[e2,hKS]; exact gx n KS⟩
 ·have hi:(if i=n then Option.none else w.kf i)=some k:=hi
  split at hi
  ·cases hi
  ·exact G.kp i k hi
theorem G11.lay (G:G11 w s0 ts ms y q L c) {k:Kd}{tone r:Int}{rod:V} (S:St11 (w.lay y.next k tone r) s0' ts' ms' (dq y k tone rod) q' L') (kf:KfOk (dq y k tone rod) (w.lay y.next k tone r).kf) (e8:ts'.length<=ts.length):G11 (w.lay y.next k tone r) s0' ts' ms' (dq y k tone rod) q' L' (c+1):=by
 have a1:=G.n0; have a2:=G.n1; have a3:=G.lk; have a4:=G.ln; have a5:=G.lr; have a6:=G.ls; have a7:=G.lm; have a8:=G.lg; have a9:=G.lt
 have d1:=bF y.kinds (Sum.inl y.next) (.str k.str)
 have d2:=bF y.notes (Sum.inl y.next) (.int tone)
 have d3:=bF y.rods (Sum.inl y.next) (if rod=.non then .int y.sides.length else rod)
 refine⟨S,kf,G.fr.lay k tone rod,G.sy,?_,?_,?_,?_,?_,?_,?_,?_,?_,by omega,G.km,fun i k' hi=>?_⟩
 ·obtain⟨KS,hKS⟩:=G.kk
  refine⟨KS++[(y.next,k)],?_⟩
  show aG y.kinds (Sum.inl y.next) (.str k.str)=_
  rw[hU _ (G.fr y.next (Int.le_refl _)).1,hKS]
  unfold jO
  rw[wL]
  rfl
 ·show 0<=y.next+1; omega
 ·show y.next+1<=_; omega
 ·show(aG y.kinds (Sum.inl y.next) (.str k.str)).length<=_; omega
 ·show(if k=.bell then aG y.notes (Sum.inl y.next) (.int tone) else y.notes).length<=_
  split <;> omega
 ·show(if k.point=true then aG y.rods (Sum.inl y.next) (if rod=.non then .int y.sides.length else rod) else y.rods).length<=_
  split <;> omega
 ·show(if k.point=true/\rod=.non then y.sides++[.int 1] else y.sides).length<=_
  split
  ·rw[wK,wT]; omega
  ·omega
 ·show y.mates.length<=_; omega
 ·show y.rung.length<=_; omega
 ·have hi:(if i=y.next then some k else w.kf i)=some k':=hi
  split at hi
  ·omega
  ·exact G.kp i k' hi
theorem G11.up (G:G11 w s0 ts ms y q L c) (up:∀ z ∈ L,NT z->z ∈ L'):G11 w s0 ts ms y q L' c:=⟨G.st.mono up,G.kf,G.fr,G.sy,G.kk,G.n0,G.n1,G.lk,G.ln,G.lr,G.ls,G.lm,G.lg,G.lt,G.km,G.kp⟩
theorem G11.more (G:G11 w s0 ts ms y q L c) {c':Nat} (h:c<=c'):G11 w s0 ts ms y q L c':=by
 have a2:=G.n1; have a3:=G.lk; have a4:=G.ln; have a5:=G.lr; have a6:=G.ls; have a7:=G.lm; have a8:=G.lg; have a9:=G.lt
 exact⟨G.st,G.kf,G.fr,G.sy,G.kk,G.n0,by omega,by omega,by omega,by omega,by omega,by omega,by omega,by omega,G.km,G.kp⟩
end
theorem jQ {C:Addr}{A:YA}{B:MA}{y:YR}{z:Addr×HO} (h:Has H (z::hL C A B w ts ms y q L)):Has H (hL C A B w ts ms y q (z::L)):=by
 have e:=bu (L':=z::((mL B y q++(mtK ms++(yL C A y++trK w ts)))++L)) h (by simp[hL])
 exact bu (e.perm (List.perm_middle (a:=z) (l₁:=mL B y q++(mtK ms++(yL C A y++trK w ts))) (l₂:=L)).symm) (by simp[hL])
theorem cX {C:Addr}{A:YA}{B:MA}{y:YR}{z:Addr×HO} (h:z ∈ L):z ∈ hL C A B w ts ms y q L:=wD _ (wD _ (wD _ (wD _ h)))
theorem uP {C:Addr}{A:YA}{B:MA}{y:YR} (h:Has H (hL C A B w ts ms y q L)):Has H ((mL B y q++(mtK ms++(yL C A y++trK w ts)))++L):=bu h (by simp[hL])
def T6 (t:Adr):List Addr:=[t.p_lay,t.p_link,t.p_J91,t.p_lift,t.p_put,t.p_throw]
structure Tbs (t:Adr) (L:Kn):Prop where
 ly:Tb L t.p_lay qLy
 lk:Tb L t.p_link qLk
 ul:Tb L t.p_J91 qUl
 lf:Tb L t.p_lift qLf
 pt:Tb L t.p_put qPt
 th:Tb L t.p_throw qTh
theorem Tbs.mono {t:Adr}{L L':Kn} (B:Tbs t L) (h:∀ z ∈ L,z ∈ L'):Tbs t L':=⟨B.ly.mono h,B.lk.mono h,B.ul.mono h,B.lf.mono h,B.pt.mono h,B.th.mono h⟩
section
variable {K:PySem.W.Frag}{mg:Str->Option Value}{t:Adr}{H:Hp}{Z L L':Kn}
theorem Tbs.kly (T:Txt K mg t) (B:Tbs t L) (h:Has H (Z++L)) (o:Tb L' t.p_lay qLy) (kp:∀ z ∈ L,z.1≠t.p_lay->z ∈ L'):Tbs t L'/\∀ z ∈ L,NT z∨z.1 ∉ T6 t->z ∈ L' :=
 ⟨⟨o,Tb.other B.ly B.lk h T.dj_lay_link.symm kp,Tb.other B.ly B.ul h T.dj_lay_J91.symm kp,Tb.other B.ly B.lf h T.dj_lay_lift.symm kp,Tb.other B.ly B.pt h T.dj_lay_put.symm kp,Tb.other B.ly B.th h T.dj_lay_throw.symm kp⟩,fun z hz nt=>kp z hz (nt.elim (Tb.ne B.ly h hz) (fun n e=>n (by rw[e]; simp[T6])))⟩
theorem Tbs.klk (T:Txt K mg t) (B:Tbs t L) (h:Has H (Z++L)) (o:Tb L' t.p_link qLk) (kp:∀ z ∈ L,z.1≠t.p_link->z ∈ L'):Tbs t L'/\∀ z ∈ L,NT z∨z.1 ∉ T6 t->z ∈ L' :=
 ⟨⟨Tb.other B.lk B.ly h T.dj_lay_link kp,o,Tb.other B.lk B.ul h T.dj_link_J91.symm kp,Tb.other B.lk B.lf h T.dj_link_lift.symm kp,Tb.other B.lk B.pt h T.dj_link_put.symm kp,Tb.other B.lk B.th h T.dj_link_throw.symm kp⟩,fun z hz nt=>kp z hz (nt.elim (Tb.ne B.lk h hz) (fun n e=>n (by rw[e]; simp[T6])))⟩
theorem Tbs.kul (T:Txt K mg t) (B:Tbs t L) (h:Has H (Z++L)) (o:Tb L' t.p_J91 qUl) (kp:∀ z ∈ L,z.1≠t.p_J91->z ∈ L'):Tbs t L'/\∀ z ∈ L,NT z∨z.1 ∉ T6 t->z ∈ L' :=
 ⟨⟨Tb.other B.ul B.ly h T.dj_lay_J91 kp,Tb.other B.ul B.lk h T.dj_link_J91 kp,o,Tb.other B.ul B.lf h T.dj_J91_lift.symm kp,Tb.other B.ul B.pt h T.dj_J91_put.symm kp,Tb.other B.ul B.th h T.dj_J91_throw.symm kp⟩,fun z hz nt=>kp z hz (nt.elim (Tb.ne B.ul h hz) (fun n e=>n (by rw[e]; simp[T6])))⟩
theorem Tbs.klf (T:Txt K mg t) (B:Tbs t L) (h:Has H (Z++L)) (o:Tb L' t.p_lift qLf) (kp:∀ z ∈ L,z.1≠t.p_lift->z ∈ L'):Tbs t L'/\∀ z ∈ L,NT z∨z.1 ∉ T6 t->z ∈ L' :=
 ⟨⟨Tb.other B.lf B.ly h T.dj_lay_lift kp,Tb.other B.lf B.lk h T.dj_link_lift kp,Tb.other B.lf B.ul h T.dj_J91_lift kp,o,Tb.other B.lf B.pt h T.dj_lift_put.symm kp,Tb.other B.lf B.th h T.dj_lift_throw.symm kp⟩,fun z hz nt=>kp z hz (nt.elim (Tb.ne B.lf h hz) (fun n e=>n (by rw[e]; simp[T6])))⟩
theorem Tbs.kpt (T:Txt K mg t) (B:Tbs t L) (h:Has H (Z++L)) (o:Tb L' t.p_put qPt) (kp:∀ z ∈ L,z.1≠t.p_put->z ∈ L'):Tbs t L'/\∀ z ∈ L,NT z∨z.1 ∉ T6 t->z ∈ L' :=
 ⟨⟨Tb.other B.pt B.ly h T.dj_lay_put kp,Tb.other B.pt B.lk h T.dj_link_put kp,Tb.other B.pt B.ul h T.dj_J91_put kp,Tb.other B.pt B.lf h T.dj_lift_put kp,o,Tb.other B.pt B.th h T.dj_put_throw.symm kp⟩,fun z hz nt=>kp z hz (nt.elim (Tb.ne B.pt h hz) (fun n e=>n (by rw[e]; simp[T6])))⟩
theorem Tbs.kth (T:Txt K mg t) (B:Tbs t L) (h:Has H (Z++L)) (o:Tb L' t.p_throw qTh) (kp:∀ z ∈ L,z.1≠t.p_throw->z ∈ L'):Tbs t L'/\∀ z ∈ L,NT z∨z.1 ∉ T6 t->z ∈ L' :=
 ⟨⟨Tb.other B.th B.ly h T.dj_lay_throw kp,Tb.other B.th B.lk h T.dj_link_throw kp,Tb.other B.th B.ul h T.dj_J91_throw kp,Tb.other B.th B.lf h T.dj_lift_throw kp,Tb.other B.th B.pt h T.dj_put_throw kp,o⟩,fun z hz nt=>kp z hz (nt.elim (Tb.ne B.th h hz) (fun n e=>n (by rw[e]; simp[T6])))⟩
end
inductive sp_turn (t:Adr) (vs:List V) (H:Hp) (Q:VK) (E_:XK):Prop
 | mk (A:YA) (B:MA) (w:Wd) (s0:Sd) (ts:List (Addr×Sd)) (ms:List (Addr×Addr×Sd)) (y:YR) (q:MR) (L:Kn) (c:Nat) (d:Addr) (ds:List Int) (i:Int) (_:vs=[.ref A.p,.ref B.m,.ref d,.int i]) (_:Has H (hL t.c_Yard A B w ts ms y q L)) (_:G11 w s0 ts ms y q L c) (_:Tbs t L) (_:(d,HO.lst (ds.map V.int)) ∈ L) (_:0<=i) (_:i+4<ds.length) (_:c<=60) (_:∀ H' A' B' w' s0' ts' ms' y' q' L',A'.p=A.p->B'.m=B.m->Has H' (hL t.c_Yard A' B' w' ts' ms' y' q' L')->G11 w' s0' ts' ms' y' q' L' (c+1)->Tbs t L'->(∀ z ∈ L,NT z∨z.1 ∉ T6 t->z ∈ L')->Q (.bl true) H'):sp_turn t vs H Q E_
variable{c:Nat}
theorem bE {n e y:Int} (h:0<=n/\n<=y/\-1<=e/\e<=3) (hy:y<=c) (hc:c<=60):-100000<=n/\n<=100000/\-100<=e/\e<=100:=by omega
theorem bO {x1 x2 y:Int} (h:0<=y):0<=x1 % (y+1)/\x1 % (y+1)<=y/\-1<=x2 % 3/\x2 % 3<=3:=by
 have:=Int.emod_nonneg x1 (show y+1≠0 by omega)
 have:=Int.emod_lt_of_pos x1 (show 0<y+1 by omega)
 omega
theorem bO2 {x1 x2 y:Int} (h:0<=y):0<=x1 % (y+1)/\x1 % (y+1)<=y/\-1<=3 - 4*(x2 / 24 % 2)/\3 - 4*(x2 / 24 % 2)<=3:=by
 have:=bO (x1:=x1) (x2:=x2) h
 omega
theorem bS {x:Int}{l c:Nat} (h:l<=c) (hc:c<=60):0<=x % ((l:Int)+1)/\x % ((l:Int)+1)<=100000:=by
 have:=Int.emod_nonneg x (show(l:Int)+1≠0 by omega)
 have:=Int.emod_lt_of_pos x (show 0<(l:Int)+1 by omega)
 omega
theorem b4 (x:Int):0<=x % 4/\x % 4<=100:=by omega
theorem bT (x:Int):0<=x % 10007/\x % 10007<=100000:=by omega
theorem b9 (x:Int):x % 9 - 1<=8:=by omega
theorem bp1 (l:Nat):0<(l:Int)+1:=by omega
theorem G11.b500 {y:YR} (G:G11 w s0 ts ms y q L c) (hc:c<=60):ts.length<=500/\y.rung.length<=500/\y.sides.length<=500/\y.mates.length<=20000:=by
 have:=G.lt; have:=G.lg; have:=G.ls; have:=G.lm
 omega
theorem dx5 {ds:List Int}{i:Int} (h0:0<=i) (h:i+4<ds.length):∃ x0 x1 x2 x3 x4,atI (ds.map V.int) i=some (.int x0)/\atI (ds.map V.int) (i+1)=some (.int x1)/\atI (ds.map V.int) (i+2)=some (.int x2)/\atI (ds.map V.int) (i+3)=some (.int x3)/\atI (ds.map V.int) (i+4)=some (.int x4) :=
 ⟨_,_,_,_,_,atD h0 (by omega),atD (by omega) (by omega),atD (by omega) (by omega),atD (by omega) (by omega),atD (by omega) h⟩
theorem qw {ds:List Int}{i:Int} (h0:0<=i) (h1:i<ds.length):∃ x,atI (ds.map V.int) i=some (.int x):=⟨_,atD h0 h1⟩
section
variable {P:Program}{w:World}{K:PySem.W.Frag}{mg:Str->Option Value}{base:Heap}{t:Adr}
theorem scLtu:FnScope ["_law_yard","_law_m","_law_d","_law_at","_law_word","_law_one","_law_other","_law_bar"] ["_law_yard","_law_m","_law_d","_law_at"] (aj oH):={}
theorem kr (T:Txt K mg t) (kb:K.In base) (hbm:BM base mg):FnOk P w K mg base CX0 13 t.f_turn t.d_turn ["_law_yard","_law_m","_law_d","_law_at"] (sp_turn t):=by
 have ok_lay:∀ (T:Txt K mg t),FnOk P w K mg base CX0 12 t.f_lay t.d_lay ["_law_yard","_law_m","_law_kind_here","_law_tone","_law_bar"] (sp_llay t.c_Yard t.p_lay):=fun T=>mh T kb hbm
 have ok_link:∀ (T:Txt K mg t),FnOk P w K mg base CX0 12 t.f_link t.d_link ["_law_yard","_law_m","_law_one","_law_other"] (sp_llink t.c_Yard t.p_link):=fun T=>pE T kb hbm
 have ok_J91:∀ (T:Txt K mg t),FnOk P w K mg base CX0 12 t.f_J91 t.d_J91 ["_law_yard","_law_m","_law_end"] (sp_lunlink t.c_Yard t.p_J91):=fun T=>qX T kb hbm
 have ok_lift:∀ (T:Txt K mg t),FnOk P w K mg base CX0 12 t.f_lift t.d_lift ["_law_yard","_law_m","_law_piece"] (sp_llift t.c_Yard t.p_lift):=fun T=>pF T kb hbm
 have ok_put:∀ (T:Txt K mg t),FnOk P w K mg base CX0 11 t.f_put t.d_put ["_law_yard","_law_m","_law_end"] (sp_lput t.c_Yard t.p_put):=fun T=>qW T kb hbm
 have ok_throw:∀ (T:Txt K mg t),FnOk P w K mg base CX0 11 t.f_throw t.d_throw ["_law_yard","_law_m","_law_bar","_law_side"] (sp_lthrow t.c_Yard t.p_throw):=fun T=>ni T kb hbm
 refine T.F_turn.ok scLtu (fun vs H Q E h=>?_) (fun cdv A outer s H vs Q E hr h=>?_)
 ·obtain⟨_,_,_,_,_,_,_,_,_,_,_,_,_,rfl,_⟩:=h
  rfl
 ·obtain⟨Y,B,w',s0,ts,ms,y,q0,L,c,d,ds,i,rfl,hH,G,tb,md,i0,i1,hc,q⟩:=h
  have hu:=bi hr
  refine⟨_,(ae (ax (i:=4) scLtu.nd rfl (Or.inl rfl) (aC bt (aR bc (pv 2) (pv 3)) ai))
   (ae (ax (i:=5) scLtu.nd rfl (Or.inl rfl) (aF (aa (aC bt (cy (aR bc (pv 2) (aC ba (pv 3) ai))) (aC ba (aB (aq hu (pv 1) ah)) ai)) (aa (aC bt (cy (aR bc (pv 2) (aC ba (pv 3) ai))) ai) af))))
   (ae (ax (i:=6) scLtu.nd rfl (Or.inl rfl) (aF (aa (aC bt (cy (aR bc (pv 2) (aC ba (pv 3) ai))) (aC ba (aB (aq hu (pv 1) ah)) ai)) (aa (aC bt (cy (aR bc (pv 2) (aC ba (pv 3) ai))) ai) af))))
   (ae (bo (au (ak bp (aC bt (aC fQ (cy (aR bc (pv 2) (aC ba (pv 3) ai))) ai) ai) ai (am _))
    (ag (ax (i:=5) scLtu.nd rfl (Or.inl rfl) (aF (aa (aR bn (pv 5) ai) (aa (aC dD ai (aC fB ai (aC bt (aC fQ (cy (aR bc (pv 2) (aC ba (pv 3) ai))) ai) ai))) af)))))
    al))
   (ae (au (ak cG (pv 4) ai (am _))
    (ae (ax (i:=7) scLtu.nd rfl (Or.inl rfl) aK)
     (ae (bo (au (ak bp (aC bt (cy (aR bc (pv 2) (aC ba (pv 3) ai))) ai) ai (am _))
      (ag (ax (i:=7) scLtu.nd rfl (Or.inl rfl) (aC bt (cy (aR bc (pv 2) (aC ba (pv 3) ai))) (aC ba (ay aL (by rfl) T.z_len (by rfl) (aa (aB (aq hu (pv 1) ah)) af)) ai))))
      al))
     (ag (ap (pcl (ok_lay T) hr T.m_lay T.F_lay.kp (sV T) (aa (pv 0) (aa (pv 1) (aa (pcl (lX T) hr T.m_kind T.F_kind.kp (qr T) (aa (cy (aR bc (pv 2) (aC ba (pv 3) ai))) af)) (aa (aC bt (cy (aR bc (pv 2) (aC ba (pv 3) ai))) ai) (aa (pv 7) af))))))))))
    al)
   (ae (au (ak cG (pv 4) ai (am _))
    (ag (ap (pcl (ok_link T) hr T.m_link T.F_link.kp (u6 T) (aa (pv 0) (aa (pv 1) (aa (pv 5) (aa (pv 6) af)))))))
    al)
   (ae (au (ak cG (pv 4) ai (am _))
    (ag (ap (pcl (ok_put T) hr T.m_put T.F_put.kp (b_put T) (aa (pv 0) (aa (pv 1) (aa (pv 5) af))))))
    al)
   (ae (au (ak cG (pv 4) ai (am _))
    (ag (ap (pcl (pj T) hr T.m_l_run T.F_l_run.kp (rq T) (aa (pv 0) (aa (pv 1) (aa (aC dD (aC bt (cy (aR bc (pv 2) (aC ba (pv 3) ai))) ai) ai) af))))))
    al)
   (ae (au (PW.pt (bM (ak bp (pv 4) ai (am _)) (bq (ak bp (aC bt (cy (aR bc (pv 2) (aC ba (pv 3) ai))) ai) ai (am _)))))
    (ag (ap (pcl (ok_J91 T) hr T.m_J91 T.F_J91.kp (b_J91 T) (aa (pv 0) (aa (pv 1) (aa (pv 5) af))))))
    al)
   (ae (au (ak bp (pv 4) ai (am _))
    (ag (ap (pcl (ok_lift T) hr T.m_lift T.F_lift.kp (u7 T) (aa (pv 0) (aa (pv 1) (aa (aR bn (pv 6) ai) af))))))
    al)
   (ae (au (PW.pt (bM (ak bp (pv 4) ai (am _)) (bq (ak bp (aC bt (cy (aR bc (pv 2) (aC ba (pv 3) ai))) ai) ai (am _)))))
    (ag (ap (pcl (t7 T) hr T.m_off T.F_off.kp (b_off T) (aa (pv 0) (aa (pv 1) af)))))
    al)
   (ae (au (ak bp (pv 4) ai (am _))
    (ag (ap (pcl (ok_throw T) hr T.m_throw T.F_throw.kp (rn T) (aa (pv 0) (aa (pv 1) (aa (aC bt (cy (aR bc (pv 2) (aC ba (pv 3) ai))) (aC ba (ay aL (by rfl) T.z_len (by rfl) (aa (aB (aq hu (pv 1) ah)) af)) ai)) (aa (aC bt (cy (aR bc (pv 2) (aC ba (pv 3) ai))) ai) af)))))))
    al)
   (ag (ap (pcl (pB T) hr T.m_J81 T.F_J81.kp (sX T) (aa (pv 0) (aa (pv 1) (aa (aC dD (aC bt (cy (aR bc (pv 2) (aC ba (pv 3) ai))) ai) ai) af)))))))))))))))))),?_⟩
  rw[show L2.start ["_law_yard","_law_m","_law_d","_law_at","_law_word","_law_one","_law_other","_law_bar"] [V.ref Y.p,V.ref B.m,V.ref d,V.int i]=([some (V.ref Y.p),some (V.ref B.m),some (V.ref d),some (V.int i),none,none,none,none]:St) from rfl]
  have gd:∀ {H':Hp}{L':Kn},Has H' L'->(d,HO.lst (ds.map V.int)) ∈ L'->SqL K H' d (ds.map V.int):=fun h m=>SqL.of (h.at_ _ m)
  obtain⟨x0,x1,x2,x3,x4,hx0,hx1,hx2,hx3,hx4⟩:=dx5 i0 i1
  have yn0:=G.n0
  have yp:0<y.next+1:=Int.lt_add_one_of_le yn0
  have lqs:q0.sides.length=y.sides.length:=by rw[G.st.mq.sd,G.st.rep.sd]
  refine⟨_,U,_,U,d,_,_,_,U,U,gd hH (cX md),hx0,_,_,U,U,(show(0:Int)<13 by decide),?_⟩
  dsimp only[List.set]
  refine⟨_,⟨d,_,_,U,U,gd hH (cX md),hx1⟩,_,⟨_,U,mw (hH.get 0 U)⟩,_,_,U,U,_,_,U,U,yp,_,⟨d,_,_,U,U,gd hH (cX md),hx2⟩,_,_,U,U,(show(0:Int)<3 by decide),(show 2<=sizeLine by decide),fun b1 hb1=>?_⟩
  have h1:=jQ (hH.alloc hb1 (.tup [.int (x1 % (y.next+1)),.int (x2 % 3)]))
  generalize upd H b1 _=H1 at h1 ⊢
  dsimp only[List.set]
  refine⟨_,⟨d,_,_,U,U,gd h1 (cX (wE _ md)),hx3⟩,_,⟨_,U,mw (h1.get 0 U)⟩,_,_,U,U,_,_,U,U,yp,_,⟨d,_,_,U,U,gd h1 (cX (wE _ md)),hx4⟩,_,_,U,U,(show(0:Int)<3 by decide),(show 2<=sizeLine by decide),fun b2 hb2=>?_⟩
  have h2:=jQ (h1.alloc hb2 (.tup [.int (x3 % (y.next+1)),.int (x4 % 3)]))
  generalize upd H1 b2 _=H2 at h2 ⊢
  dsimp only[List.set]
  have md2:(d,HO.lst (ds.map V.int)) ∈ (b2,HO.tup [.int (x3 % (y.next+1)),.int (x4 % 3)])::(b1,HO.tup [.int (x1 % (y.next+1)),.int (x2 % 3)])::L:=wE _ (wE _ md)
  refine⟨fun σ' H'=>∃ (b:Addr) (n e:Int) (L2:Kn),σ'=[some (.ref Y.p),some (.ref B.m),some (.ref d),some (.int i),some (.int (x0 % 13)),some (.ref b),some (.ref b2),none]/\Has H' (hL t.c_Yard Y B w' ts ms y q0 L2)/\(b,HO.tup [.int n,.int e]) ∈ L2/\(b2,HO.tup [.int (x3 % (y.next+1)),.int (x4 % 3)]) ∈ L2/\(0<=n/\n<=y.next/\-1<=e/\e<=3)/\∀ z ∈ L,z ∈ L2,?_,?_⟩
  ·refine⟨_,⟨d,_,_,U,U,gd h2 (cX md2),hx2⟩,_,_,U,U,⟨by decide,by decide⟩,_,_,U,U,(show(0:Int)<8 by decide),U,_,U,if2 (fun _=>?_) (fun _=>?_)⟩
   ·have g5:=h2.at_ (b1,HO.tup [.int (x1 % (y.next+1)),.int (x2 % 3)]) (cX (wE _ wJ))
    refine⟨_,U,b1,_,_,_,U,U,SqT.of g5,bh (j:=0) rfl,_,⟨d,_,_,U,U,gd h2 (cX md2),hx2⟩,_,_,U,U,⟨by decide,by decide⟩,_,_,U,U,(show(0:Int)<2 by decide),_,_,U,U,.inl ⟨by decide,by decide⟩,_,_,U,U,(show 2<=sizeLine by decide),fun b3 hb3=>?_⟩
    have h3:=jQ (h2.alloc hb3 (.tup [.int (x1 % (y.next+1)),.int (3 - 4*(x2 / 24 % 2))]))
    exact⟨b3,_,_,_,U,h3,wJ,wE _ wJ,bO2 yn0,fun z hz=>wE _ (wE _ (wE _ hz))⟩
   ·exact⟨b1,_,_,_,U,h2,wE _ wJ,wJ,bO yn0,fun z hz=>wE _ (wE _ hz)⟩
  rintro _ H3 ⟨b,n,e,L2,rfl,h3,mb,mb2,bb,up⟩
  clear h2 h1 md2 hb1 hb2
  have hb:_:=bE bb G.n1 hc
  have hb2:_:=bE (bO (x1:=x3) (x2:=x4) yn0) G.n1 hc
  have lsd:=G.ls
  have md3:=up _ md
  have G2:=G.up (fun z hz _=>up z hz)
  have tb2:=tb.mono up
  have hz3:=uP h3
  have mo:=gd h3 (cX md3)
  clear G tb
  refine⟨_,U,_,_,U,U,_,U,if2 (fun _=>?_) (fun _=>?_)⟩
  ·show jx _ _ _ _ _
   refine⟨fun σ' H'=>∃ bar:Option Int,σ'=[some (.ref Y.p),some (.ref B.m),some (.ref d),some (.int i),some (.int (x0 % 13)),some (.ref b),some (.ref b2),some (cz bar)]/\(∀ r,bar=some r->0<=r/\r<=100000)/\Has H' (hL t.c_Yard Y B w' ts ms y q0 L2),?_,?_⟩
   ·refine⟨_,⟨d,_,_,U,U,mo,hx2⟩,_,_,U,U,(show(0:Int)<3 by decide),U,_,U,if2 (fun _=>?_) (fun _=>⟨none,U,(fun _ z=>nomatch z),h3⟩)⟩
    refine⟨_,⟨d,_,_,U,U,mo,hx3⟩,_,⟨_,U,fS (h3.get 0 U)⟩,B.s,_,U,.inl (SqL.of (h3.get 4 U)),_,_,U,U,_,_,U,U,bp1 _,some (x3 % ((q0.sides.length:Int)+1)),U,fun r e=>?_,h3⟩
    cases e
    exact bS (by rw[lqs]; exact lsd) hc
   ·rintro _ H4 ⟨bar,rfl,hbar,h4⟩
    refine⟨_,U,_,U,_,⟨d,_,_,U,U,gd h4 (cX md3),hx1⟩,x1,_,U,h4,fun k H5 h5=>?_⟩
    refine⟨_,⟨d,_,_,U,U,gd h5 (cX md3),hx4⟩,_,_,U,U,(show(0:Int)<10007 by decide),_,U,Y,B,w',s0,ts,ms,y,q0,L2,k,x4 % 10007,bar,U,h5,G2.st,G2.kf,G2.fr,G2.small (Nat.le_trans hc (by decide)),tb2.ly,(bT x4).1,(bT x4).2,hbar,fun H6 A6 B6 w6 s6 ts6 ms6 y6 q6 L6 hw eA eB h6 S6 t6 kp6 lt6 kf6=>?_⟩
    obtain⟨T6,K6⟩:=tb2.kly T hz3 t6 kp6
    refine q H6 A6 B6 w6 s6 ts6 ms6 y6 q6 L6 eA eB h6 ?_ T6 (fun z hz nt=>K6 z (up z hz) nt)
    rcases hw with ⟨rfl,rfl⟩ | ⟨r,rfl,rfl⟩
    ·exact G2.same S6 rfl G2.sy rfl rfl rfl rfl (Nat.le_add_right _ _) rfl (Nat.le_add_right _ _) (Nat.le_add_right_of_le lt6) G2.km
    ·exact G2.lay S6 kf6 lt6
  refine⟨_,U,_,_,U,U,_,U,if2 (fun _=>?_) (fun _=>?_)⟩
  ·refine⟨_,U,_,U,_,U,_,U,Y,B,w',s0,ts,ms,y,q0,L2,b,b2,n,e,_,_,U,h3,G2.st,G2.kf,mb,mb2,tb2.lk,hb,hb2,(G2.b500 hc).2.2.2,fun H6 A6 B6 w6 s6 ts6 ms6 y6 q6 L6 hw eA eB h6 S6 t6 kp6 lt6 e1 e2 e3 e4 e5 e6 e7 e8=>?_⟩
   obtain⟨T6,K6⟩:=tb2.klk T hz3 t6 kp6
   refine q H6 A6 B6 w6 s6 ts6 ms6 y6 q6 L6 eA eB h6 (G2.same S6 ?_ ?_ e3 e4 e5 e6 e7 (by rw[e2]) (by rw[e1]; exact Nat.le_add_right _ _) (Nat.le_add_right_of_le lt6) (fun k h=>(e8 k h).elim (G2.km k) (fun z=>z.elim (fun z=>⟨_,_,z⟩) (fun z=>⟨_,_,z⟩)))) T6 (fun z hz nt=>K6 z (up z hz) nt)
   ·rcases hw with rfl | ⟨rfl,_⟩ <;> rfl
   ·rcases hw with rfl | ⟨rfl,ne,m1,m2⟩
    ·exact G2.sy
    ·exact G2.sy.link (x:=(b,n,e)) (z:=(b2,_,_)) m1 m2 (fun z=>ne (by injection z with z1 z2; exact⟨z1,z2⟩))
  refine⟨_,U,_,_,U,U,_,U,if2 (fun _=>?_) (fun _=>?_)⟩
  ·refine⟨_,U,_,U,_,U,Y,B,w',s0,ts,ms,y,q0,L2,b,n,e,U,h3,G2.st,G2.kf,mb,tb2.pt,hb.1,hb.2.1,hb.2.2.1,hb.2.2.2,fun H6 A6 B6 s6 ts6 ms6 y6 q6 L6 eA eB h6 S6 t6 kp6 lt6 e1 e2 e3 e4 e5 e6 e7=>?_⟩
   obtain⟨T6,K6⟩:=tb2.kpt T hz3 t6 kp6
   exact q H6 A6 B6 w' s6 ts6 ms6 y6 q6 L6 eA eB h6 (G2.same S6 rfl G2.sy e3 e4 e5 e6 (by rw[e7]; exact Nat.le_add_right _ _) (by rw[e2]) (by rw[e1]; exact Nat.le_add_right _ _) (Nat.le_add_right_of_le lt6) (by rw[e7]; exact G2.km)) T6 (fun z hz nt=>K6 z (up z hz) nt)
  refine⟨_,U,_,_,U,U,_,U,if2 (fun _=>?_) (fun _=>?_)⟩
  ·refine⟨_,U,_,U,_,⟨d,_,_,U,U,mo,hx1⟩,_,_,U,U,(show(0:Int)<9 by decide),_,_,U,U,Y,B,w',s0,ts,ms,y,q0,L2,_,U,h3,G2.st,b9 x1,(G2.b500 hc).1,(G2.b500 hc).2.1,(G2.b500 hc).2.2.1,fun H6 ts6 ms6 y6 q6 h6 S6 e0 e1 e2 e3 e4 e5 e6 e7=>?_⟩
   exact q H6 Y B w' s0 ts6 ms6 y6 q6 L2 rfl rfl h6 (G2.same S6 rfl G2.sy e3 e4 e5 e6 (by rw[e7]; exact Nat.le_add_right _ _) e2 e1 e0 (by rw[e7]; exact G2.km)) tb2 (fun z hz _=>up z hz)
  refine⟨_,U,U,_,U,?_⟩
  refine vc (fun g _=>⟨_,⟨d,_,_,U,U,mo,hx1⟩,_,_,U,U,(show(0:Int)<2 by decide),U,_,U,if2 (fun _=>?_) (fun _=>g)⟩) ?_
  ·refine⟨_,U,_,U,_,U,Y,B,w',s0,ts,ms,y,q0,L2,b,n,e,U,h3,G2.st,G2.kf,G2.sy,mb,tb2.ul,hb.1,hb.2.1,hb.2.2.1,hb.2.2.2,fun H6 A6 B6 w6 s6 ts6 ms6 y6 q6 L6 hw eA eB h6 S6 t6 kp6 lt6 e1 e2 e3 e4 e5 e6 e7 e8=>?_⟩
   obtain⟨T6,K6⟩:=tb2.kul T hz3 t6 kp6
   refine q H6 A6 B6 w6 s6 ts6 ms6 y6 q6 L6 eA eB h6 (G2.same S6 ?_ ?_ e3 e4 e5 e6 (Nat.le_add_right_of_le e7) (by rw[e2]) (by rw[e1]; exact Nat.le_add_right _ _) (Nat.le_add_right_of_le lt6) (fun k h=>G2.km k (e8 k h))) T6 (fun z hz nt=>K6 z (up z hz) nt)
   ·rcases hw with rfl | ⟨_,_,rfl⟩ <;> rfl
   ·rcases hw with rfl | ⟨z,hz,rfl⟩
    ·exact G2.sy
    ·exact G2.sy.unlink hz
  refine⟨_,U,U,_,U,if2 (fun _=>?_) (fun _=>?_)⟩
  ·have g6:=h3.at_ (b2,HO.tup [.int (x3 % (y.next+1)),.int (x4 % 3)]) (cX mb2)
   refine⟨_,U,_,U,_,U,b2,_,_,_,U,U,SqT.of g6,bh (j:=0) rfl,Y,B,w',s0,ts,ms,y,q0,L2,x3 % (y.next+1),U,h3,G2.st,G2.kf,G2.sy,tb2.lf,hb2.1,hb2.2.1,fun H6 A6 B6 w6 s6 ts6 ms6 y6 q6 L6 hw eA eB h6 S6 t6 kp6 lt6 e1 e2 e3 e7 kf6=>?_⟩
   obtain⟨T6,K6⟩:=tb2.klf T hz3 t6 kp6
   refine q H6 A6 B6 w6 s6 ts6 ms6 y6 q6 L6 eA eB h6 ?_ T6 (fun z hz nt=>K6 z (up z hz) nt)
   rcases hw with ⟨rfl,e4,e5,e6⟩ | ⟨rfl,e4,e5,e6⟩
   ·exact G2.same S6 rfl G2.sy e3 e4 e5 e6 (by rw[e7]; exact Nat.le_add_right _ _) (by rw[e2]) (by rw[e1]; exact Nat.le_add_right _ _) (Nat.le_add_right_of_le lt6) (by rw[e7]; exact G2.km)
   ·exact G2.lift S6 kf6 e3 e4 e5 e6 e7 e2 e1 lt6
  refine⟨_,U,U,_,U,?_⟩
  refine vc (fun g _=>⟨_,⟨d,_,_,U,U,mo,hx1⟩,_,_,U,U,(show(0:Int)<5 by decide),U,_,U,if2 (fun _=>?_) (fun _=>g)⟩) ?_
  ·refine⟨_,U,_,U,Y,B,w',s0,ts,ms,y,q0,L2,U,h3,G2.st,fun H6 A6 B6 s6 q6 eA eB h6 S6=>?_⟩
   exact q H6 A6 B6 w' s6 [] [] _ q6 L2 eA eB h6 (G2.same S6 rfl G2.sy rfl rfl rfl rfl (Nat.le_add_right _ _) rfl (Nat.le_add_right _ _) (Nat.zero_le _) G2.km) tb2 (fun z hz _=>up z hz)
  refine⟨_,U,U,_,U,if2 (fun _=>?_) (fun _=>?_)⟩
  ·have a0:=bS (x:=x1) (l:=q0.sides.length) (by rw[lqs]; exact lsd) hc
   refine⟨_,U,_,U,_,⟨d,_,_,U,U,mo,hx1⟩,_,⟨_,U,fS (h3.get 0 U)⟩,B.s,_,U,.inl (SqL.of (h3.get 4 U)),_,_,U,U,_,_,U,U,(bp1 _),_,⟨d,_,_,U,U,mo,hx2⟩,_,_,U,U,(show(0:Int)<4 by decide),Y,B,w',s0,ts,ms,y,q0,L2,x1 % ((q0.sides.length:Int)+1),x2 % 4,U,h3,G2.st,tb2.th,a0.1,a0.2,(b4 x2).1,(b4 x2).2,fun H6 A6 B6 s6 ts6 ms6 y6 q6 L6 eA eB h6 S6 t6 kp6 lt6 e1 e2 e3 e4 e5 e6 e7=>?_⟩
   obtain⟨T6,K6⟩:=tb2.kth T hz3 t6 kp6
   exact q H6 A6 B6 w' s6 ts6 ms6 y6 q6 L6 eA eB h6 (G2.same S6 rfl G2.sy e3 e4 e5 e6 (by rw[e7]; exact Nat.le_add_right _ _) e2 (by rw[e1]; exact Nat.le_add_right _ _) (Nat.le_add_right_of_le lt6) (by rw[e7]; exact G2.km)) T6 (fun z hz nt=>K6 z (up z hz) nt)
  refine⟨_,U,_,U,_,⟨d,_,_,U,U,mo,hx1⟩,_,_,U,U,(show(0:Int)<7 by decide),_,_,U,U,Y,B,w',s0,ts,ms,y,q0,L2,_,U,h3,G2.st,(G2.b500 hc).1,(G2.b500 hc).2.1,(G2.b500 hc).2.2.1,fun H6 B6 ts6 ms6 y6 q6 eB h6 S6 e0 e1 e2 e3 e4 e5 e6 e7=>?_⟩
  exact q H6 Y B6 w' s0 ts6 ms6 y6 q6 L2 rfl eB h6 (G2.same S6 rfl G2.sy e3 e4 e5 e6 (by rw[e7]; exact Nat.le_add_right _ _) e2 (Nat.le_add_right_of_le e1) (Nat.le_add_right_of_le e0) (by rw[e7]; exact G2.km)) tb2 (fun z hz _=>up z hz)
end
theorem ka {α:Type}:∀ (L:List α) (i:Nat) (x:α),i<L.length->(x::L.eraseIdx i).Perm (L.set i x)
 | [],i,x,h=>absurd h (Nat.not_lt_zero i)
 | a::L,0,x,h=>List.Perm.refl _
 | a::L,i+1,x,h=>(List.Perm.swap _ _ _).trans (List.Perm.cons a (ka L i x (by simpa using h)))
theorem Has.repl {x:Addr×HO} (h:Has H (x::L)) (i:Nat) (hi:i<L.length):Has H (L.set i x) :=
 (Has.sub h (List.Sublist.cons₂ x (List.eraseIdx_sublist L i))).perm (ka L i x hi)
def hE (n e:Nat):Int:=reduceHash (Builtin.Tuple.tupleHashOf [hashInt n,hashInt e])
def hEs (N:Nat):List Int:=(List.range (3*N)).map fun i=>hE (i / 3) (i % 3)
theorem hE50:(hEs 50).Nodup:=by decide +kernel
def EK (kvs:List (List Key×V)):Prop:=∀ k ∈ kvs.map (·.1),∃ n e:Nat,n<50/\e<3/\k=kE n e
theorem mD (N n e:Nat) (hn:n<N) (he:e<3):(hEs N)[3*n+e]?=some (hE n e):=by
 unfold hEs
 rw[wM,List.getElem?_range (by omega),Option.map_some,show(3*n+e) / 3=n by omega,show(3*n+e) % 3=e by omega]
theorem nodup_ix {l:List Int} (h:l.Nodup) {i j:Nat}{x:Int} (hi:l[i]?=some x) (hj:l[j]?=some x):i=j:=by
 obtain⟨li,ei⟩:=List.getElem?_eq_some_iff.mp hi
 obtain⟨lj,ej⟩:=List.getElem?_eq_some_iff.mp hj
 rcases Nat.lt_trichotomy i j with c | c | c
 ·exact absurd (ei.trans ej.symm) (List.pairwise_iff_getElem.mp h i j li lj c)
 ·exact c
 ·exact absurd (ej.trans ei.symm) (List.pairwise_iff_getElem.mp h j i lj li c)
theorem EK.inj {P:Program}{w:World}{kvs:List (List Key×V)} (h:EK kvs):∀ k1 ∈ kvs.map (·.1),∀ k2 ∈ kvs.map (·.1),iF P w k1=iF P w k2->k1=k2:=fun k1 h1 k2 h2 e=>by
 obtain⟨n1,e1,a1,b1,rfl⟩:=h k1 h1
 obtain⟨n2,e2,a2,b2,rfl⟩:=h k2 h2
 have e':hE n1 e1=hE n2 e2:=e
 have g1:=mD 50 n1 e1 a1 b1
 have g2:=mD 50 n2 e2 a2 b2
 rw[<- e'] at g2
 have ix:=nodup_ix hE50 g1 g2
 have:n1=n2/\e1=e2:=by omega
 rw[this.1,this.2]
theorem jV (A:YA) (next:Int) (eng:V) (q:Addr):bR "kinds" (.ref q) (fl A next eng)=fl { A with k:=q } next eng:=by kernel_rfl
theorem jT (A:YA) (next:Int) (eng:V) (q:Addr):bR "notes" (.ref q) (fl A next eng)=fl { A with n:=q } next eng:=by kernel_rfl
theorem fT (A:YA) (next:Int) (eng:V) (q:Addr):bR "rods_under" (.ref q) (fl A next eng)=fl { A with r:=q } next eng:=by kernel_rfl
theorem jS (A:YA) (next:Int) (eng:V) (q:Addr):bR "sides" (.ref q) (fl A next eng)=fl { A with s:=q } next eng:=by kernel_rfl
theorem jU (A:YA) (next:Int) (eng:V) (q:Addr):bR "mates" (.ref q) (fl A next eng)=fl { A with m:=q } next eng:=by kernel_rfl
theorem kG (A:YA) (next:Int) (eng:V) (q:Addr):bR "rung" (.ref q) (fl A next eng)=fl { A with g:=q } next eng:=by kernel_rfl
theorem fl_m7 (A:YA) (next:Int) (eng:V):(fl A next eng).lookup ("make_twin" : Str)=none:=by kernel_rfl
inductive sp_make_twin (C:Addr) (vs:List V) (H:Hp) (Q:VK) (E_:XK):Prop
 | mk (A:YA) (y:YR) (L:Kn) (_:vs=[.ref A.p]) (_:Has H (yL C A y++L)) (_:EK y.mates) (_:∀ H' B,Has H' (yL C B { y with trail:=[] }++(yL C A y++L))->Q (.ref B.p) H'):sp_make_twin C vs H Q E_
section
variable {P:Program}{w:World}{K:PySem.W.Frag}{mg:Str->Option Value}{base:Heap}{t:Adr}
theorem scMk7:FnScope ["self","other"] ["self"] (aj v4):={}
theorem ok_J6 (T:Txt K mg t):FnOk P w K mg base CX0 3 t.f_J6 t.d_J6 ["self"] (sp_make_twin t.c_Yard):=by
 refine T.F_J6.ok scMk7 (fun vs H Q E h=>?_) (fun cdv A outer s H vs Q E hr h=>?_)
 ·obtain⟨_,_,_,rfl,_⟩:=h
  rfl
 ·obtain⟨A,y,L,rfl,hH,ek,q⟩:=h
  refine⟨_,(ae (ax (i:=1) scMk7.nd rfl (Or.inl rfl) (kh T.mk_Yard (sG T) (hr.mono (by decide)) (by rfl) T.m_Yard (wt T) .nil aM))
   (ae (bH (pv 1) (aw (pv 0) rfl) rfl)
   (ae (bH (pv 1) (aZ ee (by rfl) T.z_dict (by rfl) (aa (aw (pv 0) rfl) af)) rfl)
   (ae (bH (pv 1) (aZ ee (by rfl) T.z_dict (by rfl) (aa (aw (pv 0) rfl) af)) rfl)
   (ae (bH (pv 1) (aZ ee (by rfl) T.z_dict (by rfl) (aa (aw (pv 0) rfl) af)) rfl)
   (ae (bH (pv 1) (aZ cx (by rfl) T.z_list (by rfl) (aa (aw (pv 0) rfl) af)) rfl)
   (ae (bH (pv 1) (aZ iQ (by rfl) T.z_dict (by rfl) (aa (aw (pv 0) rfl) af)) rfl)
   (ae (bH (pv 1) (aw (pv 0) rfl) rfl)
   (ae (bH (pv 1) (aZ cx (by rfl) T.z_list (by rfl) (aa (aw (pv 0) rfl) af)) rfl)
   (ag (ap (pv 1)))))))))))),?_⟩
  intro p1 dx1 hp1 hdx1 ne1
  refine⟨p1,dx1,_,U,(hH.alloc hdx1 (.own p1)).alloc (by rw[aA (Ne.symm ne1)]; exact hp1) (.ins t.c_Yard dx1 []),fun H2 B e1 h=>⟨U,?_⟩⟩
  subst e1
  clear hp1 hdx1 ne1 hH
  refine⟨_,U,A.p,_,A.dx,_,_,U,h.get 10 U,T.cl_Yard,T.n_Yard_next_piece,jW _ _ _,?_⟩
  refine⟨_,U,B.p,_,B.dx,_,U,h.get 1 U,T.cl_Yard,T.n_Yard_next_piece,(show 9<1000 by decide),?_⟩
  rw[show(y0.next)=0 from rfl,gO]
  replace h:Has _ (yL t.c_Yard B { y0 with next:=y.next }++(yL t.c_Yard A y++L)):=h.puti 1 U (.ins t.c_Yard B.dx (fl B y.next y0.eng))
  refine⟨_,U,A.p,_,A.dx,_,_,U,h.get 10 U,T.cl_Yard,T.n_Yard_kinds,cg _ _ _,A.k,_,U,.inl (h.get 12 U),fun l_k hl_k=>?_⟩
  refine⟨_,U,B.p,_,B.dx,_,U,(h.alloc hl_k _).get 2 U,T.cl_Yard,T.n_Yard_kinds,(show 9<1000 by decide),?_⟩
  rw[jV]
  replace h:Has _ (yL t.c_Yard { B with k:=l_k } { y0 with next:=y.next,kinds:=y.kinds }++(yL t.c_Yard A y++L)):=Has.repl ((h.alloc hl_k (.dK y.kinds)).puti 2 U (.ins t.c_Yard B.dx (fl { B with k:=l_k } y.next .non))) 3 (by simp[yL])
  clear hl_k
  refine⟨_,U,A.p,_,A.dx,_,_,U,h.get 10 U,T.cl_Yard,T.n_Yard_notes,cf _ _ _,A.n,_,U,.inl (h.get 13 U),fun l_n hl_n=>?_⟩
  refine⟨_,U,B.p,_,B.dx,_,U,(h.alloc hl_n _).get 2 U,T.cl_Yard,T.n_Yard_notes,(show 9<1000 by decide),?_⟩
  rw[jT]
  replace h:Has _ (yL t.c_Yard { B with k:=l_k,n:=l_n } { y0 with next:=y.next,kinds:=y.kinds,notes:=y.notes }++(yL t.c_Yard A y++L)):=Has.repl ((h.alloc hl_n (.dK y.notes)).puti 2 U (.ins t.c_Yard B.dx (fl { B with k:=l_k,n:=l_n } y.next .non))) 4 (by simp[yL])
  clear hl_n
  refine⟨_,U,A.p,_,A.dx,_,_,U,h.get 10 U,T.cl_Yard,T.n_Js_under,cB _ _ _,A.r,_,U,.inl (h.get 14 U),fun l_r hl_r=>?_⟩
  refine⟨_,U,B.p,_,B.dx,_,U,(h.alloc hl_r _).get 2 U,T.cl_Yard,T.n_Js_under,(show 9<1000 by decide),?_⟩
  rw[fT]
  replace h:Has _ (yL t.c_Yard { B with k:=l_k,n:=l_n,r:=l_r } { y0 with next:=y.next,kinds:=y.kinds,notes:=y.notes,rods:=y.rods }++(yL t.c_Yard A y++L)):=Has.repl ((h.alloc hl_r (.dK y.rods)).puti 2 U (.ins t.c_Yard B.dx (fl { B with k:=l_k,n:=l_n,r:=l_r } y.next .non))) 5 (by simp[yL])
  clear hl_r
  refine⟨_,U,A.p,_,A.dx,_,_,U,h.get 10 U,T.cl_Yard,T.n_Yard_sides,bX _ _ _,A.s,_,U,.inl (SqL.of (h.get 15 U)),fun l_s hl_s=>?_⟩
  refine⟨_,U,B.p,_,B.dx,_,U,(h.alloc hl_s _).get 2 U,T.cl_Yard,T.n_Yard_sides,(show 9<1000 by decide),?_⟩
  rw[jS]
  replace h:Has _ (yL t.c_Yard { B with k:=l_k,n:=l_n,r:=l_r,s:=l_s } { y0 with next:=y.next,kinds:=y.kinds,notes:=y.notes,rods:=y.rods,sides:=y.sides }++(yL t.c_Yard A y++L)):=Has.repl ((h.alloc hl_s (.lst y.sides)).puti 2 U (.ins t.c_Yard B.dx (fl { B with k:=l_k,n:=l_n,r:=l_r,s:=l_s } y.next .non))) 6 (by simp[yL])
  clear hl_s
  refine⟨_,U,A.p,_,A.dx,_,_,U,h.get 10 U,T.cl_Yard,T.n_Yard_mates,bv _ _ _,A.m,_,U,.inl (h.get 16 U),ek.inj,fun l_m hl_m=>?_⟩
  refine⟨_,U,B.p,_,B.dx,_,U,(h.alloc hl_m _).get 2 U,T.cl_Yard,T.n_Yard_mates,(show 9<1000 by decide),?_⟩
  rw[jU]
  replace h:Has _ (yL t.c_Yard { B with k:=l_k,n:=l_n,r:=l_r,s:=l_s,m:=l_m } { y0 with next:=y.next,kinds:=y.kinds,notes:=y.notes,rods:=y.rods,sides:=y.sides,mates:=y.mates }++(yL t.c_Yard A y++L)):=Has.repl ((h.alloc hl_m (.dT y.mates)).puti 2 U (.ins t.c_Yard B.dx (fl { B with k:=l_k,n:=l_n,r:=l_r,s:=l_s,m:=l_m } y.next .non))) 7 (by simp[yL])
  clear hl_m
  refine⟨_,U,A.p,_,A.dx,_,_,U,h.get 10 U,T.cl_Yard,T.n_Ja_end,d9 _ _ _,?_⟩
  refine⟨_,U,B.p,_,B.dx,_,U,h.get 1 U,T.cl_Yard,T.n_Ja_end,(show 9<1000 by decide),?_⟩
  rw[bJ]
  replace h:Has _ (yL t.c_Yard { B with k:=l_k,n:=l_n,r:=l_r,s:=l_s,m:=l_m } { y0 with next:=y.next,kinds:=y.kinds,notes:=y.notes,rods:=y.rods,sides:=y.sides,mates:=y.mates,eng:=y.eng }++(yL t.c_Yard A y++L)):=h.puti 1 U (.ins t.c_Yard B.dx (fl { B with k:=l_k,n:=l_n,r:=l_r,s:=l_s,m:=l_m } y.next y.eng))
  refine⟨_,U,A.p,_,A.dx,_,_,U,h.get 10 U,T.cl_Yard,T.n_Yard_rung,fc _ _ _,A.g,_,U,.inl (SqL.of (h.get 17 U)),fun l_g hl_g=>?_⟩
  refine⟨_,U,B.p,_,B.dx,_,U,(h.alloc hl_g _).get 2 U,T.cl_Yard,T.n_Yard_rung,(show 9<1000 by decide),?_⟩
  rw[kG]
  replace h:Has _ (yL t.c_Yard { B with k:=l_k,n:=l_n,r:=l_r,s:=l_s,m:=l_m,g:=l_g } { y0 with next:=y.next,kinds:=y.kinds,notes:=y.notes,rods:=y.rods,sides:=y.sides,mates:=y.mates,eng:=y.eng,rung:=y.rung }++(yL t.c_Yard A y++L)):=Has.repl ((h.alloc hl_g (.lst y.rung)).puti 2 U (.ins t.c_Yard B.dx (fl { B with k:=l_k,n:=l_n,r:=l_r,s:=l_s,m:=l_m,g:=l_g } y.next y.eng))) 8 (by simp[yL])
  clear hl_g
  refine⟨_,U,q _ { B with k:=l_k,n:=l_n,r:=l_r,s:=l_s,m:=l_m,g:=l_g } h⟩
theorem scTn:FnScope ["yard"] ["yard"] (aj oG):={}
theorem gU (T:Txt K mg t):FnOk P w K mg base CX0 4 t.f_twin t.d_twin ["yard"] (sp_make_twin t.c_Yard):=by
 refine T.F_twin.ok scTn (fun vs H Q E h=>?_) (fun cdv A outer s H vs Q E hr h=>?_)
 ·obtain⟨_,_,_,rfl,_⟩:=h
  rfl
 ·obtain⟨A,y,L,rfl,hH,ek,q⟩:=h
  refine⟨_,(ag (ap (aO (pv 0) T.cl_Yard T.M_J6 (ok_J6 T) hr (b_J6 T) .nil aM))),?_⟩
  exact⟨_,U,A.p,A.dx,_,U,hH.get 1 U,fl_m7 _ _ _,A,y,L,U,hH,ek,q⟩
end
def Ek (z:Addr×HO):Prop:=(∃ n e:Int,z.2=.tup [.int n,.int e])∨(∃ o,z.2=.frz o (.own 0))∨∃ ps,z.2=.tbl ps
structure Pr where
 A:YA
 B:MA
 w:Wd
 s0:Sd
 ts:List (Addr×Sd)
 ms:List (Addr×Addr×Sd)
 y:YR
 q:MR
def Pr.X (C:Addr) (p:Pr):Kn:=mL p.B p.y p.q++(mtK p.ms++(yL C p.A p.y++trK p.w p.ts))
abbrev Pr.G (p:Pr) (L:Kn) (c:Nat):Prop:=G11 p.w p.s0 p.ts p.ms p.y p.q L c
theorem Pr.hL (p:Pr) (C:Addr) (L:Kn):P.hL C p.A p.B p.w p.ts p.ms p.y p.q L=p.X C++L:=by unfold P.hL Pr.X; simp only[wG]
theorem Ek.nt {z:Addr×HO} (h:¬ Ek z):NT z:=fun ps e=>h (.inr (.inr ⟨ps,e⟩))
theorem pull {X1 X L':Kn} (h:Has H (X1++L')) (hx:∀ z ∈ X,z ∈ L') (nd:(X.map (·.1)).Nodup):∃ M':Kn,Has H (X1++(X++M'))/\∀ z ∈ L',z ∈ X∨z ∈ M':=by
 refine⟨L'.filter fun z=>decide (¬ z.1 ∈ X.map (·.1)),⟨?_,?_⟩,fun z hz=>?_⟩
 ·have n0:=h.nd
  rw[wL,List.nodup_append] at n0
  obtain⟨n1,n2,n3⟩:=n0
  rw[wL,wL,List.nodup_append,List.nodup_append]
  refine⟨n1,⟨nd,n2.sublist (List.filter_sublist.map _),fun a ha b hb e=>?_⟩,fun a ha b hb=>?_⟩
  ·obtain⟨z,hz,rfl⟩:=wX.mp hb
   exact of_decide_eq_true (List.mem_filter.mp hz).2 (by rw[<- e]; exact ha)
  ·refine n3 a ha b ?_
   rcases xb.mp hb with hb | hb
   ·obtain⟨z,hz,rfl⟩:=wX.mp hb
    exact wW (hx z hz)
   ·obtain⟨z,hz,rfl⟩:=wX.mp hb
    exact wW (List.mem_filter.mp hz).1
 ·intro x hx'
  rcases xb.mp hx' with m | m
  ·exact h.at_ x (wY _ m)
  ·rcases xb.mp m with m | m
   ·exact h.at_ x (wD _ (hx x m))
   ·exact h.at_ x (wD _ (List.mem_filter.mp m).1)
 ·by_cases c:z.1 ∈ X.map (·.1)
  ·obtain⟨x,mx,e⟩:=wX.mp c
   have q1:=h.at_ x (wD _ (hx x mx))
   have q2:=h.at_ z (wD _ hz)
   rw[e,q2] at q1
   have e2:=Option.some.inj q1
   refine .inl ?_
   rw[show z=x from Prod.ext e.symm e2]
   exact mx
  ·exact .inr (List.mem_filter.mpr ⟨hz,decide_eq_true c⟩)
theorem G11.sub {y:YR}{L L':Kn} (G:G11 w s0 ts ms y q L c) (up:∀ z ∈ L,Ek z->z ∈ L'):G11 w s0 ts ms y q L' c :=
 have S:=G.st
 ⟨⟨S.ok,S.rep,S.mq,S.his,S.hms,S.ytr,S.qtr,fun n e z hz=>up _ (S.pm n e z hz) (.inl ⟨_,_,U⟩),fun z hz=>up _ (S.pe z hz) (.inl ⟨_,_,U⟩)⟩,G.kf,G.fr,G.sy,G.kk,G.n0,G.n1,G.lk,G.ln,G.lr,G.ls,G.lm,G.lg,G.lt,G.km,G.kp⟩
theorem Tb.sub {L L':Kn}{Pt:Addr}{qual:Str} (T:Tb L Pt qual) (h:∀ z ∈ L,Ek z->z ∈ L'):Tb L' Pt qual:=by
 obtain⟨ps,m,tr,hp⟩:=T.ex
 exact⟨ps,h _ m (.inr (.inr ⟨_,U⟩)),tr,fun pos=>(hp pos).imp id fun⟨c',oc,vs,t,a,b,c,d⟩=>⟨c',oc,vs,t,a,h _ b (.inr (.inl ⟨_,U⟩)),c,d⟩⟩
theorem Tbs.sub {t:Adr}{L L':Kn} (B:Tbs t L) (h:∀ z ∈ L,Ek z->z ∈ L'):Tbs t L':=⟨Tb.sub B.ly h,Tb.sub B.lk h,Tb.sub B.ul h,Tb.sub B.lf h,Tb.sub B.pt h,Tb.sub B.th h⟩
theorem disjZ {X1 Z M:Kn} (h:Has H (X1++(Z++M))) {z:Addr×HO} (a:z ∈ Z) (b:z ∈ M):False:=by
 have n0:=h.nd
 rw[wL,wL,List.nodup_append,List.nodup_append] at n0
 exact n0.2.1.2.2 _ (wW a) _ (wW b) rfl
theorem ndZ {X1 Z M:Kn} (h:Has H (X1++(Z++M))):(Z.map (·.1)).Nodup:=by
 have n0:=h.nd
 rw[wL,wL,List.nodup_append,List.nodup_append] at n0
 exact n0.2.1.1
theorem Pr.has {p:Pr}{C:Addr} (h:Has H (p.X C++L)):Has H (P.hL C p.A p.B p.w p.ts p.ms p.y p.q L):=by rw[Pr.hL]; exact h
theorem Pr.has' {p:Pr}{C:Addr} (h:Has H (P.hL C p.A p.B p.w p.ts p.ms p.y p.q L)):Has H (p.X C++L):=by rw[<- Pr.hL]; exact h
theorem Pr.G.z {p:Pr}{M Z:Kn} (G:p.G M c):p.G (Z++M) c:=G11.up G (fun _ hz _=>wD _ hz)
theorem rM {t:Adr}{Φ:Hp->Prop}{p:Pr}{Z M:Kn} (h:Has H (p.X t.c_Yard++(Z++M))) (nz:∀ z ∈ Z,¬ Ek z)
  (q:∀ H' (p':Pr) M',p'.A.p=p.A.p->p'.B.m=p.B.m->Has H' (p'.X t.c_Yard++(Z++M'))->p'.G M' (c+1)->Tbs t M'->(∀ z ∈ M,NT z∨z.1 ∉ T6 t->z ∈ M')->Φ H') :
  ∀ H' A' B' w' s0' ts' ms' y' q' L',A'.p=p.A.p->B'.m=p.B.m->Has H' (P.hL t.c_Yard A' B' w' ts' ms' y' q' L')->G11 w' s0' ts' ms' y' q' L' (c+1)->Tbs t L'->(∀ z ∈ Z++M,NT z∨z.1 ∉ T6 t->z ∈ L')->Φ H':=by
 intro H' A' B' w' s0' ts' ms' y' q' L' eA eB h' G' tb' kp
 have h2:Has H' ((Pr.mk A' B' w' s0' ts' ms' y' q').X t.c_Yard++L'):=Pr.has' h'
 obtain⟨M',h3,cs⟩:=pull (X:=Z) h2 (fun z hz=>kp z (wY _ hz) (.inl (Ek.nt (nz z hz)))) (ndZ h)
 have up:∀ z ∈ L',Ek z->z ∈ M':=fun z hz ek=>(cs z hz).elim (fun m=>absurd ek (nz z m)) id
 exact q H' ⟨A',B',w',s0',ts',ms',y',q'⟩ M' eA eB h3 (G'.sub up) (tb'.sub up) (fun z hz nt=>(cs z (kp z (wD _ hz) nt)).elim (fun m=>(disjZ h m hz).elim) id)
theorem G11.ek {y:YR} (G:G11 w s0 ts ms y q L c) (hc:c<=50):EK y.mates:=fun k hk=>by
 obtain⟨n,e,rfl⟩:=G.km k hk
 obtain⟨pr,mp,ek⟩:=wX.mp hk
 obtain⟨v,hv⟩:=j6 mp
 rw[ek,G.st.rep.mt] at hv
 obtain⟨z,hz,_⟩:=Option.map_eq_some_iff.mp hv
 obtain⟨_,z',h1,h2⟩:=G.sy n e z hz
 obtain⟨k',hk',e0,e1⟩:=G.st.rep.mo _ _ _ h1
 rw[h2] at hk' e0 e1
 have hk':w.kf n=some k':=hk'
 have e0:0<=e:=e0
 have e1:e<k'.many:=e1
 have n0:=G.kp n k' hk'
 have m3:k'.many<=3:=by cases k' <;> decide
 have n1:n<y.next:=by
  by_cases c:y.next<=n
  ·have:=G.kf n
   rw[(G.fr n c).1,hk'] at this
   cases this
  ·omega
 have:=G.n1
 exact⟨n.toNat,e.toNat,by omega,by omega,by rw[Int.toNat_of_nonneg n0,Int.toNat_of_nonneg e0]⟩
def Pr.twin (p:Pr) (A:YA) (B:MA):Pr:=⟨A,B,p.w,p.w.go p.ts.length p.s0,[],[],{ p.y with trail:=[] },⟨p.q.sides,p.q.at_,p.q.rung,[]⟩⟩
theorem kN {X:Cx}:cR X (.type "dict") (fun xs H Q=>(∃ p kvs,xs=[.ref p]/\Rd H p (.dK kvs)/\∀ l,H l=none->Q (.ref l) (upd H l (.dK kvs)))∨∃ p kvs,xs=[.ref p]/\Rd H p (.dT kvs)/\(∀ k1 ∈ kvs.map (·.1),∀ k2 ∈ kvs.map (·.1),iF X.prog X.w k1=iF X.prog X.w k2->k1=k2)/\∀ l,H l=none->Q (.ref l) (upd H l (.dT kvs))):=by
 intro pins s σ H xs us Q I r h
 rcases h with h | h
 ·exact ee pins s σ H xs us Q I r h
 ·exact iQ pins s σ H xs us Q I r h
section
variable {H:Hp}{B:MA}{a:V}{on:Int}
theorem mp_k (h:H B.m=some (.dK (mfl B a on))) (q:Addr):DPut H B.m (.str "kinds") (.ref q) (upd H B.m (.dK (mfl { B with k:=q } a on))):=.inl ⟨_,.inr "kinds",h,U,aS (show 9<=1000000 by decide),by rw[show aG (mfl B a on) (.inr "kinds") (.ref q)=mfl { B with k:=q } a on by kernel_rfl]⟩
theorem mp_n (h:H B.m=some (.dK (mfl B a on))) (q:Addr):DPut H B.m (.str "notes") (.ref q) (upd H B.m (.dK (mfl { B with n:=q } a on))):=.inl ⟨_,.inr "notes",h,U,aS (show 9<=1000000 by decide),by rw[show aG (mfl B a on) (.inr "notes") (.ref q)=mfl { B with n:=q } a on by kernel_rfl]⟩
theorem mp_r (h:H B.m=some (.dK (mfl B a on))) (q:Addr):DPut H B.m (.str "rods") (.ref q) (upd H B.m (.dK (mfl { B with r:=q } a on))):=.inl ⟨_,.inr "rods",h,U,aS (show 9<=1000000 by decide),by rw[show aG (mfl B a on) (.inr "rods") (.ref q)=mfl { B with r:=q } a on by kernel_rfl]⟩
theorem mp_mt (h:H B.m=some (.dK (mfl B a on))) (q:Addr):DPut H B.m (.str "mates") (.ref q) (upd H B.m (.dK (mfl { B with mt:=q } a on))):=.inl ⟨_,.inr "mates",h,U,aS (show 9<=1000000 by decide),by rw[show aG (mfl B a on) (.inr "mates") (.ref q)=mfl { B with mt:=q } a on by kernel_rfl]⟩
end
def cpY (y:YR) (i:Nat):YR:={ y0 with kinds:=if 1<=i then y.kinds else [],notes:=if 2<=i then y.notes else [],rods:=if 3<=i then y.rods else [],mates:=if 4<=i then y.mates else [] }
inductive sp_copy (vs:List V) (H:Hp) (Q:VK) (E_:XK):Prop
 | mk (B:MA) (y:YR) (q:MR) (L:Kn) (_:vs=[.ref B.m]) (_:Has H (mL B y q++L)) (_:EK y.mates) (_:∀ H' B',Has H' (mL B' y ⟨q.sides,q.at_,q.rung,[]⟩++(mL B y q++L))->Q (.ref B'.m) H'):sp_copy vs H Q E_
section
variable {P:Program}{w:World}{K:PySem.W.Frag}{mg:Str->Option Value}{base:Heap}{t:Adr}
theorem scMc:FnScope ["_law_m","_law_found","_law_word"] ["_law_m"] (aj vS):={}
theorem ok_Je (T : Txt K mg t) : FnOk P w K mg base CX0 3 t.f_Je t.d_Je ["_law_m"] sp_copy := by
  refine T.F_Je.ok scMc (fun vs H Q E h=>?_) (fun cdv A outer s H vs Q E hr h=>?_)
  · obtain⟨_, _, _, _, rfl, _⟩ := h
    rfl
  · obtain⟨B, y, q0, L, rfl, hH, ek, q⟩ := h
    have hu := bi hr
    refine⟨_, (ae (ax (i := 1) scMc.nd rfl (Or.inl rfl) (ie (kq T) (hr.mono (by decide)) (by rfl) T.m_fresh T.F_fresh.kp (mQ T) .nil aM))
      (ae (cK PassesOwn.never rfl (gT (aN (aa ah (aa ah (aa ah (aa ah af)))))) (aI (i := 2) scMc.nd rfl (Or.inl rfl))
        (ag (aJ hu (pv 1) (pv 2) (aZ kN (by rfl) T.z_dict (by rfl) (aa (aq hu (pv 0) (pv 2)) af)) rfl)))
      (ae (aJ hu (pv 1) ah (aZ cx (by rfl) T.z_list (by rfl) (aa (aB (aq hu (pv 0) ah)) af)) rfl)
      (ae (aJ hu (pv 1) ah (aZ cx (by rfl) T.z_list (by rfl) (aa (aB (aq hu (pv 0) ah)) af)) rfl)
      (ae (aJ hu (pv 1) ah (aB (aq hu (pv 0) ah)) rfl)
      (ae (aJ hu (pv 1) ah (aB (aq hu (pv 0) ah)) rfl)
      (ag (ap (pv 1))))))))), ?_⟩
    rw[show L2.start ["_law_m", "_law_found", "_law_word"] [V.ref B.m]=([some (V.ref B.m), none, none] : St) from rfl]
    refine⟨_, rfl, hH, fun H1 B1 h1=>?_⟩
    dsimp only[List.set]
    refine⟨(sz_ 4), fun l hl=>?_⟩
    have h2 := h1.alloc hl (.lst [.str "kinds", .str "notes", .str "rods", .str "mates"])
    refine⟨l, rfl, ⟨_, SqL.of (h2.get 0 U)⟩, kF (xs := [.str "kinds", .str "notes", .str "rods", .str "mates"]) (fun i σ H'=>∃ (B2 : MA) (o : Option V), B2.m=B1.m/\σ=[some (.ref B.m), some (.ref B1.m), o]/\Has H' ((l, .lst [.str "kinds", .str "notes", .str "rods", .str "mates"])::(mL B2 (cpY y i) ⟨[], .non, [], []⟩++(mL B y q0++L)))) ⟨B1, _, rfl, rfl, h2⟩ (fun i σ H' _ ⟨_, _, _, _, h⟩=>SqL.of (h.get 0 U)) ?_ ?_⟩
    · clear h2 h1
      rintro i x σ H2 hx ⟨B2, o, em, rfl, h2⟩
      rw[<- em]
      match i, hx with
      | 0, hx=>
        cases hx
        refine⟨_, rfl, _, rfl, B.m, _, rfl, gv (h2.get 9 U), .inl ⟨B.k, _, rfl, .inl (h2.get 10 U), fun c hc=>?_⟩⟩
        have h3 := h2.alloc hc (.dK y.kinds)
        refine⟨_, rfl, _, rfl, B2.m, _, rfl, mp_k (h3.get 2 U) c, ?_⟩
        have h4 := h3.puti 2 U (.dK (mfl { B2 with k := c } .non 0))
        exact⟨{ B2 with k := c }, _, rfl, rfl, Has.repl h4 2 (by simp[mL])⟩
      | 1, hx=>
        cases hx
        refine⟨_, rfl, _, rfl, B.m, _, rfl, ny (h2.get 9 U), .inl ⟨B.n, _, rfl, .inl (h2.get 11 U), fun c hc=>?_⟩⟩
        have h3 := h2.alloc hc (.dK y.notes)
        refine⟨_, rfl, _, rfl, B2.m, _, rfl, mp_n (h3.get 2 U) c, ?_⟩
        have h4 := h3.puti 2 U (.dK (mfl { B2 with n := c } .non 0))
        exact⟨{ B2 with n := c }, _, rfl, rfl, Has.repl h4 3 (by simp[mL])⟩
      | 2, hx=>
        cases hx
        refine⟨_, rfl, _, rfl, B.m, _, rfl, jM (h2.get 9 U), .inl ⟨B.r, _, rfl, .inl (h2.get 12 U), fun c hc=>?_⟩⟩
        have h3 := h2.alloc hc (.dK y.rods)
        refine⟨_, rfl, _, rfl, B2.m, _, rfl, mp_r (h3.get 2 U) c, ?_⟩
        have h4 := h3.puti 2 U (.dK (mfl { B2 with r := c } .non 0))
        exact⟨{ B2 with r := c }, _, rfl, rfl, Has.repl h4 4 (by simp[mL])⟩
      | 3, hx=>
        cases hx
        refine⟨_, rfl, _, rfl, B.m, _, rfl, dR (h2.get 9 U), .inr ⟨B.mt, _, rfl, .inl (h2.get 14 U), ek.inj, fun c hc=>?_⟩⟩
        have h3 := h2.alloc hc (.dT y.mates)
        refine⟨_, rfl, _, rfl, B2.m, _, rfl, mp_mt (h3.get 2 U) c, ?_⟩
        have h4 := h3.puti 2 U (.dK (mfl { B2 with mt := c } .non 0))
        exact⟨{ B2 with mt := c }, _, rfl, rfl, Has.repl h4 6 (by simp[mL])⟩
      | (i + 4), hx => exact absurd (List.getElem?_eq_some_iff.mp hx).1 (by simp)
    · clear h2 h1
      rintro σ H2 ⟨B2, o, em, rfl, h2⟩
      rw[<- em]
      replace h2 : Has H2 (mL B2 { y0 with kinds := y.kinds, notes := y.notes, rods := y.rods, mates := y.mates } ⟨[], .non, [], []⟩++(mL B y q0++L)) := h2.tail
      refine⟨_, ⟨_, rfl, fS (h2.get 8 U)⟩, B.s, _, rfl, .inl (SqL.of (h2.get 12 U)), fun c hc=>?_⟩
      have h3 := h2.alloc hc (.lst q0.sides)
      refine⟨_, rfl, B2.m, _, rfl, wc (h3.get 1 U) c, ?_⟩
      have h4 := h3.puti 1 U (.dK (mfl { B2 with s := c } .non 0))
      have h5 : Has _ (mL { B2 with s := c } { y0 with kinds := y.kinds, notes := y.notes, rods := y.rods, mates := y.mates } ⟨q0.sides, .non, [], []⟩++(mL B y q0++L)) := Has.repl h4 4 (by simp[mL])
      refine⟨_, ⟨_, rfl, pL (h5.get 8 U)⟩, B.g, _, rfl, .inl (SqL.of (h5.get 14 U)), fun g hg=>?_⟩
      have h6 := h5.alloc hg (.lst q0.rung)
      refine⟨_, rfl, B2.m, _, rfl, wd (B := { B2 with s := c }) (h6.get 1 U) g, ?_⟩
      have h7 := h6.puti 1 U (.dK (mfl { B2 with s := c, g := g } .non 0))
      have h8 : Has _ (mL { B2 with s := c, g := g } { y0 with kinds := y.kinds, notes := y.notes, rods := y.rods, mates := y.mates } ⟨q0.sides, .non, q0.rung, []⟩++(mL B y q0++L)) := Has.repl h7 6 (by simp[mL])
      refine⟨_, ⟨_, rfl, gI (h8.get 8 U)⟩, _, rfl, B2.m, _, rfl, kt (B := { B2 with s := c, g := g }) (h8.get 0 U) _, ?_⟩
      have h9 := h8.puti 0 U (.dK (mfl { B2 with s := c, g := g } q0.at_ 0))
      refine⟨_, ⟨_, rfl, mw (h9.get 8 U)⟩, _, rfl, B2.m, _, rfl, sM (B := { B2 with s := c, g := g }) (h9.get 0 U) _, ?_⟩
      have h10 := h9.puti 0 U (.dK (mfl { B2 with s := c, g := g } q0.at_ y.next))
      exact⟨_, rfl, q _ { B2 with s := c, g := g } h10⟩
end
inductive sp_begun (t:Adr) (vs:List V) (H:Hp) (Q:VK) (E_:XK):Prop
 | mk (L:Kn) (d:Addr) (ds:List Int) (n:Nat) (_:vs=[.ref d,.int n]) (_:Has H L) (_:Tbs t L) (_:(d,HO.lst (ds.map V.int)) ∈ L) (_:n<=20) (_:8+5*n<=ds.length) (_:∀ H' (p:Pr) M tp,Has H' ((tp,.tup [.ref p.A.p,.ref p.B.m,.bl true])::(p.X t.c_Yard++M))->p.G M (4+n)->Tbs t M->(∀ z ∈ L,NT z∨z.1 ∉ T6 t->z ∈ M)->Q (.ref tp) H'):sp_begun t vs H Q E_
theorem G11.nil (L:Kn):G11 w0 ⟨[],none,[]⟩ [] [] y0 ⟨[],.non,[],[]⟩ L 0 :=
 ⟨⟨Rep.nil.okw,Rep.nil,⟨U,U,U⟩,U,U,U,U,(fun _ _ _ h=>nomatch h),(fun _ h=>nomatch h)⟩,fun _=>rfl,Fre.nil,(fun _ _ _ h=>nomatch h),⟨[],U⟩,Int.le_refl _,Int.le_refl _,Nat.le_refl _,Nat.le_refl _,Nat.le_refl _,Nat.le_refl _,Nat.le_refl _,Nat.le_refl _,Nat.le_refl _,(fun _ h=>nomatch h),(fun _ _ h=>nomatch h)⟩
section
variable {P:Program}{w:World}{K:PySem.W.Frag}{mg:Str->Option Value}{base:Heap}{t:Adr}
theorem scBg:FnScope ["_law_d","_law_deeds","_law_yard","_law_m","_law_good","_law_turn_here","_law_done"] ["_law_d","_law_deeds"] (aj lO):={}
theorem nj (T:Txt K mg t) (kb:K.In base) (hbm:BM base mg):FnOk P w K mg base CX0 14 t.f_begun t.d_begun ["_law_d","_law_deeds"] (sp_begun t):=by
 have ok_lay:∀ (T:Txt K mg t),FnOk P w K mg base CX0 12 t.f_lay t.d_lay ["_law_yard","_law_m","_law_kind_here","_law_tone","_law_bar"] (sp_llay t.c_Yard t.p_lay):=fun T=>mh T kb hbm
 have ok_turn:∀ (T:Txt K mg t),FnOk P w K mg base CX0 13 t.f_turn t.d_turn ["_law_yard","_law_m","_law_d","_law_at"] (sp_turn t):=fun T=>kr T kb hbm
 refine T.F_begun.ok scBg (fun vs H Q E h=>?_) (fun cdv A outer s H vs Q E hr h=>?_)
 ·obtain⟨_,_,_,_,rfl,_⟩:=h
  rfl
 ·obtain⟨Lt,d,ds,n,rfl,h0,tb0,md0,hn,hl,q⟩:=h
  refine⟨_,(ae (ax (i:=2) scBg.nd rfl (Or.inl rfl) (kh T.mk_Yard (sG T) (hr.mono (by decide)) (by rfl) T.m_Yard (wt T) .nil aM))
   (ae (ax (i:=3) scBg.nd rfl (Or.inl rfl) (ie (kq T) (hr.mono (by decide)) (by rfl) T.m_fresh T.F_fresh.kp (mQ T) .nil aM))
   (ae (ax (i:=4) scBg.nd rfl (Or.inl rfl) cM)
   (ae (cK PassesOwn.never rfl (cu (by rfl) T.z_range (aa ai af)) (aI (i:=5) scBg.nd rfl (Or.inl rfl))
    (ae (ax (i:=6) scBg.nd rfl (Or.inl rfl) (pcl (ok_lay T) hr T.m_lay T.F_lay.kp (sV T) (aa (pv 2) (aa (pv 3) (aa (pcl (lX T) hr T.m_kind T.F_kind.kp (qr T) (aa (aR bc (pv 0) (pv 5)) af)) (aa (aC bt (aR bc (pv 0) (aC ba ai (pv 5))) ai) (aa aK af)))))))
     (ag (ax (i:=4) scBg.nd rfl (Or.inl rfl) (fA (pv 4) (fz (pv 6)))))))
   (ae (cK PassesOwn.never rfl (cu (by rfl) T.z_range (aa (pv 1) af)) (aI (i:=5) scBg.nd rfl (Or.inl rfl))
    (ae (ax (i:=6) scBg.nd rfl (Or.inl rfl) (pcl (ok_turn T) hr T.m_turn T.F_turn.kp (qq T) (aa (pv 2) (aa (pv 3) (aa (pv 0) (aa (aC ba ai (aC fB ai (pv 5))) af))))))
     (ag (ax (i:=4) scBg.nd rfl (Or.inl rfl) (fA (pv 4) (fz (pv 6)))))))
   (ag (ap (aF (aa (pv 2) (aa (pv 3) (aa (pv 4) af))))))))))),?_⟩
  rw[show L2.start ["_law_d","_law_deeds","_law_yard","_law_m","_law_good","_law_turn_here","_law_done"] [V.ref d,V.int n]=([some (V.ref d),some (V.int n),none,none,none,none,none]:St) from rfl]
  intro p dx hp hdx hne
  have h2:=(h0.alloc hdx (.own p)).alloc (by rw[aA (Ne.symm hne)]; exact hp) (.ins t.c_Yard dx [])
  refine⟨p,dx,_,U,h2,fun H3 Y eY h3=>⟨U,?_⟩⟩
  subst eY
  dsimp only[List.set]
  refine⟨_,U,h3,fun H4 B h4=>?_⟩
  dsimp only[List.set]
  have h5:Has H4 ((Pr.mk Y B w0 ⟨[],none,[]⟩ [] [] y0 ⟨[],.non,[],[]⟩).X t.c_Yard++Lt):=h4
  clear h4 h3 h2 h0
  have mdn:NT (d,HO.lst (ds.map V.int)):=fun _ e=>nomatch e
  obtain⟨Pv,ePv⟩:∃ Pv:Nat->St->Hp->Prop,Pv=fun c σ H'=>∃ (p:Pr) (L:Kn) (o5 o6:Option V),σ=[some (.ref d),some (.int n),some (.ref p.A.p),some (.ref p.B.m),some (.bl true),o5,o6]/\Has H' (p.X t.c_Yard++L)/\p.G L c/\Tbs t L/\(∀ z ∈ Lt,NT z∨z.1 ∉ T6 t->z ∈ L):=⟨_,U⟩
  refine⟨_,U,by decide,by decide,cw (fun i σ H'=>Pv i σ H') (by rw[ePv]; exact⟨⟨Y,B,_,_,[],[],_,_⟩,Lt,_,_,U,h5,G11.nil Lt,tb0,fun z hz _=>hz⟩) ?_ ?_⟩
  ·intro i σ H2 hi hp
   rw[ePv] at hp ⊢
   obtain⟨p,L,o5,o6,rfl,h6,G,tb,up⟩:=hp
   have mdL:=up _ md0 (.inl mdn)
   rw[Int.zero_add]
   have hi:i<4:=hi
   obtain⟨x0,hx0⟩:=qw (ds:=ds) (i:=(i:Int)) (by omega) (by omega)
   obtain⟨x4,hx4⟩:=qw (ds:=ds) (i:=4+(i:Int)) (by omega) (by omega)
   have gd:∀ {H':Hp},Has H' (p.X t.c_Yard++L)->SqL K H' d (ds.map V.int):=fun h=>SqL.of (h.at_ _ (wD _ mdL))
   refine⟨_,U,_,U,_,U,_,U,d,_,_,_,U,U,gd h6,hx0,x0,_,U,h6,fun k H7 h7=>?_⟩
   have a0:=Int.emod_nonneg x4 (show(10000:Int)≠0 by decide)
   have a1:=Int.emod_lt_of_pos x4 (show(0:Int)<10000 by decide)
   refine⟨_,U,_,U,_,_,U,U,d,_,_,_,U,U,gd h7,hx4,_,_,U,U,(show(0:Int)<10000 by decide),p.A,p.B,p.w,p.s0,p.ts,p.ms,p.y,p.q,L,k,x4 % 10000,none,U,(by rw[Pr.hL]; exact h7),G.st,G.kf,G.fr,G.small (by omega),tb.ly,a0,by omega,(fun _ z=>nomatch z),fun H8 A8 B8 w8 s8 ts8 ms8 y8 q8 L8 hw eA eB h8 S8 t8 kp8 lt8 kf8=>?_⟩
   dsimp only[List.set]
   obtain⟨T8,K8⟩:=tb.kly T h6 t8 kp8
   refine⟨_,U,_,U,cP ⟨_,U,⟨A8,B8,w8,s8,ts8,ms8,y8,q8⟩,L8,some (.int (i:Int)),some (.bl true),?_,(by rw[<- Pr.hL]; exact h8),?_,T8,fun z hz nt=>K8 z (up z hz nt) nt⟩⟩
   ·dsimp only[List.set]; rw[eA,eB]
   ·show G11 w8 s8 ts8 ms8 y8 q8 L8 (i+1)
    rcases hw with ⟨rfl,rfl⟩ | ⟨r,rfl,rfl⟩
    ·exact G.same S8 rfl G.sy rfl rfl rfl rfl (by omega) rfl (by omega) (by omega) G.km
    ·exact G.lay S8 kf8 lt8
  ·intro σ H2 hp
   rw[ePv] at hp
   obtain⟨p,L,o5,o6,rfl,h6,G,tb,up⟩:=hp
   clear h5
   refine⟨_,U,_,U,by omega,by omega,cw (fun i σ H'=>Pv (4+i) σ H') (by rw[ePv]; exact⟨p,L,_,_,U,h6,G,tb,up⟩) ?_ ?_⟩
   ·clear h6 G tb up
    intro i σ H2 hi hp
    rw[ePv] at hp ⊢
    obtain⟨p,L,o5,o6,rfl,h6,G,tb,up⟩:=hp
    rw[Int.zero_add]
    have hi:i<n:=hi
    refine⟨_,U,_,U,_,U,_,U,_,_,U,U,.inl ⟨by decide,by decide⟩,_,_,U,U,p.A,p.B,p.w,p.s0,p.ts,p.ms,p.y,p.q,[]++L,4+i,d,ds,8+5*(i:Int),U,Pr.has h6,G,tb,up _ md0 (.inl mdn),by omega,by omega,by omega,rM (t:=t) (Z:=[]) (M:=L) h6 (fun _ h=>nomatch h) (fun H7 p7 L7 eA eB h7 G7 tb7 K7=>?_)⟩
    dsimp only[List.set]
    refine⟨_,U,_,U,cP ⟨_,U,p7,L7,some (.int (i:Int)),some (.bl true),?_,h7,G7,tb7,fun z hz nt=>K7 z (up z hz nt) nt⟩⟩
    dsimp only[List.set]; rw[eA,eB]
   ·clear h6 G tb up
    intro σ H2 hp
    rw[ePv] at hp
    obtain⟨p,L,o5,o6,rfl,h6,G,tb,up⟩:=hp
    refine⟨_,U,_,U,_,U,(sz_ 3),fun tp htp=>q _ p L tp (h6.alloc htp _) G tb up⟩
end
end P
set_option Elab.async false
set_option linter.all false
set_option maxRecDepth 100000
namespace L2
open PySem PySem.Spec PyProof.Rows
abbrev NK:=Option (List Key)×List Key
variable{Q:Bool->Shared->Prop}
section
variable {prog:Program}{w:World}
def V1 (prog:Program) (w:World) (h:Heap):Option (List Key)->Value->Prop
 | none,v=>v=.none
 | some ks,v=>∃ b,v=.ref b/\(tupleKind (aD prog w)).is h ks b
def IsNest (prog:Program) (w:World) (h:Heap) (k:NK) (a:Addr):Prop:=∃ o n v c,h.get? a=some o/\o.cls=.type "tuple" /\ o.data=.seq #[v,.ref c] n/\V1 prog w h k.1 v/\(tupleKind (aD prog w)).is h k.2 c
theorem IsNest.typeIs {s:Shared}{k:NK}{a:Addr} (x:IsNest prog w s.heap k a):s.TypeIs (.ref a) "tuple":=let ⟨o,_,_,_,ho,hc,_⟩:=x; ⟨o,ho,hc⟩
theorem V1.inj {h:Heap}{v:Value}:∀ {x y:Option (List Key)},V1 prog w h x v->V1 prog w h y v->x=y
 | none,none,_,_=>rfl
 | none,some _,e,⟨_,e2,_⟩=>by rw[show v=Value.none from e] at e2; cases e2
 | some _,none,⟨_,e2,_⟩,e=>by rw[show v=Value.none from e] at e2; cases e2
 | some _,some _,⟨b,e,p⟩,⟨c,e2,q⟩=>by
  rw[e] at e2
  cases e2
  exact congrArg some ((tupleKind _).inj p q)
theorem IsNest.inj {h:Heap}{a:Addr}{x y:NK} (hx:IsNest prog w h x a) (hy:IsNest prog w h y a):x=y:=by
 obtain⟨o,n,b,c,ho,_,hd,h1,h2⟩:=hx
 obtain⟨o',n',b',c',ho',_,hd',h1',h2'⟩:=hy
 obtain rfl:o=o':=Option.some.inj (ho.symm.trans ho')
 rw[hd] at hd'
 injection hd' with e _
 have:(#[b,Value.ref c]:Array Value).toList=[b',Value.ref c']:=by rw[e]
 cases this
 exact Prod.ext (h1.inj h1') ((tupleKind _).inj h2 h2')
theorem IsNest.keeps {h h':Heap}{k:NK}{a d:Addr}{o:Obj} {es ep} (x:IsNest prog w h k a) (ho:h.get? d=some o) (hd:o.data=.dict es ep) (hs:Heap.SameBut d h h'):IsNest prog w h' k a:=by
 obtain⟨o',n,b,c,ho',hc,hd',h1,h2⟩:=x
 have hne:a≠d:=by
  rintro rfl
  obtain rfl:o'=o:=Option.some.inj (ho'.symm.trans ho)
  rw[hd] at hd'; exact nomatch hd'
 refine⟨o',n,b,c,(hs.2 a hne).trans ho',hc,hd',?_,(tupleKind _).keeps h2 ho hd hs⟩
 cases e:k.1 with
 | none=>rw[e] at h1; exact h1
 | some ks=>
  rw[e] at h1
  obtain⟨b',e1,e2⟩:=h1
  exact⟨b',e1,(tupleKind _).keeps e2 ho hd hs⟩
def h1 (prog:Program) (w:World):Option (List Key)->Int
 | none=>(eX prog w).hash none
 | some ks=>(tupleKind (aD prog w)).hash ks
def d1:Option (List Key)->Nat
 | none=>1
 | some ks=>ks.length+1
def ir (prog:Program) (w:World) (k:NK):Int:=reduceHash (Builtin.Tuple.tupleHashOf [h1 prog w k.1,(tupleKind (aD prog w)).hash k.2])
variable {A:Around}{E:Value->Shared->Prop}{s:Shared}
theorem hash1 {k:Option (List Key)}{v:Value}{Q:Int->Shared->Prop} (hu:A.units+1<cLine) (hk:V1 prog w s.heap k v) (h:Q (h1 prog w k) { s with toks:=s.toks+d1 k }):wpAny (model prog w) A.in1 (pyHash v) Q E s:=by
 cases k with
 | none=>
  rw[show v=Value.none from hk]
  exact(eX prog w).pyHash (k:=none) rfl h
 | some ks=>
  obtain⟨b,rfl,e⟩:=hk
  exact(tupleKind (aD prog w)).pyHash (tupleKind_room_in1 hu) e h
theorem eq1 {x y:Option (List Key)}{u v:Value} (hu:A.units<cLine) (hx:V1 prog w s.heap x u) (hy:V1 prog w s.heap y v) (h:Q (decide (x=y)) s):wpAny (model prog w) A (eqBool u v) Q E s:=by
 cases x with
 | none=>
  rw[show u=Value.none from hx]
  cases y with
  | none=>
   rw[show v=Value.none from hy]
   exact SeqAt.EqAt.same _ _ _ _ _ h
  | some ks=>
   obtain⟨b,rfl,o,its,n,e1,e2,e3,_⟩:=hy
   rw[decide_eq_false (fun q=>nomatch q)] at h
   exact SeqAt.EqAt.none_tuple ⟨_,e1,e2,_,e3⟩ hu _ _ _ _ h
 | some ks=>
  obtain⟨b,rfl,e⟩:=hx
  cases y with
  | none=>
   rw[show v=Value.none from hy]
   obtain⟨o,its,n,e1,e2,e3,_⟩:=e
   rw[decide_eq_false (fun q=>nomatch q)] at h
   exact SeqAt.EqAt.tuple_none ⟨_,e1,e2,_,e3⟩ hu _ _ _ _ h
  | some ls=>
   obtain⟨c,rfl,e'⟩:=hy
   refine(tupleKind (aD prog w)).eqBool hu e e' ?_
   by_cases q:ks=ls
   ·rw[decide_eq_true q]; rw[decide_eq_true (by rw[q])] at h; exact h
   ·rw[decide_eq_false q]; rw[decide_eq_false (fun z=>q (Option.some.inj z))] at h; exact h
theorem nV {k:NK}{a:Addr}{Q:Int->Shared->Prop} (hu:A.units+1<cLine) (hk:IsNest prog w s.heap k a) (h:Q (ir prog w k) { s with toks:=s.toks+(d1 k.1+(k.2.length+1)+1) }) :
  wpAny (model prog w) A (pyHash (.ref a)) Q E s:=by
 have hT:=hk.typeIs
 obtain⟨o,n,b,c,ho,_,hd,g1,h2⟩:=hk
 unfold pyHash
 first | unfold pyHashByItsType | skip
 first | refine wpAny_bind (wpAny_cRoomFor_or (.inr (by omega)) ?_) | skip
 refine wpAny_bind (wpAny_specialOf hT F.slot_tuple_hash.lookup ?_)
 show wpAny _ _ (if (some (Value.builtin "tuple.__hash__") == some Value.none)=true then _ else _) Q E s
 rw[if_neg (by rw[beq_builtin_none]; exact Bool.false_ne_true)]
 refine wpAny_bind (wpAny_specialOf hT F.slot_tuple_hash.lookup ?_)
 show wpAny _ _ (callSpecialIfBoundUnlessNone? (.ref a) "__hash__" _ >>= _) Q E s
 refine wpAny_bind (wpAny_callSpecialIfBoundUnlessNone?_slot hT F.slot_tuple_hash (wpAny_call_entry F.slot_tuple_hash hT F.entry_tuple_hash ?_ (F.args_tuple_hash_1 _)))
 show wpAny _ _ (Builtin.Tuple.tupleItemsOf (.ref a) >>= _) _ _ s
 refine wpAny_bind (wpAny_tupleItemsOf ho hd ?_)
 refine wpAny_bind ?_
 rw[<- Array.forIn_toList]
 refine wpAny_forIn_list _
  (fun rest (bb:Array Int) s'=>(rest=[b,.ref c]/\bb = #[]/\s'=s)∨(rest=[.ref c]/\bb.toList=[h1 prog w k.1]/\s'={ s with toks:=s.toks+d1 k.1 })∨(rest=[]/\bb.toList=[h1 prog w k.1,(tupleKind (aD prog w)).hash k.2]/\s'={ s with toks:=s.toks+d1 k.1+(k.2.length+1) }))
  _ ?_ ?_ _ _ (.inl ⟨U,U,U⟩)
 ·rintro x rest bb s' (⟨e,hb,rfl⟩ | ⟨e,hb,rfl⟩ | ⟨e,_⟩)
  ·cases e
   refine wpAny_bind (hash1 hu g1 ?_)
   have fin:(bb.push (h1 prog w k.1)).toList=[h1 prog w k.1]:=by rw[hb]; rfl
   first
    | exact wpAny_pure (.inr (.inl ⟨U,fin,U⟩))
    | exact wpAny_bind (wpAny_pure (wpAny_pure (.inr (.inl ⟨U,fin,U⟩))))
  ·cases e
   refine wpAny_bind ((tupleKind (aD prog w)).pyHash (s:={ s with toks:=s.toks+d1 k.1 }) (tupleKind_room_in1 hu) h2 ?_)
   have fin:(bb.push ((tupleKind (aD prog w)).hash k.2)).toList=[h1 prog w k.1,(tupleKind (aD prog w)).hash k.2]:=by rw[Array.toList_push,hb]; rfl
   first
    | exact wpAny_pure (.inr (.inr ⟨U,fin,U⟩))
    | exact wpAny_bind (wpAny_pure (wpAny_pure (.inr (.inr ⟨U,fin,U⟩))))
  ·cases e
 ·rintro bb s' (⟨e,_⟩ | ⟨e,_⟩ | ⟨_,hb,rfl⟩)
  ·cases e
  ·cases e
  show wpAny _ _ (retInt (Builtin.Tuple.tupleHashOf bb.toList)) _ _ _
  rw[hb]
  refine wpAny_ret_mkInt ?_
  obtain⟨z,ez⟩:∃ z,Builtin.Tuple.tupleHashOf [h1 prog w k.1,(tupleKind (aD prog w)).hash k.2]=z:=⟨_,U⟩
  unfold ir reduceHash at h
  rw[ez] at h ⊢
  show wpAny _ _ (if (decide (-(2:Int) ^ 63<=z) && decide (z<2 ^ 63))=true then _ else _) Q E _
  by_cases hr:(decide (-(2:Int) ^ 63<=z) && decide (z<2 ^ 63))=true
  ·rw[if_pos hr]
   rw[if_pos hr] at h
   exact wpAny_pure (by simpa [Nat.add_assoc] using h)
  ·rw[if_neg hr]
   rw[if_neg hr] at h
   exact wpAny_bind (wpAny_rule (wpAny_pure (by simpa [Nat.add_assoc] using h)))
theorem jL {x y:NK}{a b:Addr}{P:Fin->Shared->Prop} (hu:A.units<cLine) (hx:IsNest prog w s.heap x a) (hy:IsNest prog w s.heap y b) (h:P (.done (.ret (.bool (decide (x=y))))) s) :
  wpAny (model prog w) A (Builtin.«tuple.__eq__» ⟨[.ref a,.ref b],[]⟩) P E s:=by
 have hTb:=hy.typeIs
 obtain⟨oa,na,a1,a2,hoa,_,hda,x1,x2⟩:=hx
 obtain⟨ob,nb,b1,b2,hob,_,hdb,y1,y2⟩:=hy
 show wpAny _ _ (isInstance (.ref b) (.type "tuple") >>= _) _ _ s
 refine wpAny_bind (wpAny_isInstance hTb isSubtype_tuple_tuple ?_)
 simp only[Bool.not_true,Bool.false_eq_true,if_false]
 refine wpAny_bind (wpAny_tupleItemsOf hoa hda ?_)
 refine wpAny_bind (wpAny_tupleItemsOf hob hdb ?_)
 refine wpAny_bind ?_
 refine wpAny_forIn_list _
  (fun rest r s'=>r.1=none/\s'=s/\((rest=[(a1,b1),(.ref a2,.ref b2)])∨(rest=[(.ref a2,.ref b2)]/\x.1=y.1)∨(rest=[]/\x=y)))
  _ ?_ ?_ _ _ ⟨U,U,.inl rfl⟩
 ·rintro⟨u,v⟩ rest r s' ⟨hr,rfl,e | ⟨e,e1⟩ | ⟨e,_⟩⟩
  ·cases e
   refine wpAny_bind (eq1 hu x1 y1 ?_)
   by_cases hk:x.1=y.1
   ·rw[decide_eq_true hk]
    simp only[Bool.not_true,Bool.false_eq_true,if_false]
    exact wpAny_pure ⟨U,U,.inr (.inl ⟨trivial,hk⟩)⟩
   ·rw[decide_eq_false hk]
    simp only[Bool.not_false,if_true]
    rw[decide_eq_false (fun z=>hk (by rw[z]))] at h
    exact wpAny_bind (wpAny_pure (wpAny_pure (wpAny_pure h)))
  ·cases e
   refine wpAny_bind ((tupleKind (aD prog w)).eqBool hu x2 y2 ?_)
   by_cases hk:x.2=y.2
   ·rw[decide_eq_true hk]
    simp only[Bool.not_true,Bool.false_eq_true,if_false]
    exact wpAny_pure ⟨U,U,.inr (.inr ⟨trivial,Prod.ext e1 hk⟩)⟩
   ·rw[decide_eq_false hk]
    simp only[Bool.not_false,if_true]
    rw[decide_eq_false (fun z=>hk (by rw[z]))] at h
    exact wpAny_bind (wpAny_pure (wpAny_pure (wpAny_pure h)))
  ·cases e
 ·rintro⟨r1,r2⟩ s' ⟨hr,rfl,e | ⟨e,_⟩ | ⟨_,e⟩⟩
  ·cases e
  ·cases e
  simp only at hr
  subst hr
  refine wpAny_pure ?_
  rw[decide_eq_true e] at h
  exact h
theorem tj {x y:NK}{a b:Addr} (hu:A.units+1<cLine) (hx:IsNest prog w s.heap x a) (hy:IsNest prog w s.heap y b) (h:Q (decide (x=y)) s) :
  wpAny (model prog w) A (eqBool (.ref a) (.ref b)) Q E s:=by
 unfold eqBool
 try with_reducible refine wpAny_holding ?_
 show wpAny _ _ (if (Value.ref a == Value.ref b)=true then _ else _) Q E s
 by_cases hab:(Value.ref a == Value.ref b)=true
 ·rw[if_pos hab]
  have e:a=b:=by have:=eq_of_beq hab; injection this
  subst e
  obtain rfl:=hx.inj hy
  exact wpAny_bind (wpAny_rule (wpAny_pure (by simpa using h)))
 ·rw[if_neg hab]
  exact wpAny_bind (wpAny_richCompare_same_room (op:=.Eq) hx.typeIs hy.typeIs F.slot_tuple_eq
   (wpAny_call_entry F.slot_tuple_eq hx.typeIs F.entry_tuple_eq (jL (show A.in1.units<cLine from hu) hx hy ⟨_,U,(fun e=>nomatch e),wpAny_truthy_bool h⟩) (F.args_tuple_eq_2 _ _)) (by omega))
theorem i4 {ks:List Key}{a:Addr} (hk:(tupleKind (aD prog w)).is s.heap ks a) (h:Q true s):wpAny (model prog w) A (eqIsQuiet 7 (.ref a)) Q E s:=by
 have hT:=IsTupleKey.typeIs hk
 obtain⟨o,items,n,ho,_,hd,hi⟩:=hk
 unfold eqIsQuiet
 refine wpAny_bind (wpAny_specialOf hT F.slot_tuple_eq.lookup ?_)
 show wpAny _ _ (isInstance (.ref a) (.type "tuple") >>= _) _ _ s
 refine wpAny_bind (wpAny_isInstance hT isSubtype_tuple_tuple ?_)
 simp only[Bool.not_true,Bool.false_eq_true,if_false]
 refine wpAny_bind (wpAny_seqItems ho hd ?_)
 refine wpAny_bind ?_
 show wpAny _ _ (forIn items _ _) _ _ s
 rw[<- Array.forIn_toList]
 refine wpAny_forIn_list _ (fun rest r s'=>r.1=none/\s'=s/\∀ v ∈ rest,carriedByValue v=true) _ ?_ ?_ _ _ ⟨U,U,hi.byValue⟩
 ·rintro v rest r s' ⟨hr,rfl,hall⟩
  rw[eqIsQuiet_byValue _ (hall v wJ)]
  refine wpAny_bind (wpAny_pure ?_)
  simp only[Bool.not_true,Bool.false_eq_true,if_false]
  exact wpAny_pure ⟨U,U,fun u hu'=>hall u (wE _ hu')⟩
 ·rintro⟨r1,r2⟩ s' ⟨hr,rfl,_⟩
  simp only at hr
  subst hr
  exact wpAny_pure h
theorem tT {k:Option (List Key)}{v:Value} (hk:V1 prog w s.heap k v) (h:Q true s):wpAny (model prog w) A (eqIsQuiet 7 v) Q E s:=by
 cases k with
 | none=>
  rw[show v=Value.none from hk,eqIsQuiet_byValue 7 (v:=Value.none) rfl]
  exact wpAny_pure h
 | some ks=>
  obtain⟨b,rfl,e⟩:=hk
  exact i4 e h
theorem mW {k:NK}{a:Addr} (hk:IsNest prog w s.heap k a) (h:Q true s):wpAny (model prog w) A (eqIsQuiet 8 (.ref a)) Q E s:=by
 have hT:=hk.typeIs
 obtain⟨o,n,b,c,ho,_,hd,g1,h2⟩:=hk
 unfold eqIsQuiet
 refine wpAny_bind (wpAny_specialOf hT F.slot_tuple_eq.lookup ?_)
 show wpAny _ _ (isInstance (.ref a) (.type "tuple") >>= _) _ _ s
 refine wpAny_bind (wpAny_isInstance hT isSubtype_tuple_tuple ?_)
 simp only[Bool.not_true,Bool.false_eq_true,if_false]
 refine wpAny_bind (wpAny_seqItems ho hd ?_)
 refine wpAny_bind ?_
 show wpAny _ _ (forIn #[b,Value.ref c] _ _) _ _ s
 rw[<- Array.forIn_toList]
 refine wpAny_forIn_list _ (fun rest r s'=>r.1=none/\s'=s/\∀ v ∈ rest,v=b∨v=.ref c) _ ?_ ?_ _ _ ⟨U,U,fun v hv=>by simpa using hv⟩
 ·rintro v rest r s' ⟨hr,rfl,hall⟩
  have nx:∀ v' ∈ rest,v'=b∨v'=Value.ref c:=fun u hu'=>hall u (wE _ hu')
  rcases hall v wJ with rfl | rfl
  ·refine wpAny_bind (tT g1 ?_)
   simp only[Bool.not_true,Bool.false_eq_true,if_false]
   exact wpAny_pure ⟨U,U,nx⟩
  ·refine wpAny_bind (i4 h2 ?_)
   simp only[Bool.not_true,Bool.false_eq_true,if_false]
   exact wpAny_pure ⟨U,U,nx⟩
 ·rintro⟨r1,r2⟩ s' ⟨hr,rfl,_⟩
  simp only at hr
  subst hr
  exact wpAny_pure h
end
def iq (prog:Program) (w:World):HeapKind prog w NK where
 is:=IsNest prog w
 hash:=ir prog w
 draws:=fun k=>d1 k.1+(k.2.length+1)+1
 room:=fun A=>A.units+1<cLine
 inj:=fun hx hy=>hx.inj hy
 keeps:=fun x ho hd hs=>x.keeps ho hd hs
 pyHash:=fun hu hk h=>nV hu hk h
 eqBool:=fun hu hx hy h=>tj hu hx hy h
 quiet:=fun hk h=>mW hk h
abbrev NE:=Addr×NK×Int
def rL (z:NE) (x:NK×Addr×Value):Prop:=x.1=z.2.1/\x.2.1=z.1/\∃ t,x.2.2=Value.int z.2.2 t
def NDict (P:Program) (w:World) (a:Addr) (ks:List NE) (h:Heap):Prop:=(a == sysModules)=false/\∃ xs,Paired rL ks xs /\
 ∃ o es ep,h.get? a=some o/\o.ExactDict/\o.data=.dict es ep/\es.toList=xs.map (entryOfKey (iq P w))/\(xs.map (·.1)).Nodup
variable{ks:List NE}
theorem NDict.ok {P:Program}{w:World}{a:Addr}{h:Heap}{H:Hp} (x:NDict P w a ks h):ObjOk P w H h a (.ext (NDict P w a ks)):=by
 refine⟨x,?_,fun h1 h2 y k=>?_⟩
 ·obtain⟨_,_,_,o,_,_,e,_⟩:=x
  exact⟨o,e⟩
 ·obtain⟨hs,xs,r,o,es,ep,e,q⟩:=y
  exact⟨hs,xs,r,o,es,ep,k o e,q⟩
def N1 (H:Hp):V->Option (List Key)->Prop
 | x,none=>x=.non
 | x,some ks=>∃ c,x=.ref c/\H c=some (.tup (ks.map kV))
def NAt (H:Hp) (b:Addr) (k:NK):Prop:=∃ x d,H b=some (.tup [x,.ref d])/\N1 H x k.1/\H d=some (.tup (k.2.map kV))
theorem gW {P:Program}{w:World}{H:Hp}{h:Heap}{b:Addr}{k:NK} (ok:HOk P w H h) (e:NAt H b k):(iq P w).is h k b:=by
 obtain⟨x,d,e1,e2,e3⟩:=e
 obtain⟨_,its,r,o,h1,h2,n,h3⟩:=(show ObjOk P w H h b (.tup [x,.ref d]) from ok b _ e1)
 cases r with
 | @cons _ u _ _ r1 r=>
  cases r with
  | cons r2 r=>
   cases r
   cases r2
   refine⟨o,n,u,d,h1,h2,h3,?_,dF ok e3⟩
   cases ek:k.1 with
   | none=>
    rw[ek] at e2
    rw[show x=.non from e2] at r1
    exact r1
   | some ks=>
    rw[ek] at e2
    obtain⟨c,rfl,e4⟩:=e2
    exact⟨c,r1,dF ok e4⟩
theorem iu {P:Program}{w:World}{H:Hp}{h:Heap}{a:Addr} (ok:HOk P w H h) (e:H a=some (.ext (NDict P w a ks))) (hk:∀ z ∈ ks,NAt H z.1 z.2.1) :
  (a == sysModules)=false/\∃ xs,Paired rL ks xs/\h.DictOfH (iq P w) a xs:=by
 obtain⟨⟨hs,xs,r,o,es,ep,e1,e2,e3,e4,e5⟩,_,_⟩:=(show ObjOk P w H h a (.ext (NDict P w a ks)) from ok a _ e)
 refine⟨hs,xs,r,o,es,ep,e1,e2,e3,e4,?_,e5⟩
 clear e1 e2 e3 e4 e5 e hs
 rename_i q1 q2
 clear q1 q2
 induction r with
 | nil=>intro x hx; cases hx
 | @cons p q ps qs hq t ih=>
  intro x hx
  rcases wP.mp hx with rfl | hx
  ·obtain⟨f1,f2,_⟩:=hq
   rw[f1,f2]
   exact gW ok (hk p wJ)
  ·exact ih (fun z hz=>hk z (wE _ hz)) x hx
theorem jk {k:NK}{xs:List (NK×Addr×Value)} (r:Paired rL ks xs) (h:∀ z ∈ ks,z.2.1≠k):atKey xs k=none:=by
 induction r with
 | nil=>rfl
 | @cons p q ps qs hq t ih=>
  have e:¬ q.1=k:=by rw[hq.1]; exact h p wJ
  have b:atKey (q::qs) k=atKey qs k:=by simp[atKey,xf,e]
  rw[b]; exact ih fun z hz=>h z (wE _ hz)
theorem jj {z:NE}{xs:List (NK×Addr×Value)} (r:Paired rL ks xs) (h:z ∈ ks) (nd:(xs.map (·.1)).Nodup):∃ p t,atKey xs z.2.1=some p/\p.2=Value.int z.2.2 t:=by
 induction r with
 | nil=>cases h
 | @cons p q ps qs hq t ih=>
  obtain⟨f1,f2,t0,f3⟩:=hq
  rw[wN,List.nodup_cons] at nd
  by_cases e:q.1=z.2.1
  ·rcases wP.mp h with rfl | hz
   ·exact⟨q.2,t0,by simp[atKey,xf,e],f3⟩
   ·exfalso
    obtain⟨p2,t2,g1,g2⟩:=ih hz nd.2
    rw[<- e] at g1
    unfold atKey at g1
    cases hf:qs.find? (fun x=>decide (x.1=q.1)) with
    | none=>rw[hf] at g1; cases g1
    | some x=>
     have:=List.find?_some hf
     exact nd.1 (wX.mpr ⟨x,List.mem_of_find?_eq_some hf,by simpa using this⟩)
  ·have hz:z ∈ ps:=by
    rcases wP.mp h with rfl | hz
    ·exact absurd f1 e
    ·exact hz
   obtain⟨p2,t2,g1,g2⟩:=ih hz nd.2
   exact⟨p2,t2,by rw[<- g1]; simp[atKey,xf,e],g2⟩
section
variable {X:Cx}{o i e value:Expr}{pos pos' tpos:Pos}{td ty tv:TE}
def tI (P:Program) (w:World):TE:=fun _ H Q=>∀ p,H p=none->Q (.ref p) (upd H p (.ext (NDict P w p [])))
theorem pc {P:Program}{w:World} (hP:X.prog=P) (hw:X.w=w):PE X (.Dict [] [] pos) (tI P w):=fun pins s σ H Q I h=>by
 subst hP hw
 exact wpAny_Dict_empty ⟨.ref s.heap.objs.size,_,I.laid (a:=s.heap.objs.size) (t':=s.toks) (fun _ _ q=>Heap.get?_push_of_some _ q) (Nat.le_refl _)
  (NDict.ok ⟨beq_eq_false_iff_ne.mpr (Ne.symm (Nat.ne_of_lt I.big)),[],.nil,_,#[],0,Heap.get?_push_size _ rfl,⟨U,U,U⟩,U,U,List.nodup_nil⟩),U,h _ (I.hok.fresh (Nat.le_refl _))⟩
def tK (P:Program) (w:World) (td ty:TE):TE:=fun σ H Q=>td σ H fun x H1=>ty σ H1 fun y H2=>∃ a ks z b,x=.ref a/\y=.ref b/\H2 a=some (.ext (NDict P w a ks))/\(∀ z ∈ ks,NAt H2 z.1 z.2.1)/\z ∈ ks/\NAt H2 b z.2.1/\Q (.int z.2.2) H2
theorem kn {P:Program}{w:World} (hP:X.prog=P) (hw:X.w=w) (hu:X.A.units+64<cLine) (ho:PE X o td) (hi:PE X i ty) (hs:ve i):PE X (.Subscript o i pos) (tK P w td ty):=by
 subst hP hw
 intro pins s σ H Q I h
 refine lG PySem.F.slot_dict_getitem.lookup hs (thn (ho pins s σ H _ I h) fun u s1 ⟨x,H1,I1,rx,q1⟩=>thn (hi pins s1 σ H1 _ I1 q1) fun iv s2 ⟨y,H2,I2,ry,a,ks,z,b,ex,ey,ea,hk,hz,hb,q2⟩=>?_)
 subst ex ey
 obtain rfl:u=Value.ref a:=rx
 obtain rfl:iv=Value.ref b:=ry
 obtain⟨hd,xs,rel,dd⟩:=iu I2.hok ea hk
 have nd:=let ⟨_,_,_,_,_,_,_,_,n⟩:=dd; n
 obtain⟨p,t,g1,g2⟩:=jj rel hz nd
 refine⟨dd.typeIs,wpAny_getItem_heap (show X.A.in1.units+1<cLine from(show X.A.units+1+1<cLine by omega)) (gW I2.hok hb) dd g1 ?_⟩
 rw[g2]
 exact⟨.int z.2.2,H2,I2.tok _,⟨t,U⟩,q2⟩
def tDInN (P:Program) (w:World) (ty td:TE):TE:=fun σ H Q=>ty σ H fun y H1=>td σ H1 fun x H2=>∃ a ks k b,x=.ref a/\y=.ref b/\H2 a=some (.ext (NDict P w a ks))/\(∀ z ∈ ks,NAt H2 z.1 z.2.1)/\NAt H2 b k/\Q (.bl (ks.any fun z=>decide (z.2.1=k))) H2
theorem qQ {P:Program}{w:World} (hP:X.prog=P) (hw:X.w=w) (hu:X.A.units+64<cLine) (hi:PE X i ty) (ho:PE X o td):PC X .In i o (tDInN P w ty td):=by
 subst hP hw
 intro pins s σ H Q I h
 refine thn (hi pins s σ H _ I h) fun iv s1 ⟨y,H1,I1,ry,q1⟩=>thn (ho pins s1 σ H1 _ I1 q1) fun u s2 ⟨x,H2,I2,rx,a,ks,k,b,ex,ey,ea,hk,hb,q2⟩=>?_
 subst ex ey
 obtain rfl:u=Value.ref a:=rx
 obtain rfl:iv=Value.ref b:=ry
 obtain⟨hd,xs,rel,dd⟩:=iu I2.hok ea hk
 have nd:=let ⟨_,_,_,_,_,_,_,_,n⟩:=dd; n
 refine wpAny_in_heap (show X.A.in1.units+1<cLine from(show X.A.units+1+1<cLine by omega)) (gW I2.hok hb) hd dd ?_
 have e:(atKey xs k).isSome=ks.any fun z=>decide (z.2.1=k):=by
  by_cases c:∃ z ∈ ks,z.2.1=k
  ·obtain⟨z,hz,rfl⟩:=c
   obtain⟨p,t,g1,_⟩:=jj rel hz nd
   rw[g1]
   exact(List.any_eq_true.mpr ⟨z,hz,decide_eq_true rfl⟩).symm
  ·rw[jk rel fun z hz e=>c ⟨z,hz,e⟩]
   refine(List.any_eq_false.mpr fun z hz=>?_).symm
   rw[decide_eq_true_eq]
   exact fun e=>c ⟨z,hz,e⟩
 rw[e]
 exact⟨.bl _,H2,I2.tok _,U,q2⟩
def tQ (P:Program) (w:World) (td ty tv:TE):TS:=fun D σ H=>tv σ H fun v H1=>td σ H1 fun x H2=>ty σ H2 fun y H3=>∃ a ks k b n,v=.int n/\x=.ref a/\y=.ref b/\H3 a=some (.ext (NDict P w a ks))/\(∀ z ∈ ks,NAt H3 z.1 z.2.1)/\NAt H3 b k/\(∀ z ∈ ks,z.2.1≠k)/\ks.length<=sizeLine/\D.nx σ (upd H3 a (.ext (NDict P w a (ks++[(b,k,n)]))))
theorem oY {P:Program}{w:World} (hP:X.prog=P) (hw:X.w=w) (hu:X.A.units+64<cLine) (ho:PE X o td) (hi:PE X i ty) (hv:PE X value tv) (hs:swapsWith value (some (.Subscript o i pos')) pos.line X.env=pure false) :
  PS X (.Assign [.Subscript o i pos'] value pos) (tQ P w td ty tv):=by
 subst hP hw
 intro pins s σ H D I h
 refine wpAny_Assign_Subscript (thn (hv pins s σ H _ I h) fun r s1 ⟨v,H1,I1,rv,q1⟩=>thn (ho pins s1 σ H1 _ I1 q1) fun u s2 ⟨x,H2,I2,rx,q2⟩=>thn (hi pins s2 σ H2 _ I2 q2) fun iv s3 ⟨y,H3,I3,ry,a,ks,k,b,n,ev,ex,ey,ea,hk,hb,hn,hl,q3⟩=>?_) hs
 subst ev ex ey
 obtain rfl:u=Value.ref a:=rx
 obtain rfl:iv=Value.ref b:=ry
 obtain⟨t,rfl⟩:∃ t,r=Value.int n t:=rv
 obtain⟨hd,xs,rel,dd⟩:=iu I3.hok ea hk
 refine wpAny_setItem_heap (hsz:=by rw[<- Paired.length rel]; exact hl) (show X.A.in1.units+1<cLine from(show X.A.units+1+1<cLine by omega)) (gW I3.hok hb) dd fun h' dd' hs=>?_
 rw[storedH_new (jk rel hn)] at dd'
 obtain⟨q,es,ep,hq,h2,h3,h4,_,h5⟩:=dd'
 exact⟨σ,_,dB I3 (by rw[ea]; exact True.intro) hs ⟨q,hq⟩ (NDict.ok ⟨hd,_,Paired.snoc rel ⟨rfl,rfl,t,rfl⟩,q,es,ep,hq,h2,h3,h4,h5⟩),q3⟩
end
end L2
set_option Elab.async false
set_option linter.all false
set_option maxRecDepth 100000
set_option maxHeartbeats 4000000
namespace P
open PySem L2
structure Lk (s1 s2:Sd):Prop where
 s:s1.ss=s2.ss
 a:s1.at_.map (·.2)=s2.at_.map (·.2)
theorem je {α β:Type}{f:α->β}{x y:Option α} (h:x.map f=y.map f):(x=none/\y=none)∨∃ u v,x=some u/\y=some v/\f u=f v:=by
 cases x with
 | none=>cases y with
  | none=>exact .inl ⟨U,U⟩
  | some v=>cases h
 | some u=>cases y with
  | none=>cases h
  | some v=>exact .inr ⟨u,v,U,U,Option.some.inj h⟩
variable{w:Wd}{s:Sd}
theorem ip (h:s.at_=none):w.nx s=none:=by unfold Wd.nx; simp only[h]
theorem pO {w:Wd}{s1 s2:Sd} (S:Lk s1 s2):(w.nx s1=none/\w.nx s2=none)∨∃ t1 t2,w.nx s1=some t1/\w.nx s2=some t2/\Lk t1 t2:=by
 rcases je S.a with ⟨h1,h2⟩ | ⟨z1,z2,h1,h2,e⟩
 ·exact .inl ⟨ip h1,ip h2⟩
 ·have sv:w.sv s1 z1.2.1=w.sv s2 z2.2.1:=by unfold Wd.sv; rw[S.s,e]
  cases hk:w.kf z2.2.1 with
  | none=>
   left
   refine⟨?_,?_⟩
   ·unfold Wd.nx; simp only[h1]; rw[e,hk]
   ·unfold Wd.nx; simp only[h2]; rw[hk]
  | some k=>
   have hk1:w.kf z1.2.1=some k:=by rw[e,hk]
   cases ho:k.out z2.2.2 (w.sv s2 z2.2.1) with
   | int o=>
    have ho1:k.out z1.2.2 (w.sv s1 z1.2.1)=.int o:=by rw[sv,e]; exact ho
    cases hm:w.mf z2.2.1 o with
    | none=>
     have hm1:w.mf z1.2.1 o=none:=by rw[e]; exact hm
     left
     refine⟨?_,?_⟩
     ·unfold Wd.nx; simp only[h1,hk1,ho1,hm1,Option.map_none]
     ·unfold Wd.nx; simp only[h2,hk,ho,hm,Option.map_none]
    | some u=>
     have hm1:w.mf z1.2.1 o=some u:=by rw[e]; exact hm
     right
     refine⟨_,_,io h1 hk1 ho1 hm1,io h2 hk ho hm,?_,?_⟩
     ·unfold bd; dsimp only; rw[S.s,sv,e]
     ·rw[dL,dL]
   | _=>
    left
    have ho1:=ho
    rw[<- sv,<- e] at ho1
    refine⟨?_,?_⟩
    ·unfold Wd.nx; simp only[h1,hk1,ho1]
    ·unfold Wd.nx; simp only[h2,hk,ho]
theorem cq (w:Wd):∀ (a b:Nat) (s:Sd),w.go (a+b) s=w.go b (w.go a s)/\(w.hist (a+b) s).length=(w.hist a s).length+(w.hist b (w.go a s)).length
 | 0,b,s=>by rw[Nat.zero_add]; exact⟨U,(Nat.zero_add _).symm⟩
 | a+1,b,s=>by
  rw[show a+1+b=(a+b)+1 by omega]
  cases h:w.nx s with
  | none=>rw[bV w h,bV w h,bV w h,bG w h,bG w h,bG w h]; exact⟨U,U⟩
  | some s'=>
   rw[bD w h,bD w h,bg w h,bg w h]
   have:=cq w a b s'
   exact⟨this.1,by rw[wQ,wQ,this.2]; omega⟩
theorem dk (w:Wd):∀ (n:Nat) (s:Sd),(w.go n s).rg.length<=s.rg.length+n
 | 0,s=>Nat.le_refl _
 | n+1,s=>by
  cases h:w.nx s with
  | none=>rw[bV w h]; omega
  | some s'=>
   rw[bD w h]
   have h1:=dk w n s'
   obtain⟨z,k,o,z',_,_,_,_,rfl⟩:=c7 h
   have h2:=eK (w:=w) (s:=s) (z:=z) (k:=k) (z':=z')
   omega
def EndsAt (w:Wd) (s:Sd) (D:Nat):Prop:=(w.hist D s).length=D/\w.nx (w.go D s)=none
theorem dl {w:Wd}:∀ (n:Nat) (s:Sd),s.at_≠none->(w.go n s).at_≠none
 | 0,s,h=>h
 | n+1,s,h=>by
  cases hx:w.nx s with
  | none=>rw[bV w hx]; exact h
  | some s'=>
   rw[bD w hx]
   refine dl n s' ?_
   obtain⟨z,k,o,z',_,_,_,_,rfl⟩:=c7 hx
   rw[dL]; exact fun e=>nomatch e
theorem Pool.go' {L:Kn}:∀ (n:Nat) {s:Sd},Pool w s L->Pool w (w.go n s) L
 | 0,_,p=>p
 | n+1,s,p=>by
  cases h:w.nx s with
  | none=>rw[bV w h]; exact p
  | some s'=>rw[bD w h]; exact Pool.go' n (p.step h)
inductive sp_alike (C:Addr) (vs:List V) (H:Hp) (Q:VK) (E_:XK):Prop
 | mk (A1 A2:YA) (y1 y2:YR) (M1 L:Kn) (z1 z2:En) (ss1 ss2:List Int) (_:vs=[.ref A1.p,.ref A2.p]) (_:Has H (yL C A1 y1++(M1++(yL C A2 y2++L)))) (_:y1.eng=.ref z1.1) (_:y2.eng=.ref z2.1) (_:(z1.1,HO.tup [.int z1.2.1,.int z1.2.2]) ∈ L) (_:(z2.1,HO.tup [.int z2.2.1,.int z2.2.2]) ∈ L) (_:y1.sides=ss1.map V.int) (_:y2.sides=ss2.map V.int) (_:Q (.bl (decide (z1.2=z2.2) && decide (ss1=ss2))) H):sp_alike C vs H Q E_
section
variable {P:Program}{w:World}{K:PySem.W.Frag}{mg:Str->Option Value}{base:Heap}{t:Adr}
theorem scAk:FnScope ["one","other"] ["one","other"] (aj lP):={}
theorem ij (T:Txt K mg t):FnOk P w K mg base CX0 2 t.f_alike t.d_alike ["one","other"] (sp_alike t.c_Yard):=by
 refine T.F_alike.ok scAk (fun vs H Q E h=>?_) (fun cdv A outer s H vs Q E hr h=>?_)
 ·obtain⟨_,_,_,_,_,_,_,_,_,_,rfl,_⟩:=h
  rfl
 ·obtain⟨A1,A2,y1,y2,M1,L,z1,z2,ss1,ss2,rfl,hH,e1,e2,m1,m2,s1,s2,q⟩:=h
  refine⟨_,(ag (ap (fA (bC (jH hr.units) (aO (pv 0) T.cl_Yard T.M_Ja (ma T) hr (rE T) .nil aM) (aO (pv 1) T.cl_Yard T.M_Ja (ma T) hr (rE T) .nil aM) (am _)) (fz (bC (tZ hr.units) (aw (pv 0) rfl) (aw (pv 1) rfl) (am _)))))),?_⟩
  have inL:∀ {x:Addr×HO},x ∈ L->H x.1=some x.2:=fun {x} hx=>hH.at_ x (wD _ (wD _ (wD _ hx)))
  have h2:Has H (yL t.c_Yard A2 y2++((yL t.c_Yard A1 y1++M1)++L)):=by
   refine Has.comm (X:=yL t.c_Yard A1 y1++M1) (Y:=yL t.c_Yard A2 y2) (R:=L) ?_
   rw[wG]; exact hH
  refine⟨_,U,A1.p,A1.dx,_,U,hH.get 1 U,(dm _ _ _).2.2.2.2.2.2.1,A1,y1,_,U,hH,?_⟩
  refine⟨_,U,A2.p,A2.dx,_,U,h2.get 1 U,(dm _ _ _).2.2.2.2.2.2.1,A2,y2,_,U,h2,?_⟩
  refine⟨z1.1,z2.1,[z1.2.1,z1.2.2],[z2.2.1,z2.2.2],e1,e2,inL m1,inL m2,_,U,?_⟩
  have ez:(if false=true then !decide ([z1.2.1,z1.2.2]=[z2.2.1,z2.2.2]) else decide ([z1.2.1,z1.2.2]=[z2.2.1,z2.2.2]))=decide (z1.2=z2.2):=by
   rw[if_neg Bool.false_ne_true]
   by_cases c:z1.2=z2.2
   ·rw[c]; simp
   ·rw[decide_eq_false c,decide_eq_false (fun h=>c (by injection h with a b; injection b with b _; exact Prod.ext a b))]
  rw[ez]
  refine if2 (fun c=>?_) (fun c=>?_)
  ·rw[c] at q
   refine⟨_,U,A1.p,_,A1.dx,_,_,U,hH.get 1 U,T.cl_Yard,T.n_Yard_sides,bX _ _ _,?_⟩
   refine⟨_,U,A2.p,_,A2.dx,_,_,U,h2.get 1 U,T.cl_Yard,T.n_Yard_sides,bX _ _ _,?_⟩
   refine⟨A1.s,A2.s,ss1,ss2,U,U,?_,?_,?_⟩
   ·rw[<- s1]; exact SqL.of (hH.get 6 U)
   ·rw[<- s2]; exact SqL.of (h2.get 6 U)
   ·rw[if_neg Bool.false_ne_true]; simpa using q
  ·rw[c] at q
   exact q
end
theorem Rep.twin {W:Wd}{y:YR} (R:Rep W s y):Rep W s { y with trail:=[] }:=⟨R.kd,R.no,R.ro,R.rr,R.sd,R.s12,R.mt,R.mo,R.en,R.eo,R.rg⟩
theorem kQ {W:Wd}{s s':Sd} (h:W.nx s=some s'):W.why s=.non:=by
 obtain⟨z,k,o,z',hz,hk,ho,hm,_⟩:=c7 h
 exact gZ hz hk ho hm
structure Cyc (w:Wd) (s:Sd) (mu lam:Nat):Prop where
 l0:0<lam
 on:∀ n,(w.hist n s).length=n
 lk:∀ i j,i<j->(Lk (w.go i s) (w.go j s)↔mu<=i/\lam ∣ (j - i))
theorem Cyc.one {mu lam:Nat} (C:Cyc w s mu lam) (i k:Nat):(w.hist k (w.go i s)).length=k:=by
 have:=(cq w i k s).2
 rw[C.on,C.on] at this
 omega
theorem Cyc.nx {mu lam:Nat} (C:Cyc w s mu lam) (i:Nat):∃ s',w.nx (w.go i s)=some s':=by
 cases h:w.nx (w.go i s) with
 | none=>have:=C.one i 1; rw[bG w h] at this; cases this
 | some s'=>exact⟨s',U⟩
theorem Cyc.eq {mu lam:Nat} (C:Cyc w s mu lam) {i j:Nat} (h:i<j) {z1 z2:En} (h1:(w.go i s).at_=some z1) (h2:(w.go j s).at_=some z2) :
  (decide (z1.2=z2.2) && decide ((w.go i s).ss=(w.go j s).ss))=decide (mu<=i/\lam ∣ (j - i)):=by
 have e:(z1.2=z2.2/\(w.go i s).ss=(w.go j s).ss)↔Lk (w.go i s) (w.go j s):=by
  constructor
  ·rintro⟨a,b⟩; exact⟨b,by rw[h1,h2]; exact congrArg some a⟩
  ·rintro⟨b,a⟩; rw[h1,h2] at a; exact⟨Option.some.inj a,b⟩
 rw[<- Bool.decide_and]
 exact decide_eq_decide.mpr (e.trans (C.lk i j h))
def ft (mu lam n:Nat):List V:=if mu+lam<=n then [.str "round",.int mu,.int lam] else [.str "open",.int n]
inductive sp_on_round (C:Addr) (vs:List V) (H:Hp) (Q:VK) (E_:XK):Prop
 | mk (A A2:YA) (y y2:YR) (M L:Kn) (ts2:List (Addr×Sd)) (W:Wd) (s:Sd) (i lim mu lam:Nat) (_:vs=[.ref A.p,.ref A2.p,.int lim]) (_:Has H (yL C A2 y2++(trK W ts2++(M++(yL C A y++L))))) (_:Rep W s y) (_:Rep W (W.go i s) y2) (_:y2.trail=trV ts2) (_:ts2.length<=200000) (_:Pool W s L) (_:EK y.mates) (_:Cyc W s mu lam) (_:lam ∣ i) (_:mu<=i) (_:1<=i) (_:i<=200000) (_:mu<=10000) (_:lam<=10000) (_:s.rg.length<=100000) (_:s.at_≠none) (_:∀ H' p,Has H' ((p,.tup (ft mu lam lim))::(yL C A y++L))->Q (.ref p) H'):sp_on_round C vs H Q E_
inductive orInv (C:Addr) (A A2 F:YA) (y:YR) (M L:Kn) (W:Wd) (s:Sd) (i lim mu:Nat) (r:Nat) (σ:St) (H:Hp):Prop
 | mk (b:Nat) (yf y2:YR) (tf t2:List (Addr×Sd)) (o1:Option V) (_:r=mu - b) (_:b<=mu) (_:σ=[some (.ref A.p),some (.ref A2.p),some (.int lim),some (.ref F.p),some (.int b),o1]) (_:Has H (yL C F yf++(trK W tf++(yL C A2 y2++(trK W t2++(M++(yL C A y++L))))))) (_:Rep W (W.go b s) yf) (_:Rep W (W.go (i+b) s) y2) (_:yf.trail=trV tf) (_:y2.trail=trV t2) (_:tf.length<=b) (_:t2.length<=200000+b):orInv C A A2 F y M L W s i lim mu r σ H
def pf (C:Addr) (A A2 F:YA) (y:YR) (M L:Kn) (W:Wd) (s:Sd) (i lim mu lam:Nat) (r:Nat) (σ:St) (H:Hp):Prop :=
 ∃ (l:Nat) (yf y2:YR) (tf t2:List (Addr×Sd)),r=lam - l/\1<=l/\l<=lam/\σ=[some (.ref A.p),some (.ref A2.p),some (.int lim),some (.ref F.p),some (.int mu),some (.int l)] /\
  Has H (yL C F yf++(trK W tf++(yL C A2 y2++(trK W t2++(M++(yL C A y++L))))))/\Rep W (W.go mu s) yf/\Rep W (W.go (i+mu+l) s) y2/\y2.trail=trV t2/\t2.length<=210000+l
section
variable {P:Program}{w:World}{K:PySem.W.Frag}{mg:Str->Option Value}{base:Heap}{t:Adr}
theorem scOr:FnScope ["yard","ahead","limit","first","begin","length"] ["yard","ahead","limit"] (aj vY):={}
theorem ok_J8 (T:Txt K mg t):FnOk P w K mg base CX0 7 t.f_J8 t.d_J8 ["yard","ahead","limit"] (sp_on_round t.c_Yard):=by
 refine T.F_J8.ok scOr (fun vs H Q E h=>?_) (fun cdv A outer s H vs Q E hr h=>?_)
 ·obtain⟨_,_,_,_,_,_,_,_,_,_,_,_,_,rfl,_⟩:=h
  rfl
 ·obtain⟨A,A2,y,y2,M,L,ts2,W,s0,i,lim,mu,lam,rfl,hH,R,R2,t2e,t2l,PL,ek,Cy,di,mi,i1,ib,mb,lb,rb,at0,q⟩:=h
  refine⟨_,(ae (ax (i:=3) scOr.nd rfl (Or.inl rfl) (pcl (gU T) hr T.m_twin T.F_twin.kp (jY T) (aa (pv 0) af)))
   (ae (ax (i:=4) scOr.nd rfl (Or.inl rfl) ai)
   (ae (cV PassesOwn.never (bZ (bj (pcl (ij T) hr T.m_alike T.F_alike.kp (j0 T) (aa (pv 3) (aa (pv 1) af)))))
    (ae (hV (i:=4) scOr.nd rfl (Or.inl rfl) (pcl (fC T) hr T.m_run T.F_run.kp (iS T) (aa (pv 3) (aa ai af))) iD)
     (ag (av (pcl (fC T) hr T.m_run T.F_run.kp (iS T) (aa (pv 1) (aa ai af)))))))
   (ae (ax (i:=5) scOr.nd rfl (Or.inl rfl) (pcl (fC T) hr T.m_run T.F_run.kp (iS T) (aa (pv 1) (aa ai af))))
   (ae (cV PassesOwn.never (bZ (bj (pcl (ij T) hr T.m_alike T.F_alike.kp (j0 T) (aa (pv 3) (aa (pv 1) af)))))
    (ag (hV (i:=5) scOr.nd rfl (Or.inl rfl) (pcl (fC T) hr T.m_run T.F_run.kp (iS T) (aa (pv 1) (aa ai af))) iD)))
   (ae (au (ak fO (aC ba (pv 4) (pv 5)) (pv 2) (am _))
    (ag (ap (aF (aa ah (aa (pv 2) af)))))
    al)
   (ag (ap (aF (aa ah (aa (pv 4) (aa (pv 5) af)))))))))))),?_⟩
  have h1:Has H (yL t.c_Yard A y++((yL t.c_Yard A2 y2++(trK W ts2++M))++L)):=by
   refine Has.comm (X:=yL t.c_Yard A2 y2++(trK W ts2++M)) (Y:=yL t.c_Yard A y) (R:=L) ?_
   rw[wG,wG]; exact hH
  refine⟨_,U,A,y,_,U,h1,ek,fun H1 F h2=>?_⟩
  have h3:Has H1 (yL t.c_Yard F { y with trail:=[] }++(trK W []++(yL t.c_Yard A2 y2++(trK W ts2++(M++(yL t.c_Yard A y++L)))))):=by
   refine Has.perm h2 (List.Perm.append_left _ ?_)
   refine(List.perm_append_comm_assoc _ _ _).trans ?_
   rw[wG,wG]
   exact .refl _
  clear h2 h1 hH
  dsimp only[jx,tN,tC,kD,List.set]
  refine⟨orInv t.c_Yard A A2 F y M L W s0 i lim mu,⟨_,0,_,_,[],ts2,_,U,Nat.zero_le _,U,h3,R.twin,R2,U,t2e,Nat.zero_le _,t2l⟩,?_⟩
  clear h3 R2 t2e t2l
  rintro r σ H2 ⟨b,yf,y2,tf,t2,o1,rfl,bm,rfl,h2,Rf,R2,tfe,t2e,tfl,t2l⟩
  have a1:=dl (w:=W) (b) s0 at0
  have a2:=dl (w:=W) ((i+b)) s0 at0
  obtain⟨z1,hz1⟩:=Option.ne_none_iff_exists'.mp a1
  obtain⟨z2,hz2⟩:=Option.ne_none_iff_exists'.mp a2
  obtain⟨j1,g1⟩:=(PL.go' (b)).e z1 hz1
  obtain⟨j2,g2⟩:=(PL.go' ((i+b))).e z2 hz2
  have ce:=Cy.eq (show b<(i+b) by omega) hz1 hz2
  have ce':(decide (z1.2=z2.2) && decide ((W.go b s0).ss=(W.go (i+b) s0).ss))=decide (mu<=b):=by
   rw[ce,show i+b - b=i by omega]
   exact decide_eq_decide.mpr ⟨fun h=>h.1,fun h=>⟨h,di⟩⟩
  refine⟨_,U,_,U,F,A2,yf,y2,_,_,z1,z2,(W.go b s0).ss,(W.go (i+b) s0).ss,U,h2,(by rw[Rf.en,hz1]; rfl),(by rw[R2.en,hz2]; rfl),wD _ (wD _ (wD _ (wI g1))),wD _ (wD _ (wD _ (wI g2))),Rf.sd,R2.sd,_,U,?_⟩
  rw[ce']
  clear ce ce' z1 z2 hz1 hz2 g1 g2 a1 a2
  have rf:=dk W b s0
  have r2:=dk W (i+b) s0
  have rfl':yf.rung.length<=400000:=by rw[Rf.rg,wF]; omega
  have r2l:y2.rung.length<=400000:=by rw[R2.rg,wF]; omega
  refine re (fun hc=>?_) (fun hc=>?_)
  ·refine⟨fun σ' H'=>∃ r',r'<mu - b/\orInv t.c_Yard A A2 F y M L W s0 i lim mu r' σ' H',fun _ _ h=>h,?_⟩
   refine⟨_,U,_,U,F,yf,_,W,W.go b s0,tf,1,U,h2,Rf,(((PL.go' _).app _).app _).app _ |>.app _,tfe,by omega,by omega,by omega,by omega,fun H3 yf2 tf2 h3 R3 t3 m3 _ _ _ _ _ _=>?_⟩
   have l3:tf2.length=1:=by have:=congrArg List.length m3; rw[wF] at this; rw[this]; exact Cy.one b 1
   have R3':Rep W (W.go (b+1) s0) yf2:=by rw[(cq W b 1 s0).1]; exact R3
   refine⟨_,_,U,U,?_⟩
   have h4:Has H3 (yL t.c_Yard A2 y2++(trK W t2++((yL t.c_Yard F yf2++trK W (tf++tf2))++(M++(yL t.c_Yard A y++L))))):=by
    have:=Has.comm (X:=yL t.c_Yard F yf2++trK W (tf++tf2)) (Y:=yL t.c_Yard A2 y2++trK W t2) (R:=M++(yL t.c_Yard A y++L)) (by rw[wG,wG]; exact h3)
    rw[wG] at this
    exact this
   clear h3 h2
   dsimp only[List.set]
   refine⟨_,U,A2,y2,_,W,W.go (i+b) s0,t2,1,U,h4,R2,(((PL.go' _).app _).app _).app _,t2e,by omega,by omega,by omega,by omega,fun H5 y22 t22 h5 R5 t5 m5 _ _ _ _ _ _=>?_⟩
   have l5:t22.length=1:=by have:=congrArg List.length m5; rw[wF] at this; rw[this]; exact Cy.one (i+b) 1
   have R5':Rep W (W.go (i+(b+1)) s0) y22:=by rw[show i+(b+1)=i+b+1 by omega,(cq W (i+b) 1 s0).1]; exact R5
   have h6:Has H5 (yL t.c_Yard F yf2++(trK W (tf++tf2)++(yL t.c_Yard A2 y22++(trK W (t2++t22)++(M++(yL t.c_Yard A y++L)))))):=by
    have:=Has.comm (X:=yL t.c_Yard A2 y22++trK W (t2++t22)) (Y:=yL t.c_Yard F yf2++trK W (tf++tf2)) (R:=M++(yL t.c_Yard A y++L)) (by rw[wG]; exact h5)
    rw[wG,wG] at this
    exact this
   refine⟨mu - (b+1),by omega,b+1,yf2,y22,tf++tf2,t2++t22,o1,U,by omega,?_,h6,R3',R5',t3,t5,by rw[wK]; omega,by rw[wK]; omega⟩
   rw[l3]
   rfl
  ·have eb:b=mu:=by omega
   subst eb
   have h4:Has H2 (yL t.c_Yard A2 y2++(trK W t2++((yL t.c_Yard F yf++trK W tf)++(M++(yL t.c_Yard A y++L))))):=by
    have:=Has.comm (X:=yL t.c_Yard F yf++trK W tf) (Y:=yL t.c_Yard A2 y2++trK W t2) (R:=M++(yL t.c_Yard A y++L)) (by rw[wG,wG]; exact h2)
    rw[wG] at this
    exact this
   clear h2
   refine⟨_,U,A2,y2,_,W,W.go (i+b) s0,t2,1,U,h4,R2,(((PL.go' _).app _).app _).app _,t2e,by omega,by omega,by omega,by omega,fun H5 y22 t22 h5 R5 t5 m5 _ _ _ _ _ _=>?_⟩
   have l5:t22.length=1:=by have:=congrArg List.length m5; rw[wF] at this; rw[this]; exact Cy.one (i+b) 1
   have R5':Rep W (W.go (i+b+1) s0) y22:=by rw[(cq W (i+b) 1 s0).1]; exact R5
   have h6:Has H5 (yL t.c_Yard F yf++(trK W tf++(yL t.c_Yard A2 y22++(trK W (t2++t22)++(M++(yL t.c_Yard A y++L)))))):=by
    have:=Has.comm (X:=yL t.c_Yard A2 y22++trK W (t2++t22)) (Y:=yL t.c_Yard F yf++trK W tf) (R:=M++(yL t.c_Yard A y++L)) (by rw[wG]; exact h5)
    rw[wG,wG] at this
    exact this
   rw[l5]
   clear h4 h5 R2 t2e r2 r2l
   have lam0:=Cy.l0
   dsimp only[List.set]
   refine⟨pf t.c_Yard A A2 F y M L W s0 i lim b lam,⟨_,1,yf,y22,tf,t2++t22,U,Nat.le_refl _,by omega,U,h6,Rf,R5',t5,by rw[wK]; omega⟩,?_⟩
   clear h6 R5 R5' t5 m5 l5 t2l
   rintro r σ H6 ⟨l,yf,y2,tf,t2,rfl,l1,ll,rfl,h2,Rf,R2,t2e,t2l⟩
   have a1:=dl (w:=W) (b) s0 at0
   have a2:=dl (w:=W) ((i+b+l)) s0 at0
   obtain⟨z1,hz1⟩:=Option.ne_none_iff_exists'.mp a1
   obtain⟨z2,hz2⟩:=Option.ne_none_iff_exists'.mp a2
   obtain⟨j1,g1⟩:=(PL.go' (b)).e z1 hz1
   obtain⟨j2,g2⟩:=(PL.go' ((i+b+l))).e z2 hz2
   have ce:=Cy.eq (show b<(i+b+l) by omega) hz1 hz2
   have ce':(decide (z1.2=z2.2) && decide ((W.go b s0).ss=(W.go (i+b+l) s0).ss))=decide (l=lam):=by
    rw[ce,show i+b+l - b=i+l by omega]
    refine decide_eq_decide.mpr ⟨fun h=>?_,fun h=>⟨Nat.le_refl _,by rw[h]; exact Nat.dvd_add di (Nat.dvd_refl _)⟩⟩
    have:=(Nat.dvd_add_right di).mp h.2
    have:=Nat.le_of_dvd (by omega) this
    omega
   refine⟨_,U,_,U,F,A2,yf,y2,_,_,z1,z2,(W.go b s0).ss,(W.go (i+b+l) s0).ss,U,h2,(by rw[Rf.en,hz1]; rfl),(by rw[R2.en,hz2]; rfl),wD _ (wD _ (wD _ (wI g1))),wD _ (wD _ (wD _ (wI g2))),Rf.sd,R2.sd,_,U,?_⟩
   rw[ce']
   clear ce ce' z1 z2 hz1 hz2 g1 g2 a1 a2
   have r2:=dk W (i+b+l) s0
   have r2l:y2.rung.length<=400000:=by rw[R2.rg,wF]; omega
   refine re (fun hc=>?_) (fun hc=>?_)
   ·refine⟨fun σ' H'=>∃ r',r'<lam - l/\pf t.c_Yard A A2 F y M L W s0 i lim b lam r' σ' H',fun _ _ h=>h,?_⟩
    have h4:Has H6 (yL t.c_Yard A2 y2++(trK W t2++((yL t.c_Yard F yf++trK W tf)++(M++(yL t.c_Yard A y++L))))):=by
     have:=Has.comm (X:=yL t.c_Yard F yf++trK W tf) (Y:=yL t.c_Yard A2 y2++trK W t2) (R:=M++(yL t.c_Yard A y++L)) (by rw[wG,wG]; exact h2)
     rw[wG] at this
     exact this
    clear h2
    refine⟨_,U,_,U,A2,y2,_,W,W.go (i+b+l) s0,t2,1,U,h4,R2,(((PL.go' _).app _).app _).app _,t2e,by omega,by omega,by omega,by omega,fun H5 y22 t22 h5 R5 t5 m5 _ _ _ _ _ _=>?_⟩
    have l5:t22.length=1:=by have:=congrArg List.length m5; rw[wF] at this; rw[this]; exact Cy.one (i+b+l) 1
    have R5':Rep W (W.go (i+b+(l+1)) s0) y22:=by rw[show i+b+(l+1)=i+b+l+1 by omega,(cq W (i+b+l) 1 s0).1]; exact R5
    have h6:Has H5 (yL t.c_Yard F yf++(trK W tf++(yL t.c_Yard A2 y22++(trK W (t2++t22)++(M++(yL t.c_Yard A y++L)))))):=by
     have:=Has.comm (X:=yL t.c_Yard A2 y22++trK W (t2++t22)) (Y:=yL t.c_Yard F yf++trK W tf) (R:=M++(yL t.c_Yard A y++L)) (by rw[wG]; exact h5)
     rw[wG,wG] at this
     exact this
    refine⟨_,_,U,U,?_⟩
    refine⟨lam - (l+1),by omega,l+1,yf,y22,tf,t2++t22,U,by omega,by omega,?_,h6,Rf,R5',t5,by rw[wK]; omega⟩
    rw[l5]
    rfl
   ·subst hc
    have hA:∀ {H:Hp}{X:Kn},Has H (X++(yL t.c_Yard A y++L))->∀ {p:Addr},H p=none->∀ o,Has (upd H p o) ((p,o)::(yL t.c_Yard A y++L)):=fun {H X} h {p} hp o=>Has.sub (h.alloc hp o) (List.Sublist.cons₂ _ (List.sublist_append_right _ _))
    have h9:Has H6 ((yL t.c_Yard F yf++(trK W tf++(yL t.c_Yard A2 y2++(trK W t2++M))))++(yL t.c_Yard A y++L)):=by
     rw[wG,wG,wG,wG]; exact h2
    refine⟨_,U,_,U,_,_,U,U,_,U,_,_,U,U,_,U,if2 (fun hc=>?_) (fun hc=>?_)⟩
    ·have hlt:(lim:Int)<(b:Int)+(l:Int):=of_decide_eq_true hc
     refine⟨_,U,(show 2<=sizeLine by decide),fun p hp=>?_⟩
     refine q _ p ?_
     have e:ft b l lim=[.str "open",.int (lim:Int)]:=by unfold ft; rw[if_neg (by omega)]
     rw[e]
     exact hA h9 hp _
    ·have hlt:¬ (lim:Int)<(b:Int)+(l:Int):=of_decide_eq_false hc
     refine⟨_,U,_,U,(show 3<=sizeLine by decide),fun p hp=>?_⟩
     refine q _ p ?_
     have e:ft b l lim=[.str "round",.int (b:Int),.int (l:Int)]:=by unfold ft; rw[if_pos (by omega)]
     rw[e]
     exact hA h9 hp _
end
theorem nu {mu lam:Nat} (h:0<lam):∃ k,1<=k/\k<=mu+lam/\mu<=k/\lam ∣ k:=by
 by_cases c:mu=0
 ·exact⟨lam,h,by omega,by omega,Nat.dvd_refl _⟩
 ·have e:=Nat.div_add_mod (mu+lam - 1) lam
  have l:=Nat.mod_lt (mu+lam - 1) h
  exact⟨lam*((mu+lam - 1) / lam),by omega,by omega,by omega,Nat.dvd_mul_right _ _⟩
theorem sO {P:Nat->Prop}:∀ {n:Nat},P n->∃ m,m<=n/\P m/\∀ k,k<m->¬ P k:=by
 intro n
 induction n using Nat.strongRecOn with
 | ind n ih=>
  intro h
  by_cases c:∃ k,k<n/\P k
  ·obtain⟨k,hk,pk⟩:=c
   obtain⟨m,a,b,d⟩:=ih k hk pk
   exact⟨m,by omega,b,d⟩
  ·exact⟨n,Nat.le_refl _,h,fun k hk pk=>c ⟨k,hk,pk⟩⟩
theorem uY {E:Nat->Nat->Prop} (rf:∀ i,E i i) (sy:∀ {i j},E i j->E j i) (tr:∀ {i j k},E i j->E j k->E i k) (st:∀ {i j},E i j->E (i+1) (j+1)) {i:Nat} (hi:1<=i) (h:E i (2*i)) :
  ∃ mu lam,0<lam/\mu<=i/\lam ∣ i/\lam<=i/\∀ j k,j<k->(E j k↔mu<=j/\lam ∣ (k - j)):=by
 have sh:∀ (n:Nat) {a b:Nat},E a b->E (a+n) (b+n):=fun n=>by
  induction n with
  | zero=>intro a b e; exact e
  | succ n ih=>intro a b e; exact st (ih e)
 have up:∀ {a p:Nat},E a (a+p)->∀ (q n:Nat),E (a+n) (a+n+p*q):=fun {a p} e q=>by
  induction q with
  | zero=>intro n; rw[Nat.mul_zero]; exact rf _
  | succ q ih=>
   intro n
   have e1:=sh n e
   have e2:=ih (n+p)
   rw[show a+(n+p)=a+n+p by omega] at e2
   rw[show a+p+n=a+n+p by omega] at e1
   have:=tr e1 e2
   rw[Nat.mul_succ,show a+n+(p*q+p)=a+n+p+p*q by omega]
   exact this
 obtain⟨mu,mui,⟨p0,p00,e0⟩,mm⟩:=sO (P:=fun m=>∃ p,0<p/\E m (m+p)) (n:=i) ⟨i,by omega,by rw[show i+i=2*i by omega]; exact h⟩
 obtain⟨lam,lp,⟨l0,le⟩,lm⟩:=sO (P:=fun p=>0<p/\E mu (mu+p)) (n:=p0) ⟨p00,e0⟩
 have main:∀ j k,j<k->(E j k↔mu<=j/\lam ∣ (k - j)):=fun j k hjk=>by
  constructor
  ·intro e
   have mj:mu<=j:=Nat.le_of_not_lt fun c=>mm j c ⟨k - j,by omega,by rw[show j+(k - j)=k by omega]; exact e⟩
   refine⟨mj,?_⟩
   obtain⟨t,ht⟩:∃ t,j=mu+t:=⟨j - mu,by omega⟩
   obtain⟨p,hp⟩:∃ p,k=j+p:=⟨k - j,by omega⟩
   have em:=Nat.div_add_mod p lam
   have ml:=Nat.mod_lt p l0
   rw[show k - j=p by omega]
   by_cases r0:p % lam=0
   ·exact Nat.dvd_of_mod_eq_zero r0
   ·exfalso
    have e1:=up le (p / lam) (t+p % lam)
    have e2:E j (j+p % lam):=by
     have e3:E (j+p % lam) k:=by
      rw[show mu+(t+p % lam)=j+p % lam by omega,show j+p % lam+lam*(p / lam)=k by omega] at e1
      exact e1
     exact tr e (sy e3)
    have e4:=sh (lam*t - t) e2
    have lt:t<=lam*t:=Nat.le_mul_of_pos_left t l0
    rw[show j+(lam*t - t)=mu+lam*t by omega,show j+p % lam+(lam*t - t)=mu+p % lam+lam*t by omega] at e4
    have e5:=up le t 0
    have e6:=up le t (p % lam)
    rw[Nat.add_zero] at e5
    exact lm (p % lam) ml ⟨by omega,tr (tr e5 e4) (sy e6)⟩
  ·rintro⟨mj,q,hq⟩
   have:=up le q (j - mu)
   rw[show mu+(j - mu)=j by omega,show j+lam*q=k by omega] at this
   exact this
 have di:=((main i (2*i) (by omega)).mp h).2
 rw[show 2*i - i=i by omega] at di
 exact⟨mu,lam,l0,mui,di,Nat.le_of_dvd (by omega) di,main⟩
theorem Lk.rf (s:Sd):Lk s s:=⟨U,U⟩
theorem Lk.sy {s t:Sd} (h:Lk s t):Lk t s:=⟨h.s.symm,h.a.symm⟩
theorem Lk.tr {s t u:Sd} (h:Lk s t) (h2:Lk t u):Lk s u:=⟨h.s.trans h2.s,h.a.trans h2.a⟩
theorem Lk.st {i j:Nat} (h:Lk (w.go i s) (w.go j s)):Lk (w.go (i+1) s) (w.go (j+1) s):=by
 rw[(cq w i 1 s).1,(cq w j 1 s).1]
 rcases pO (w:=w) h with ⟨h1,h2⟩ | ⟨t1,t2,h1,h2,T⟩
 ·rw[bV w h1,bV w h2]; exact h
 ·rw[bD w h1,bD w h2]; exact T
theorem Lk.sh {i j:Nat} (h:Lk (w.go i s) (w.go j s)):∀ n,Lk (w.go (i+n) s) (w.go (j+n) s)
 | 0=>h
 | n+1=>Lk.st (Lk.sh h n)
theorem lW {n:Nat} (h:(w.hist n s).length=n) {k:Nat} (hk:k<=n):(w.hist k s).length=k:=by
 have:=(cq w k (n - k) s).2
 rw[show k+(n - k)=n by omega,h] at this
 have a:=fb w k s
 have b:=fb w (n - k) (w.go k s)
 omega
theorem jg {n k:Nat} (h:(w.hist n s).length=n) (hk:k<n):∃ s',w.nx (w.go k s)=some s':=by
 have h1:=lW h (show k+1<=n by omega)
 have:=(cq w k 1 s).2
 rw[h1,lW h (show k<=n by omega)] at this
 cases c:w.nx (w.go k s) with
 | none=>rw[bG w c] at this; simp at this
 | some s'=>exact⟨s',U⟩
theorem lV {w:Wd}{s:Sd}:∀ {n:Nat},(∀ k,k<n->∃ s',w.nx (w.go k s)=some s')->(w.hist n s).length=n
 | 0,_=>rfl
 | n+1,h=>by
  have a:=(cq w n 1 s).2
  obtain⟨s',hs⟩:=h n (by omega)
  rw[a,lV (fun k hk=>h k (by omega)),bg w hs]
  rfl
theorem Cyc.of {i:Nat} (hi:1<=i) (on:(w.hist (2*i) s).length=2*i) (h:Lk (w.go i s) (w.go (2*i) s)):∃ mu lam,Cyc w s mu lam/\mu<=i/\lam ∣ i/\lam<=i:=by
 obtain⟨mu,lam,l0,mi,di,li,main⟩:=uY (E:=fun a b=>Lk (w.go a s) (w.go b s)) (fun a=>Lk.rf _) (fun h=>h.sy) (fun h h2=>h.tr h2) (fun h=>h.st) hi h
 have nx:∀ n,∃ s',w.nx (w.go n s)=some s':=fun n=>by
  induction n using Nat.strongRecOn with
  | ind n ih=>
   by_cases c:n<2*i
   ·exact jg on c
   ·obtain⟨s',hs⟩:=ih (n - i) (by omega)
    have e:=h.sh (n - 2*i)
    rw[show i+(n - 2*i)=n - i by omega,show 2*i+(n - 2*i)=n by omega] at e
    rcases pO (w:=w) e with ⟨h1,_⟩ | ⟨t1,t2,_,h2,_⟩
    ·rw[h1] at hs; cases hs
    ·exact⟨t2,h2⟩
 exact⟨mu,lam,⟨l0,fun n=>lV fun k _=>nx k,main⟩,mi,di,li⟩
def FR (w:Wd) (s:Sd) (lim:Nat) (xs:List V):Prop :=
 (∃ n,n<=lim/\(w.hist n s).length=n/\w.nx (w.go n s)=none/\xs=[.str "held",w.why (w.go n s),.int n]) ∨
 (∃ mu lam,Cyc w s mu lam/\mu+lam<=lim/\xs=[.str "round",.int mu,.int lam]) ∨
 ((w.hist (lim+1) s).length=lim+1/\(∀ i j,i<j->j<=lim->¬ Lk (w.go i s) (w.go j s))/\xs=[.str "open",.int lim])
theorem FR.round {mu lam lim:Nat} (C:Cyc w s mu lam):FR w s lim (ft mu lam lim):=by
 unfold ft
 by_cases c:mu+lam<=lim
 ·rw[if_pos c]; exact .inr (.inl ⟨mu,lam,C,c,U⟩)
 ·rw[if_neg c]
  refine .inr (.inr ⟨C.on _,fun i j hij hj e=>?_,U⟩)
  obtain⟨a,q,b⟩:=(C.lk i j hij).mp e
  have:1<=q:=Nat.one_le_iff_ne_zero.mpr (fun z=>by rw[z,Nat.mul_zero] at b; omega)
  have:lam*1<=lam*q:=Nat.mul_le_mul_left lam this
  omega
theorem gG {n:Nat} (on:(w.hist n s).length=n) (hn:w.nx (w.go n s)=none):∀ i j,i<j->j<=n->¬ Lk (w.go i s) (w.go j s):=fun i j hij hj e=>by
 have e2:=e.sh (n - j)
 rw[show j+(n - j)=n by omega] at e2
 obtain⟨s',hs⟩:=jg on (show i+(n - j)<n by omega)
 rcases pO (w:=w) e2 with ⟨h1,_⟩ | ⟨_,_,_,h2,_⟩
 ·rw[h1] at hs; cases hs
 ·rw[h2] at hn; cases hn
theorem kS {lim:Nat} (nk:∀ k,1<=k->k<=lim->¬ Lk (w.go k s) (w.go (2*k) s)):∀ i j,i<j->j<=lim->¬ Lk (w.go i s) (w.go j s):=fun i j hij hj e=>by
 obtain⟨p,hp⟩:∃ p,j=i+p:=⟨j - i,by omega⟩
 subst hp
 have p0:0<p:=by omega
 obtain⟨k,k1,k2,k3,q,hq⟩:∃ k,1<=k/\k<=i+p/\i<=k/\p ∣ k:=nu p0
 have up:∀ q n,Lk (w.go (i+n) s) (w.go (i+n+p*q) s):=fun q=>by
  induction q with
  | zero=>intro n; exact Lk.rf _
  | succ q ih=>
   intro n
   have a:=e.sh n
   have b:=ih (n+p)
   rw[show i+(n+p)=i+n+p by omega] at b
   rw[show i+p+n=i+n+p by omega] at a
   rw[Nat.mul_succ,show i+n+(p*q+p)=i+n+p+p*q by omega]
   exact a.tr b
 have:=up q (k - i)
 rw[show i+(k - i)=k by omega,<- hq,show k+k=2*k by omega] at this
 exact nk k k1 (by omega) this
inductive sp_fate (C:Addr) (vs:List V) (H:Hp) (Q:VK) (E_:XK):Prop
 | mk (A:YA) (y:YR) (L:Kn) (W:Wd) (s:Sd) (m:Int) (_:vs=[.ref A.p,.int m]) (_:Has H (yL C A y++L)) (_:Rep W s y) (_:Pool W s L) (_:EK y.mates) (_:m<=1000) (_:s.rg.length<=100000) (_:∀ H' p xs,FR W s m.toNat xs->Has H' ((p,.tup xs)::(yL C A y++L))->Q (.ref p) H'):sp_fate C vs H Q E_
inductive fateInv (C:Addr) (A Bs Bf:YA) (y:YR) (L:Kn) (W:Wd) (s:Sd) (m:Int) (r:Nat) (σ:St) (H:Hp):Prop
 | mk (i:Nat) (ys yf:YR) (ts tf:List (Addr×Sd)) (o1 o2:Option V) (_:r=m.toNat - i) (_:i<=m.toNat) (_:σ=[some (.ref A.p),some (.int m),some (.int m.toNat),some (.ref Bs.p),some (.ref Bf.p),some (.int i),some (.int ((2*i:Nat):Int)),o1,o2]) (_:Has H (yL C Bs ys++(trK W ts++(yL C Bf yf++(trK W tf++(yL C A y++L)))))) (_:Rep W (W.go i s) ys) (_:Rep W (W.go (2*i) s) yf) (_:ys.trail=trV ts) (_:yf.trail=trV tf) (_:ts.length=i) (_:tf.length=2*i) (_:(W.hist (2*i) s).length=2*i) (_:∀ k,1<=k->k<=i->¬ Lk (W.go k s) (W.go (2*k) s)):fateInv C A Bs Bf y L W s m r σ H
section
variable {P:Program}{w:World}{K:PySem.W.Frag}{mg:Str->Option Value}{base:Heap}{t:Adr}
theorem fI {w:Wd}{s:Sd} (h:∀ z,s.at_=some z->w.ok z):w.why s=.non↔∃ s',w.nx s=some s':=by
 constructor
 ·intro e
  cases hz:s.at_ with
  | none=>rw[(dH (w:=w) hz).2] at e; cases e
  | some z=>
   obtain⟨k,hk,_⟩:=h z hz
   by_cases c:k.out z.2.2 (w.sv s z.2.1)=.non
   ·rw[(db hz hk c).2] at e; cases e
   ·obtain⟨o,ho⟩:=Kd.out_int (k:=k) (fun e=>c (by unfold Kd.out; rw[if_pos e])) z.2.2 (w.sv s z.2.1)
    cases hm:w.mf z.2.1 o with
    | none=>rw[(cS hz hk ho hm).2] at e; cases e
    | some z'=>exact⟨_,io hz hk ho hm⟩
 ·rintro⟨s',hs⟩
  exact kQ hs
theorem scFt:FnScope ["yard","most","limit","slow","fast","slow_steps","fast_steps","done","why"] ["yard","most"] (aj oO):={}
theorem lY (T:Txt K mg t):FnOk P w K mg base CX0 8 t.f_fate t.d_fate ["yard","most"] (sp_fate t.c_Yard):=by
 refine T.F_fate.ok scFt (fun vs H Q E h=>?_) (fun cdv A outer s H vs Q E hr h=>?_)
 ·obtain⟨_,_,_,_,_,_,rfl,_⟩:=h
  rfl
 ·obtain⟨A,y,L,W,s0,m,rfl,hH,R,PL,ek,mb,rb,q⟩:=h
  refine⟨_,(ae (ax (i:=2) scFt.nd rfl (Or.inl rfl) (ay (jq rfl) (by rfl) T.z_max (by rfl) (aa (pv 1) (aa ai af))))
   (ae (ax (i:=3) scFt.nd rfl (Or.inl rfl) (pcl (gU T) hr T.m_twin T.F_twin.kp (jY T) (aa (pv 0) af)))
   (ae (ax (i:=4) scFt.nd rfl (Or.inl rfl) (pcl (gU T) hr T.m_twin T.F_twin.kp (jY T) (aa (pv 0) af)))
   (ae (qM ai (aI (i:=5) scFt.nd rfl (Or.inl rfl)) (aI (i:=6) scFt.nd rfl (Or.inl rfl)))
   (ae (cV PassesOwn.never (ak cG (pv 5) (pv 2) (am _))
    (ae (ax (i:=7) scFt.nd rfl (Or.inl rfl) (pcl (fC T) hr T.m_run T.F_run.kp (iS T) (aa (pv 4) (aa ai af))))
     (ae (hV (i:=6) scFt.nd rfl (Or.inl rfl) (pv 7) iD)
     (ae (au (ak cG (pv 7) ai (am _))
      (ag kg)
      al)
     (ae (hV (i:=5) scFt.nd rfl (Or.inl rfl) (pcl (fC T) hr T.m_run T.F_run.kp (iS T) (aa (pv 3) (aa ai af))) iD)
     (ag (au (bj (pcl (ij T) hr T.m_alike T.F_alike.kp (j0 T) (aa (pv 3) (aa (pv 4) af))))
      (ag (ap (pcl (ok_J8 T) hr T.m_J8 T.F_J8.kp (b_J8 T) (aa (pv 0) (aa (pv 3) (aa (pv 2) af))))))
      al)))))))
   (ae (ax (i:=8) scFt.nd rfl (Or.inl rfl) (pcl (qT T) hr T.m_held T.F_held.kp (u8 T) (aa (pv 4) af)))
   (ae (au (PW.pt (bM (ak cZ (pv 8) aK (am _)) (bq (ak sA (pv 6) (pv 2) (am _)))))
    (ag (ap (aF (aa ah (aa (pv 8) (aa (pv 6) af))))))
    al)
   (ag (ap (aF (aa ah (aa (pv 2) af)))))))))))),?_⟩
  refine⟨_,U,_,_,U,?_⟩
  rw[show(if (0:Int) > m then 0 else m)=(m.toNat:Int) by split <;> omega]
  refine⟨_,U,A,y,L,U,hH,ek,fun H1 Bs h1=>?_⟩
  replace h1:=Has.comm (X:=yL t.c_Yard Bs { y with trail:=[] }) (Y:=yL t.c_Yard A y) (R:=L) h1
  refine⟨_,U,A,y,_,U,h1,ek,fun H2 Bf h2=>?_⟩
  have h3:Has H2 (yL t.c_Yard Bs { y with trail:=[] }++(trK W []++(yL t.c_Yard Bf { y with trail:=[] }++(trK W []++(yL t.c_Yard A y++L))))):=by
   show Has H2 (yL t.c_Yard Bs { y with trail:=[] }++(yL t.c_Yard Bf { y with trail:=[] }++(yL t.c_Yard A y++L)))
   refine Has.perm h2 ?_
   rw[<- wG (yL t.c_Yard Bf { y with trail:=[] }),<- wG (yL t.c_Yard Bf { y with trail:=[] })]
   exact List.perm_append_comm_assoc _ _ _
  clear h2 h1 hH
  dsimp only[kD,List.set]
  refine⟨fateInv t.c_Yard A Bs Bf y L W s0 m,⟨_,0,_,_,[],[],_,_,U,Nat.zero_le _,U,h3,R.twin,R.twin,U,U,U,U,U,fun k h1 h2=>by omega⟩,?_⟩
  clear h3
  rintro r σ H1 ⟨i,ys,yf,ts,tf,o1,o2,rfl,im,rfl,h1,Rs,Rf,t1,t2,l1,l2,on,nk⟩
  have h2:Has H1 (yL t.c_Yard Bf yf++(trK W tf++((yL t.c_Yard Bs ys++trK W ts)++(yL t.c_Yard A y++L)))):=by
   have:=Has.comm (X:=yL t.c_Yard Bs ys++trK W ts) (Y:=yL t.c_Yard Bf yf++trK W tf) (R:=yL t.c_Yard A y++L) (by rw[wG,wG]; exact h1)
   rw[wG] at this
   exact this
  refine⟨_,U,_,U,_,_,U,U,_,U,if2 (fun hc=>?_) (fun hc=>?_)⟩
  ·have hlt:(i:Int)<((m.toNat:Nat):Int):=of_decide_eq_true hc
   refine⟨fun σ' H'=>∃ r',r'<m.toNat - i/\fateInv t.c_Yard A Bs Bf y L W s0 m r' σ' H',fun _ _ h=>h,?_⟩
   have rf:=dk W (2*i) s0
   have rf':yf.rung.length<=300000:=by rw[Rf.rg,wF]; omega
   refine⟨_,U,Bf,yf,_,W,W.go (2*i) s0,tf,2,U,h2,Rf,((PL.go' _).app _).app _,t2,by omega,by omega,by omega,by omega,fun H3 yf2 tf2 h3 R3 t3 m3 _ _ _ _ _ P3=>?_⟩
   have e2:tf2.length=(W.hist 2 (W.go (2*i) s0)).length:=by have:=congrArg List.length m3; rw[wF] at this; exact this
   have e2le:=fb W 2 (W.go (2*i) s0)
   have s2:=cq W (2*i) 2 s0
   have R3':Rep W (W.go (2*i+2) s0) yf2:=by rw[s2.1]; exact R3
   dsimp only[List.set]
   refine⟨_,U,_,U,_,_,U,U,?_⟩
   dsimp only[List.set]
   refine⟨_,U,_,_,U,U,_,U,?_⟩
   by_cases d2:tf2.length=2
   ·refine ifF (decide_eq_false (by omega)) ?_
    have on2:(W.hist (2*i+2) s0).length=2*i+2:=by rw[s2.2,on,<- e2,d2]
    have h4:Has H3 (yL t.c_Yard Bs ys++(trK W ts++((yL t.c_Yard Bf yf2++trK W (tf++tf2))++(yL t.c_Yard A y++L)))):=by
     have:=Has.comm (X:=yL t.c_Yard Bf yf2++trK W (tf++tf2)) (Y:=yL t.c_Yard Bs ys++trK W ts) (R:=yL t.c_Yard A y++L) (by rw[wG]; exact h3)
     rw[wG] at this
     exact this
    clear h3 h2 h1
    have rs:=dk W i s0
    have rs':ys.rung.length<=300000:=by rw[Rs.rg,wF]; omega
    refine⟨_,U,_,U,Bs,ys,_,W,W.go i s0,ts,1,U,h4,Rs,((PL.go' _).app _).app _,t1,by omega,by omega,by omega,by omega,fun H5 ys2 ts2 h5 R5 t5 m5 _ _ _ _ _ P5=>?_⟩
    have e1:ts2.length=1:=by
     have:=congrArg List.length m5
     rw[wF] at this
     rw[this]
     obtain⟨s',hs⟩:=jg on2 (show i<2*i+2 by omega)
     show(W.hist 1 (W.go i s0)).length=1
     rw[bg W hs]; rfl
    replace R5:Rep W (W.go (i+1) s0) ys2:=by rw[(cq W i 1 s0).1]; exact R5
    refine⟨_,_,U,U,?_⟩
    rw[wG] at h5
    have at0:s0.at_≠none:=fun e=>by
     obtain⟨s',hs⟩:=jg on2 (show 0<2*i+2 by omega)
     rw[show W.go 0 s0=s0 from rfl,(dH e).1] at hs
     cases hs
    have a1:=dl (w:=W) (i+1) s0 at0
    have a2:=dl (w:=W) (2*i+2) s0 at0
    obtain⟨z1,hz1⟩:=Option.ne_none_iff_exists'.mp a1
    obtain⟨z2,hz2⟩:=Option.ne_none_iff_exists'.mp a2
    obtain⟨j1,g1⟩:=(PL.go' (i+1)).e z1 hz1
    obtain⟨j2,g2⟩:=(PL.go' (2*i+2)).e z2 hz2
    refine⟨_,U,_,U,Bs,Bf,ys2,yf2,_,_,z1,z2,(W.go (i+1) s0).ss,(W.go (2*i+2) s0).ss,U,h5,(by rw[R5.en,hz1]; rfl),(by rw[R3'.en,hz2]; rfl),wD _ (wD _ (wI g1)),wD _ (wD _ (wI g2)),R5.sd,R3'.sd,_,U,?_⟩
    have lkd:(decide (z1.2=z2.2) && decide ((W.go (i+1) s0).ss=(W.go (2*i+2) s0).ss))=true↔Lk (W.go (i+1) s0) (W.go (2*(i+1)) s0):=by
     rw[show 2*(i+1)=2*i+2 by omega,Bool.and_eq_true,decide_eq_true_eq,decide_eq_true_eq]
     constructor
     ·rintro⟨a,b⟩; exact⟨b,by rw[hz1,hz2]; exact congrArg some a⟩
     ·rintro⟨b,a⟩; rw[hz1,hz2] at a; exact⟨Option.some.inj a,b⟩
    refine if2 (fun hf=>?_) (fun hf=>?_)
    ·have lk:=lkd.mp hf
     obtain⟨mu,lam,Cy,mi,di,li⟩:=Cyc.of (show 1<=i+1 by omega) (by rw[show 2*(i+1)=2*i+2 by omega]; exact on2) lk
     refine⟨_,U,_,U,_,U,A,Bs,y,ys2,yL t.c_Yard Bf yf2++trK W (tf++tf2),L,ts++ts2,W,s0,i+1,m.toNat,mu,lam,U,(by rw[wG (yL t.c_Yard Bf yf2)]; exact h5),R,R5,t5,by rw[wK]; omega,PL,ek,Cy,di,mi,by omega,by omega,by omega,by omega,rb,at0,fun H' p h=>q H' p _ (FR.round Cy) h⟩
    ·refine⟨m.toNat - (i+1),by omega,i+1,ys2,yf2,ts++ts2,tf++tf2,some (.int tf2.length),o2,U,by omega,?_,h5,R5,by rw[show 2*(i+1)=2*i+2 by omega]; exact R3',t5,t3,by rw[wK]; omega,by rw[wK]; omega,by rw[show 2*(i+1)=2*i+2 by omega]; exact on2,fun k k1 k2=>?_⟩
     ·dsimp only[List.set]
      rw[show(i:Int)+(ts2.length:Int)=((i+1:Nat):Int) by omega,show(((2*i:Nat):Int)+(tf2.length:Int))=((2*(i+1):Nat):Int) by omega]
     ·by_cases c:k=i+1
      ·rw[c]; exact fun lk=>by rw[lkd.mpr lk] at hf; cases hf
      ·exact nk k k1 (by omega)
   ·refine ifT (decide_eq_true (by omega)) ?_
    obtain⟨dn,edn⟩:∃ dn,tf2.length=dn:=⟨_,U⟩
    have dn1:dn<=1:=by omega
    have on_n:(W.hist (2*i+dn) s0).length=2*i+dn:=by
     rw[(cq W (2*i) dn s0).2,on]
     have:=lV (w:=W) (s:=W.go (2*i) s0) (n:=dn) (fun k hk=>?_)
     ·rw[this]
     ·have k0:k=0:=by omega
      subst k0
      show ∃ s',W.nx (W.go (2*i) s0)=some s'
      cases c:W.nx (W.go (2*i) s0) with
      | some s'=>exact⟨s',U⟩
      | none=>
       rw[bG W c] at e2
       have e2:tf2.length=0:=e2
       omega
    have nx_n:W.nx (W.go (2*i+dn) s0)=none:=by
     rw[(cq W (2*i) dn s0).1]
     cases c:W.nx (W.go (2*i) s0) with
     | none=>rw[bV W c]; exact c
     | some s'=>
      rw[bg W c] at e2
      cases c2:W.nx s' with
      | none=>
       rw[bG W c2] at e2
       have e2:tf2.length=1:=e2
       have:dn=1:=by omega
       rw[this,bD W c]; exact c2
      | some s''=>
       rw[bg W c2] at e2
       have e2:tf2.length=2:=e2
       omega
    have go_n:W.go (2*i+2) s0=W.go (2*i+dn) s0:=by
     rw[show 2*i+2=(2*i+dn)+(2 - dn) by omega,(cq W (2*i+dn) (2 - dn) s0).1,bV W nx_n]
    rw[go_n] at R3'
    have frB:(W.nx (W.go (2*i+dn) s0)=none/\m.toNat<2*i+dn)∨(∃ s',W.nx (W.go (2*i+dn) s0)=some s')->FR W s0 m.toNat [.str "open",.int ((m.toNat:Nat):Int)]:=fun h=>by
     rcases h with ⟨_,c⟩ | ⟨s',hs⟩
     ·exact .inr (.inr ⟨lW on_n (by omega),fun a b hab hb=>gG on_n nx_n a b hab (by omega),U⟩)
     ·rw[nx_n] at hs; cases hs
    rw[show(((2*i:Nat):Int)+(tf2.length:Int))=((2*i+dn:Nat):Int) by omega]
    have hh:Has _ (yL t.c_Yard Bf yf2++((trK W (tf++tf2)++(yL t.c_Yard Bs ys++trK W ts))++(yL t.c_Yard A y++L))):=(by rw[wG (trK W (tf++tf2))]; exact h3)
    refine⟨_,U,Bf,yf2,_,W,W.go (2*i+dn) s0,U,hh,R3',((PL.go' _).app _).app _,fun H9 h9=>?_⟩
    have fin:∀ (H':Hp) (p:Addr) (xs:List V),FR W s0 m.toNat xs->Has H' ((p,HO.tup xs)::(yL t.c_Yard Bf yf2++((trK W (tf++tf2)++(yL t.c_Yard Bs ys++trK W ts))++(yL t.c_Yard A y++L))))->Q (.ref p) H':=fun H' p xs f h=>q H' p xs f (Has.sub h (List.Sublist.cons₂ _ (List.Sublist.trans (List.sublist_append_right _ _) (List.sublist_append_right _ _))))
    refine⟨_,U,U,_,U,?_⟩
    cases hw:W.nx (W.go (2*i+dn) s0) with
    | some s'=>
     rw[kQ hw]
     refine ifF rfl (bL ?_)
     refine⟨_,U,(show 2<=sizeLine by decide),fun p hp=>fin _ p _ (frB (.inr ⟨s',hw⟩)) (h9.alloc hp _)⟩
    | none=>
     obtain⟨x,hx⟩:∃ x,W.why (W.go (2*i+dn) s0)=.str x:=by
      rcases i5 W (W.go (2*i+dn) s0) (fun z hz=>(R3').eo z hz) with e | ⟨x,e⟩
      ·exfalso
       rcases (fI (w:=W) (s:=W.go (2*i+dn) s0) (fun z hz=>(R3').eo z hz)).mp e with ⟨s',hs⟩
       rw[hw] at hs; cases hs
      ·exact⟨x,e⟩
     rw[hx]
     refine ifT rfl ?_
     refine⟨_,U,_,U,_,_,U,U,_,U,ifd (fun c=>?_) (fun c=>?_)⟩
     ·refine⟨_,U,_,U,(show 3<=sizeLine by decide),fun p hp=>fin _ p _ (.inl ⟨2*i+dn,by omega,on_n,hw,by rw[hx]⟩) (h9.alloc hp _)⟩
     ·refine⟨_,U,(show 2<=sizeLine by decide),fun p hp=>fin _ p _ (frB (.inl ⟨hw,by omega⟩)) (h9.alloc hp _)⟩
  ·have hge:¬ (i:Int)<((m.toNat:Nat):Int):=of_decide_eq_false hc
   have ei:i=m.toNat:=by omega
   have on_n:=on
   have frB:(W.nx (W.go (2*i) s0)=none/\m.toNat<2*i)∨(∃ s',W.nx (W.go (2*i) s0)=some s')->FR W s0 m.toNat [.str "open",.int ((m.toNat:Nat):Int)]:=fun h=>by
    refine .inr (.inr ⟨?_,kS (fun k k1 k2=>nk k k1 (by omega)),U⟩)
    rcases h with ⟨_,c⟩ | ⟨s',hs⟩
    ·exact lW on (by omega)
    ·refine lV fun k hk=>?_
     by_cases c:k<2*i
     ·exact jg on c
     ·have:k=2*i:=by omega
      rw[this]; exact⟨s',hs⟩
   have hh:Has _ (yL t.c_Yard Bf yf++((trK W tf++(yL t.c_Yard Bs ys++trK W ts))++(yL t.c_Yard A y++L))):=(by rw[wG (trK W tf)]; exact h2)
   refine⟨_,U,Bf,yf,_,W,W.go (2*i) s0,U,hh,Rf,((PL.go' _).app _).app _,fun H9 h9=>?_⟩
   have fin:∀ (H':Hp) (p:Addr) (xs:List V),FR W s0 m.toNat xs->Has H' ((p,HO.tup xs)::(yL t.c_Yard Bf yf++((trK W tf++(yL t.c_Yard Bs ys++trK W ts))++(yL t.c_Yard A y++L))))->Q (.ref p) H':=fun H' p xs f h=>q H' p xs f (Has.sub h (List.Sublist.cons₂ _ (List.Sublist.trans (List.sublist_append_right _ _) (List.sublist_append_right _ _))))
   refine⟨_,U,U,_,U,?_⟩
   cases hw:W.nx (W.go (2*i) s0) with
   | some s'=>
    rw[kQ hw]
    refine ifF rfl (bL ?_)
    refine⟨_,U,(show 2<=sizeLine by decide),fun p hp=>fin _ p _ (frB (.inr ⟨s',hw⟩)) (h9.alloc hp _)⟩
   | none=>
    obtain⟨x,hx⟩:∃ x,W.why (W.go (2*i) s0)=.str x:=by
     rcases i5 W (W.go (2*i) s0) (fun z hz=>(Rf).eo z hz) with e | ⟨x,e⟩
     ·exfalso
      rcases (fI (w:=W) (s:=W.go (2*i) s0) (fun z hz=>(Rf).eo z hz)).mp e with ⟨s',hs⟩
      rw[hw] at hs; cases hs
     ·exact⟨x,e⟩
    rw[hx]
    refine ifT rfl ?_
    refine⟨_,U,_,U,_,_,U,U,_,U,ifd (fun c=>?_) (fun c=>?_)⟩
    ·refine⟨_,U,_,U,(show 3<=sizeLine by decide),fun p hp=>fin _ p _ (.inl ⟨2*i,by omega,on_n,hw,by rw[hx]⟩) (h9.alloc hp _)⟩
    ·refine⟨_,U,(show 2<=sizeLine by decide),fun p hp=>fin _ p _ (frB (.inl ⟨hw,by omega⟩)) (h9.alloc hp _)⟩
end
def cO (s:Sd):NK:=(s.at_.map fun z=>kE z.2.1 z.2.2,s.ss.map Sum.inl)
theorem pT {s t:Sd} (h:Lk s t):cO s=cO t:=by
 have e:∀ s:Sd,cO s=((s.at_.map (·.2)).map fun p=>kE p.1 p.2,s.ss.map Sum.inl):=fun s=>by unfold cO; rw[Option.map_map]; rfl
 rw[e,e,h.a,h.s]
theorem mC:∀ {a b:List Int},a.map (Sum.inl:Int->Key)=b.map Sum.inl->a=b
 | [],[],_=>rfl
 | [],_::_,h=>nomatch h
 | _::_,[],h=>nomatch h
 | x::a,y::b,h=>by
  rw[wN,wN] at h
  injection h with h1 h2
  injection h1 with h1
  rw[h1,mC h2]
theorem pP {s t:Sd} (h:cO s=cO t):Lk s t:=by
 unfold cO at h
 injection h with h1 h2
 refine⟨mC h2,?_⟩
 rcases je (f:=fun z:En=>kE z.2.1 z.2.2) h1 with ⟨a,b⟩ | ⟨u,v,a,b,e⟩
 ·rw[a,b]
 ·rw[a,b]
  injection e with e1 e3
  injection e3 with e3 _
  injection e1 with e1
  injection e3 with e3
  exact congrArg some (Prod.ext e1 e3)
def DR (w:Wd) (s:Sd) (lim:Nat) (xs:List V):Prop :=
 (∃ n,n<=lim/\(w.hist n s).length=n/\w.nx (w.go n s)=none/\xs=[.str "held",w.why (w.go n s),.int n]) ∨
 (∃ i n,i<n/\n<=lim/\(w.hist n s).length=n/\Lk (w.go i s) (w.go n s)/\(∀ i j,i<j->j<n->¬ Lk (w.go i s) (w.go j s))/\xs=[.str "round",.int i,.int ((n:Int) - i)]) ∨
 ((w.hist (lim+1) s).length=lim+1/\(∀ i j,i<j->j<=lim->¬ Lk (w.go i s) (w.go j s))/\xs=[.str "open",.int lim])
theorem dW {n m:Nat} (a:(w.hist n s).length=n) (b:w.nx (w.go m s)=none):n<=m:=by
 by_cases c:n<=m
 ·exact c
 ·obtain⟨s',e⟩:=jg a (show m<n by omega)
  rw[b] at e
  cases e
theorem DR.eq {lim:Nat}{xs ys:List V} (f:FR w s lim xs) (d:DR w s lim ys):xs=ys:=by
 rcases f with ⟨n,n1,n2,n3,rfl⟩ | ⟨mu,lam,C,c,rfl⟩ | ⟨o1,o2,rfl⟩
 ·rcases d with ⟨k,k1,k2,k3,rfl⟩ | ⟨i,k,ik,k1,k2,k3,k4,rfl⟩ | ⟨p1,p2,rfl⟩
  ·have a:=dW n2 k3
   have b:=dW k2 n3
   have e:n=k:=by omega
   rw[e]
  ·exact absurd k3 (gG n2 n3 i k ik (dW k2 n3))
  ·have:=dW p1 n3
   omega
 ·rcases d with ⟨k,k1,k2,k3,rfl⟩ | ⟨i,k,ik,k1,k2,k3,k4,rfl⟩ | ⟨p1,p2,rfl⟩
  ·obtain⟨s',e⟩:=C.nx k
   rw[k3] at e
   cases e
  ·have l0:=C.l0
   obtain⟨a,q,b⟩:=(C.lk i k ik).mp k3
   have q1:1<=q:=Nat.one_le_iff_ne_zero.mpr (fun z=>by rw[z,Nat.mul_zero] at b; omega)
   have q2:lam*1<=lam*q:=Nat.mul_le_mul_left lam q1
   have kl:k<=mu+lam:=by
    by_cases h:k<=mu+lam
    ·exact h
    ·exact absurd ((C.lk mu (mu+lam) (by omega)).mpr ⟨Nat.le_refl _,by rw[Nat.add_sub_cancel_left]; exact Nat.dvd_refl _⟩) (k4 mu (mu+lam) (by omega) (by omega))
   have e1:i=mu:=by omega
   have e2:(k:Int) - i=lam:=by omega
   rw[e2,e1]
  ·exact absurd ((C.lk mu (mu+lam) (by have:=C.l0; omega)).mpr ⟨Nat.le_refl _,by rw[Nat.add_sub_cancel_left]; exact Nat.dvd_refl _⟩) (p2 mu (mu+lam) (by have:=C.l0; omega) c)
 ·rcases d with ⟨k,k1,k2,k3,rfl⟩ | ⟨i,k,ik,k1,k2,k3,k4,rfl⟩ | ⟨p1,p2,rfl⟩
  ·have:=dW o1 k3
   omega
  ·exact absurd k3 (o2 i k ik k1)
  ·rfl
def M1 (M:Kn):V->Option (List Key)->Prop
 | x,none=>x=.non
 | x,some ks=>∃ c,x=.ref c/\(c,HO.tup (ks.map kV)) ∈ M
def NMem (M:Kn) (b:Addr) (k:NK):Prop:=∃ x d,(b,HO.tup [x,.ref d]) ∈ M/\M1 M x k.1/\(d,HO.tup (k.2.map kV)) ∈ M
theorem NMem.at_ {H:Hp}{M:Kn}{b:Addr}{k:NK} (h:NMem M b k) (hH:Has H M):NAt H b k:=by
 obtain⟨x,d,h1,h2,h3⟩:=h
 refine⟨x,d,hH.at_ _ h1,?_,hH.at_ _ h3⟩
 cases e:k.1 with
 | none=>rw[e] at h2; exact h2
 | some ks=>
  rw[e] at h2
  obtain⟨c,e1,e2⟩:=h2
  exact⟨c,e1,hH.at_ _ e2⟩
theorem NMem.mono {M M':Kn}{b:Addr}{k:NK} (h:NMem M b k) (s:∀ z ∈ M,z ∈ M'):NMem M' b k:=by
 obtain⟨x,d,h1,h2,h3⟩:=h
 refine⟨x,d,s _ h1,?_,s _ h3⟩
 cases e:k.1 with
 | none=>rw[e] at h2; exact h2
 | some ks=>
  rw[e] at h2
  obtain⟨c,e1,e2⟩:=h2
  exact⟨c,e1,s _ e2⟩
theorem uO (l:List Int):(l.map (Sum.inl:Int->Key)).map kV=l.map V.int:=by rw[xg]; rfl
theorem out_stop {k:Kd}{e s:Int}:k.out e s=.non↔k=.stop:=by
 constructor
 ·intro h
  by_cases c:k=.stop
  ·exact c
  ·obtain⟨i,hi⟩:=Kd.out_int c e s
   rw[hi] at h
   cases h
 ·intro h; unfold Kd.out; rw[if_pos h]
inductive sp_Jc1 (vs:List V) (H:Hp) (Q:VK) (E_:XK):Prop
 | mk (B:MA) (W:Wd) (s:Sd) (y:YR) (q:MR) (L:Kn) (_:vs=[.ref B.m]) (_:Has H (mL B y q++L)) (_:Rep W s y) (_:MQ q s) (_:(∀ z,s.at_=some z->(z.1,HO.tup [.int z.2.1,.int z.2.2]) ∈ L)) (_:W.nx s=none) (_:Q (W.why s) H):sp_Jc1 vs H Q E_
inductive sp_due (vs:List V) (H:Hp) (Q:VK) (E_:XK):Prop
 | mk (B:MA) (W:Wd) (s:Sd) (y:YR) (q:MR) (L:Kn) (m:Nat) (_:vs=[.ref B.m,.int m]) (_:Has H (mL B y q++L)) (_:Rep W s y) (_:MQ q s) (_:(∀ n e z,W.mf n e=some z->(z.1,HO.tup [.int z.2.1,.int z.2.2]) ∈ L)) (_:(∀ z,s.at_=some z->(z.1,HO.tup [.int z.2.1,.int z.2.2]) ∈ L)) (_:EK y.mates) (_:s.rg.length<=500) (_:s.ss.length<=500) (_:m<=100) (_:∀ H' p xs,DR W s m xs->Has H' ((p,.tup xs)::(mL B y q++L))->Q (.ref p) H'):sp_due vs H Q E_
inductive dueInv (P:Program) (w:World) (Bm:Addr) (B:MA) (mt:Addr) (L:Kn) (W:Wd) (s:Sd) (y:YR) (m:Nat) (r:Nat) (σ:St) (H:Hp):Prop
 | mk (i:Nat) (q:MR) (N:Kn) (es:List NE) (o1:Option V) (_:r=m+1 - i) (_:i<=m+1) (_:σ=[some (.ref Bm),some (.int m),some (.ref B.m),some (.ref mt),some (.int i),o1]) (_:Has H ((mt,.ext (NDict P w mt es))::(mL B y q++(N++L)))) (_:MQ q (W.go i s)) (_:q.tr.length<=i) (_:(W.hist i s).length=i) (_:(∀ a b,a<b->b<i->¬ Lk (W.go a s) (W.go b s))) (_:es.length=i) (_:(∀ k,k<i->∃ b,(b,cO (W.go k s),(k:Int)) ∈ es)) (_:(∀ x ∈ es,∃ k,k<i/\x.2=(cO (W.go k s),(k:Int))/\NMem (N++L) x.1 x.2.1)):dueInv P w Bm B mt L W s y m r σ H
section
variable {P:Program}{w:World}{K:PySem.W.Frag}{mg:Str->Option Value}{base:Heap}{t:Adr}
theorem scRe:FnScope ["_law_m"] ["_law_m"] (aj rZ):={}
theorem ub (T:Txt K mg t):FnOk P w K mg base CX0 1 t.f_Jc1 t.d_Jc1 ["_law_m"] sp_Jc1:=by
 refine T.F_Jc1.ok scRe (fun vs H Q E h=>?_) (fun cdv A outer s H vs Q E hr h=>?_)
 ·obtain⟨_,_,_,_,_,_,rfl,_⟩:=h
  rfl
 ·obtain⟨B,W,s0,y,q0,L,rfl,hH,R,M,pe,hn,q⟩:=h
  have hu:=bi hr
  refine⟨_,(ae (au (ak cm (aB (aq hu (pv 0) ah)) aK (am _))
    (ag (ap ah))
    al)
   (ae (au (ak bp (aq hu (aB (aq hu (pv 0) ah (fun _ _=>rfl))) (aR bn (aB (aq hu (pv 0) ah (fun _ _=>rfl))) ai)) ah (am _))
    (ag (ap ah))
    al)
   (ag (ap ah)))),?_⟩
  rw[show L2.start ["_law_m"] [V.ref B.m]=([some (V.ref B.m)]:St) from rfl]
  have qa:=M.at_
  have g0:=hH.get 0 rfl
  refine⟨_,⟨_,U,gI g0⟩,U,_,U,?_⟩
  cases hz:s0.at_ with
  | none=>
   rw[hz] at qa
   rw[(dH (w:=W) hz).2] at q
   exact ifT (decide_eq_true qa) q
  | some z=>
   rw[hz] at qa
   obtain⟨k,hk,e0,e1⟩:=R.eo z hz
   have qa:q0.at_=.ref z.1:=qa
   refine ifF (decide_eq_false (by rw[qa]; exact fun e=>nomatch e)) ?_
   have gz:H z.1=some (.tup [.int z.2.1,.int z.2.2]):=hH.at_ (z.1,HO.tup [.int z.2.1,.int z.2.2]) (wD _ (pe z hz))
   refine⟨_,⟨_,U,gv g0⟩,_,⟨_,U,gI g0⟩,z.1,_,_,_,qa,U,SqT.of gz,bh (j:=0) rfl,B.k,.str k.str,U,(by rw[<- R.kd _ _ hk]; exact DGet.k (k:=.inl z.2.1) (hH.get 1 U)),U,_,U,?_⟩
   rw[k.isStop]
   refine ifd (fun c=>?_) (fun c=>?_)
   ·rw[(db hz hk (out_stop.mpr c)).2] at q
    exact q
   ·obtain⟨o,ho⟩:=Kd.out_int c z.2.2 (W.sv s0 z.2.1)
    cases hm:W.mf z.2.1 o with
    | none=>
     rw[(cS hz hk ho hm).2] at q
     exact q
    | some z'=>
     rw[io hz hk ho hm] at hn
     cases hn
theorem scDu:FnScope ["_law_m","_law_most","_law_n","_law_met","_law_done","_law_stand"] ["_law_m","_law_most"] (aj rY):={}
theorem ua (T:Txt K mg t):FnOk P w K mg base CX0 4 t.f_due t.d_due ["_law_m","_law_most"] sp_due:=by
 refine T.F_due.ok scDu (fun vs H Q E h=>?_) (fun cdv A outer s H vs Q E hr h=>?_)
 ·obtain⟨_,_,_,_,_,_,_,rfl,_⟩:=h
  rfl
 ·obtain⟨B,W,s0,y,q0,L,m,rfl,hH,R,M,pm,pe,ek,rl,sl,ml,q⟩:=h
  have hu:=bi hr
  refine⟨_,(ae (ax (i:=2) scDu.nd rfl (Or.inl rfl) (pcl (ok_Je T) hr T.m_Je T.F_Je.kp (b_Je T) (aa (pv 0) af)))
   (ae (ax (i:=3) scDu.nd rfl (Or.inl rfl) (pc (P:=P) (w:=w) rfl rfl))
   (ae (ax (i:=4) scDu.nd rfl (Or.inl rfl) ai)
   (ae (cV PassesOwn.never (ak sA (pv 4) (pv 1) (am _))
    (ae (ax (i:=5) scDu.nd rfl (Or.inl rfl) (aF (aa (aB (aq hu (pv 2) ah)) (aa (aZ iZ (by rfl) T.z_tuple (by rfl) (aa (aB (aq hu (pv 2) ah)) af)) af))))
     (ae (au (bB (qQ (P:=P) (w:=w) rfl rfl hr.units (pv 5) (pv 3)))
      (ag (ap (aF (aa ah (aa (kn (P:=P) (w:=w) rfl rfl hr.units (pv 3) (pv 5) (fun _ _=>rfl)) (aa (aC dD (pv 4) (kn (P:=P) (w:=w) rfl rfl hr.units (pv 3) (pv 5) (fun _ _=>rfl))) af))))))
      al)
     (ae (oY (P:=P) (w:=w) rfl rfl hr.units (pv 3) (pv 5) (pv 4) rfl)
     (ae (au (bZ (bj (pcl (pD T) hr T.m_J31 T.F_J31.kp (sZ T) (aa (pv 2) af))))
      (ag (ap (aF (aa ah (aa (pcl (ub T) hr T.m_Jc1 T.F_Jc1.kp (b_Jc1 T) (aa (pv 2) af)) (aa (pv 4) af))))))
      al)
     (ag (ax (i:=4) scDu.nd rfl (Or.inl rfl) (aC ba (pv 4) ai))))))))
   (ag (ap (aF (aa ah (aa (pv 1) af))))))))),?_⟩
  rw[show L2.start ["_law_m","_law_most","_law_n","_law_met","_law_done","_law_stand"] [V.ref B.m,V.int (m:Int)]=([some (V.ref B.m),some (V.int (m:Int)),none,none,none,none]:St) from rfl]
  refine⟨_,U,B,y,q0,L,U,hH,ek,fun H1 B1 h1=>?_⟩
  dsimp only[List.set]
  refine fun mt hmt=>?_
  have h2:=h1.alloc hmt (.ext (NDict P w mt []))
  generalize upd H1 mt _=H2 at h2 ⊢
  dsimp only[List.set]
  obtain⟨L0,eL0⟩:∃ L0,mL B y q0++L=L0:=⟨_,U⟩
  have upL:∀ z ∈ L,z ∈ L0:=fun z hz=>by rw[<- eL0]; exact wD _ hz
  rw[eL0] at h2 q
  have pm:∀ n e z,W.mf n e=some z->(z.1,HO.tup [.int z.2.1,.int z.2.2]) ∈ L0:=fun n e z hz=>upL _ (pm n e z hz)
  have pe:∀ z,s0.at_=some z->(z.1,HO.tup [.int z.2.1,.int z.2.2]) ∈ L0:=fun z hz=>upL _ (pe z hz)
  have PL:Pool W s0 L0:=⟨fun n e z hz=>List.mem_iff_getElem?.mp (pm n e z hz),fun z hz=>List.mem_iff_getElem?.mp (pe z hz)⟩
  clear hH h1 upL eL0
  refine⟨dueInv P w B.m B1 mt L0 W s0 y m,⟨_,0,_,[],[],_,U,Nat.zero_le _,U,h2,⟨M.sd,M.at_,M.rg⟩,Nat.le_refl _,U,(fun a b _ hb=>absurd hb (Nat.not_lt_zero b)),U,(fun k hk=>absurd hk (Nat.not_lt_zero k)),(fun x hx=>nomatch hx)⟩,?_⟩
  clear h2 hmt
  rintro r σ H1 ⟨i,q1,N,es,o1,rfl,im,rfl,h1,M1,tl,on,un,el,ein,ex⟩
  obtain⟨s1,es1⟩:∃ s1,W.go i s0=s1:=⟨_,U⟩
  have O1:Okw W s1:=by rw[<- es1]; exact Okw.go i R.okw
  have P1:Pool W s1 L0:=by rw[<- es1]; exact PL.go' i
  have rl1:s1.rg.length<=500+i:=by rw[<- es1]; have:=dk W i s0; omega
  have sl1:s1.ss.length<=500:=by rw[<- es1,gD]; exact sl
  rw[es1] at M1
  refine⟨_,U,_,U,_,_,U,U,_,U,if2 (fun hc=>?_) (fun hc=>?_)⟩
  ·have hc:(i:Int)<=m:=of_decide_eq_true hc
   refine⟨fun σ' H'=>∃ r',r'<m+1 - i/\dueInv P w B.m B1 mt L0 W s0 y m r' σ' H',fun _ _ h=>h,?_⟩
   have g0:=h1.get 1 rfl
   refine⟨_,⟨_,U,gI g0⟩,_,⟨_,U,fS g0⟩,B1.s,_,U,.inl ⟨SqL.of (h1.get 5 U),fun tp htp=>?_⟩⟩
   have h2:=h1.alloc htp (.tup q1.sides)
   generalize upd H1 tp _=H2 at h2 ⊢
   refine⟨(show 2<=sizeLine by decide),fun sp hsp=>?_⟩
   have h3:=h2.alloc hsp (.tup [q1.at_,.ref tp])
   generalize upd H2 sp _=H3 at h3 ⊢
   dsimp only[List.set]
   obtain⟨N2,eN2⟩:∃ N2:Kn,(sp,HO.tup [q1.at_,.ref tp])::(tp,HO.tup q1.sides)::N=N2:=⟨_,U⟩
   have h4:Has H3 ((mt,HO.ext (NDict P w mt es))::(mL B1 y q1++(N2++L0))):=by
    subst eN2
    exact Has.comm (X:=[_,_]) (Y:=(mt,HO.ext (NDict P w mt es))::mL B1 y q1) (R:=N++L0) h3
   have up:∀ x ∈ N++L0,x ∈ N2++L0:=fun x hx=>by
    rw[<- eN2]
    exact wE _ (wE _ hx)
   have upL:∀ x ∈ L0,x ∈ N2++L0:=fun x hx=>wD _ hx
   have msp:(sp,HO.tup [q1.at_,.ref tp]) ∈ N2++L0:=by rw[<- eN2]; exact wJ
   have mtp:(tp,HO.tup ((s1.ss.map Sum.inl).map kV)) ∈ N2++L0:=by
    rw[uO,<- M1.sd,<- eN2]
    exact wE _ wJ
   clear h1 h2 h3 htp hsp eN2 g0
   obtain⟨y1,ey1⟩:∃ y1:YR,{ y with sides:=s1.ss.map V.int,eng:=enV s1.at_,rung:=s1.rg.map V.int }=y1:=⟨_,U⟩
   have R1:Rep W s1 y1:=by rw[<- ey1]; exact Rep.ofOkw R O1 rfl rfl rfl rfl rfl rfl rfl
   have emL:∀ q,mL B1 y q=mL B1 y1 q:=fun q=>by rw[<- ey1]; rfl
   have pm1:∀ (X:Addr×HO) n e z,W.mf n e=some z->(z.1,HO.tup [.int z.2.1,.int z.2.2]) ∈ X::(N2++L0):=fun X n e z hz=>wE _ (upL _ (pm n e z hz))
   have pe1:∀ (X:Addr×HO) z,s1.at_=some z->(z.1,HO.tup [.int z.2.1,.int z.2.2]) ∈ X::(N2++L0):=fun X z hz=>by
    obtain⟨j,hj⟩:=P1.e z hz
    exact wE _ (upL _ (wI hj))
   have fin:∀ {H5:Hp}{X:Addr×HO},Has H5 (mL B1 y1 q1++(X::(N2++L0)))->∀ p,H5 p=none->Q (.ref p) (upd H5 p (.tup [.str "held",W.why s1,.int i]))∨W.nx s1≠none:=fun {H5 X} h p hp=>by
    by_cases c:W.nx s1=none
    ·refine .inl (q _ p _ (.inl ⟨i,by omega,on,by rw[es1]; exact c,by rw[es1]⟩) (Has.sub (h.alloc hp _) (List.Sublist.cons₂ _ (List.Sublist.trans (List.Sublist.trans (List.sublist_append_right N2 L0) (List.Sublist.cons _ (List.Sublist.refl _))) (List.sublist_append_right _ _)))))
    ·exact .inr c
   have nm:NMem (N2++L0) sp (cO (W.go i s0)):=by
    rw[es1]
    refine⟨_,tp,msp,?_,mtp⟩
    rw[M1.at_]
    unfold cO
    cases hz1:s1.at_ with
    | none=>rfl
    | some z1=>
     obtain⟨j,hj⟩:=P1.e z1 hz1
     exact⟨z1.1,U,upL _ (wI hj)⟩
   have ex2:∀ x ∈ es,∃ k,k<i/\x.2=(cO (W.go k s0),(k:Int))/\NMem (N2++L0) x.1 x.2.1:=fun x hx=>by
    obtain⟨k,a,b,c⟩:=ex x hx
    exact⟨k,a,b,c.mono up⟩
   have allAt:∀ x ∈ es,NAt H3 x.1 x.2.1:=fun x hx=>by
    obtain⟨k,_,_,c⟩:=ex2 x hx
    exact(c.mono (fun y hy=>wE _ (wD _ hy))).at_ h4
   have nmA:NAt H3 sp (cO (W.go i s0)):=(nm.mono (fun y hy=>wE _ (wD _ hy))).at_ h4
   refine⟨_,U,_,U,mt,es,cO (W.go i s0),sp,U,U,h4.get 0 U,allAt,nmA,_,U,if2 (fun c=>?_) (fun c=>?_)⟩
   ·obtain⟨x,hx,ek⟩:=List.any_eq_true.mp c
    have ek:=of_decide_eq_true ek
    obtain⟨k,kl,ek2,_⟩:=ex2 x hx
    have e1:x.2.2=(k:Int):=by rw[ek2]
    have ek3:cO (W.go k s0)=cO (W.go i s0):=by rw[<- ek,ek2]
    have nmX:NAt H3 sp x.2.1:=by rw[ek]; exact nmA
    refine⟨_,U,_,U,mt,es,x,sp,U,U,h4.get 0 U,allAt,hx,nmX,_,U,_,U,_,U,mt,es,x,sp,U,U,h4.get 0 U,allAt,hx,nmX,_,_,U,U,(show 3<=sizeLine by decide),fun p hp=>q _ p _ (.inr (.inl ⟨k,i,kl,by omega,on,?_,un,?_⟩)) (Has.sub (h4.alloc hp _) (List.Sublist.cons₂ _ (List.Sublist.cons _ (List.Sublist.trans (List.sublist_append_right N2 L0) (List.sublist_append_right _ _)))))⟩
    ·exact pP ek3
    ·rw[e1]
   ·have nk:∀ x ∈ es,x.2.1≠cO (W.go i s0):=fun x hx e=>by
     have:=List.any_eq_false.mp c x hx
     exact this (decide_eq_true e)
    refine⟨_,U,_,U,_,U,mt,es,cO (W.go i s0),sp,(i:Int),U,U,U,h4.get 0 U,allAt,nmA,nk,Nat.le_of_lt (aS (by omega)),?_⟩
    obtain⟨es',ees⟩:∃ es':List NE,es++[(sp,cO (W.go i s0),(i:Int))]=es':=⟨_,U⟩
    rw[ees]
    have h5:=Has.inn (h4.put (.ext (NDict P w mt es')))
    generalize upd H3 mt _=H5 at h5 ⊢
    rw[emL] at h5
    refine⟨_,U,B1,W,s1,y1,q1,_,U,h5,R1,M1,pm1 _,pe1 _,by omega,by omega,by omega,fun hn H6 h6=>⟨_,U,cP ?_⟩,fun s' hs H6 b cc h6=>⟨_,U,bL ?_⟩⟩
    ·refine⟨_,U,B1,W,s1,y1,q1,_,U,h6,R1,M1,pe1 _,hn,_,U,(show 3<=sizeLine by decide),fun p hp=>?_⟩
     exact(fin h6 p hp).resolve_right (fun c=>c hn)
    ·refine⟨_,U,_,_,U,U,?_⟩
     dsimp only[List.set]
     have gs:=cq W i 1 s0
     have n2:W.nx (W.go i s0)=some s':=by rw[es1]; exact hs
     have e2:W.go (i+1) s0=s':=by rw[gs.1]; exact bD W n2 0
     have on2:(W.hist (i+1) s0).length=i+1:=by rw[gs.2,on,bg W n2 0]; rfl
     rw[<- emL] at h6
     have h7:Has H6 ((mt,HO.ext (NDict P w mt es'))::(mL B1 y ⟨s'.ss.map V.int,enV s'.at_,s'.rg.map V.int,q1.tr++[.ref b]⟩++(N2++L0))) :=
      Has.sub (Has.out (Y:=mL B1 y ⟨s'.ss.map V.int,enV s'.at_,s'.rg.map V.int,q1.tr++[.ref b]⟩++[(b,HO.tup [enV s1.at_,.ref cc,.int s1.rg.length]),(cc,HO.lst (s1.ss.map V.int))]) (R:=N2++L0) (bu h6 (by simp))) (List.Sublist.cons₂ _ (List.Sublist.append (List.sublist_append_left _ _) (List.Sublist.refl _)))
     refine⟨m+1 - (i+1),by omega,i+1,_,N2,es',some (.ref sp),U,by omega,U,h7,by rw[e2]; exact⟨U,U,U⟩,(by show(q1.tr++[V.ref b]).length<=i+1; rw[wK]; exact Nat.add_le_add_right tl 1),on2,fun a b hab hb=>?_,by rw[<- ees,wK,el]; rfl,fun k hk=>?_,fun x hx=>?_⟩
     ·by_cases c2:b<i
      ·exact un a b hab c2
      ·have eb:b=i:=by omega
       subst eb
       intro l
       obtain⟨y,hy⟩:=ein a hab
       exact nk _ hy (pT l)
     ·rw[<- ees]
      by_cases c2:k<i
      ·obtain⟨b,hb⟩:=ein k c2
       exact⟨b,wY _ hb⟩
      ·have ek:k=i:=by omega
       rw[ek]
       exact⟨sp,wD _ wJ⟩
     ·rw[<- ees] at hx
      rcases xb.mp hx with hx | hx
      ·obtain⟨k,a,b,c⟩:=ex2 x hx
       exact⟨k,by omega,b,c⟩
      ·rw[xh.mp hx]
       exact⟨i,by omega,U,nm⟩
  ·have hc:¬ (i:Int)<=m:=of_decide_eq_false hc
   have ei:i=m+1:=by omega
   subst ei
   exact⟨_,U,(show 2<=sizeLine by decide),fun p hp=>q _ p _ (.inr (.inr ⟨on,fun a b hab hb=>un a b hab (by omega),U⟩)) (Has.sub (h1.alloc hp _) (List.Sublist.cons₂ _ (List.Sublist.cons _ (List.Sublist.trans (List.sublist_append_right N L0) (List.sublist_append_right _ _)))))⟩
end
def msS:Setoid Kn:=⟨List.Perm,⟨List.Perm.refl,List.Perm.symm,List.Perm.trans⟩⟩
def Ms:Type:=Quotient msS
def Ms.mk (l:Kn):Ms:=Quotient.mk msS l
def Ms.one (z:Addr×HO):Ms:=Ms.mk [z]
def Ms.zero:Ms:=Ms.mk []
def Ms.add:Ms->Ms->Ms:=Quotient.lift₂ (s₁:=msS) (s₂:=msS) (fun x y=>Ms.mk (x++y)) (fun _ _ _ _ h1 h2=>Quotient.sound (s:=msS) (List.Perm.append h1 h2))
theorem Ms.app (a b:Kn):Ms.mk (a++b)=(Ms.mk a).add (Ms.mk b):=rfl
theorem Ms.cons (z:Addr×HO) (b:Kn):Ms.mk (z::b)=(Ms.one z).add (Ms.mk b):=rfl
theorem Ms.nil:Ms.mk []=Ms.zero:=rfl
theorem Ms.zl (a:Ms):Ms.zero.add a=a:=by
 induction a using Quotient.ind with | _ x=>rfl
theorem Ms.zr (a:Ms):a.add Ms.zero=a:=by
 induction a using Quotient.ind with | _ x=>exact congrArg Ms.mk (wU x)
instance:Std.Associative Ms.add:=⟨fun a b c=>by
 induction a using Quotient.ind with | _ x=>induction b using Quotient.ind with | _ y=>induction c using Quotient.ind with | _ z=>exact congrArg Ms.mk (wG x y z)⟩
instance:Std.Commutative Ms.add:=⟨fun a b=>by
 induction a using Quotient.ind with | _ x=>induction b using Quotient.ind with | _ y=>exact Quotient.sound (s:=msS) (List.perm_append_comm (l₁:=x) (l₂:=y))⟩
theorem Ms.perm {a b:Kn} (h:Ms.mk a=Ms.mk b):a.Perm b:=Quotient.exact h
theorem Has.ac {H:Hp}{a b:Kn} (h:Has H a) (e:Ms.mk a=Ms.mk b):Has H b:=h.perm (Ms.perm e)
theorem mY (O:Okw w s) (h:w.nx s=none):w.why s=.str "none" ∨ w.why s=.str "stop" ∨ w.why s=.str "loose":=by
 cases hz:s.at_ with
 | none=>exact .inl (dH hz).2
 | some z=>
  obtain⟨k,hk,_⟩:=O.eo z hz
  by_cases c:k.out z.2.2 (w.sv s z.2.1)=.non
  ·exact .inr (.inl (db hz hk c).2)
  ·obtain⟨o,ho⟩:=Kd.out_int (k:=k) (fun e=>c (by unfold Kd.out; rw[if_pos e])) z.2.2 (w.sv s z.2.1)
   cases hm:w.mf z.2.1 o with
   | none=>exact .inr (.inr (cS hz hk ho hm).2)
   | some z'=>rw[io hz hk ho hm] at h; cases h
structure FD (K:PySem.W.Frag) (xs:List V) (d:PyData):Prop where
 dv:∀ (H:Hp) p,H p=some (.tup xs)->DV K H d (.ref p)
 lay:d.canLay0=true
 sh:SeqAt.shaped d=true
 l:∃ n,atI xs (-1)=some (.int n)
variable{K:PySem.W.Frag}
theorem FD.of (l:List (PyData×V)) (n:Int) (hv:∀ x ∈ l,∀ H:Hp,DV K H x.1 x.2) (hl:∀ x ∈ l,x.1.canLay0=true/\x.1.depth<=2) (hn:atI (l.map (·.2)) (-1)=some (.int n)):FD K (l.map (·.2)) (.tuple (l.map (·.1))):=by
 have a:(PyData.tuple (l.map (·.1))).canLay0=true:=by rw[PyData.canLay0]; exact fo _ _ fun x hx=>(hl x hx).1
 have b:(PyData.tuple (l.map (·.1))).depth<=3:=by rw[PyData.depth]; have:=f6 (fun x:PyData×V=>x.1) 2 l (fun x hx=>(hl x hx).2); omega
 refine⟨fun H p h=>?_,a,i8 a (by omega),n,hn⟩
 unfold DV
 exact⟨p,_,U,SqT.of h,DVs.map (·.1) (·.2) l fun x hx=>hv x hx H⟩
theorem FD.fr {K:PySem.W.Frag}{m:Nat}{xs:List V} (O:Okw w s) (f:FR w s m xs):∃ d,FD K xs d:=by
 have dS:∀ (x:Str) (H:Hp),DV K H (.str x) (.str x):=fun x H=>by unfold DV; rfl
 have dI:∀ (i:Int) (H:Hp),DV K H (.int i) (.int i):=fun i H=>by unfold DV; rfl
 have lI:∀ i:Int,(PyData.int i).canLay0=true/\(PyData.int i).depth<=2:=fun i=>by simp[PyData.canLay0,PyData.depth]
 have lS:∀ x:Str,PyData.strOk x=true->(PyData.str x).canLay0=true/\(PyData.str x).depth<=2:=fun x h=>⟨by rw[PyData.canLay0]; exact h,by simp[PyData.depth]⟩
 have three:∀ (a:Str) (x:PyData×V) (n:Int),PyData.strOk a=true->(∀ H:Hp,DV K H x.1 x.2)->(x.1.canLay0=true/\x.1.depth<=2)->∃ d,FD K [.str a,x.2,.int n] d:=fun a x n ha hx hl=>⟨_,FD.of [(.str a,.str a),x,(.int n,.int n)] n (fun y hy=>by
  simp only[wP,wZ,or_false] at hy
  rcases hy with rfl | rfl | rfl
  ·exact dS a
  ·exact hx
  ·exact dI n) (fun y hy=>by
  simp only[wP,wZ,or_false] at hy
  rcases hy with rfl | rfl | rfl
  ·exact lS a ha
  ·exact hl
  ·exact lI n) rfl⟩
 rcases f with ⟨n,n1,n2,n3,rfl⟩ | ⟨mu,lam,C,c,rfl⟩ | ⟨o1,o2,rfl⟩
 ·rcases mY (Okw.go n O) n3 with e | e | e <;> rw[e]
  ·exact three "held" (.str "none",.str "none") n (by decide +kernel) (dS _) (lS _ (by decide +kernel))
  ·exact three "held" (.str "stop",.str "stop") n (by decide +kernel) (dS _) (lS _ (by decide +kernel))
  ·exact three "held" (.str "loose",.str "loose") n (by decide +kernel) (dS _) (lS _ (by decide +kernel))
 ·exact three "round" (.int mu,.int mu) lam (by decide +kernel) (dI _) (lI _)
 ·exact⟨_,FD.of [(.str "open",.str "open"),(.int m,.int m)] m (fun y hy=>by
   simp only[wP,wZ,or_false] at hy
   rcases hy with rfl | rfl
   ·exact dS _
   ·exact dI _) (fun y hy=>by
   simp only[wP,wZ,or_false] at hy
   rcases hy with rfl | rfl
   ·exact lS _ (by decide +kernel)
   ·exact lI _) rfl⟩
inductive sp_lawTs (K:PySem.W.Frag) (Ts:List Addr) (vs:List V) (H:Hp) (Q:VK) (E_:XK):Prop
 | mk (a:Addr) (ns:List Int) (_:vs=[.ref a]) (_:SqL K H a (ns.map V.int)) (_:ns.length<=63) (_:(∀ p ∈ Ts,H p=some (.tbl #[]))) (_:∀ H',Q (.bl true) H'):sp_lawTs K Ts vs H Q E_
variable{mg:Str->Option Value}
theorem nB {t:Adr} (T:Txt K mg t) (s:Shared) (u:Value):BindsTo s t.d_law ⟨[u],[]⟩ [("_law_script",u)]:=by
 obtain⟨oc,od,kV,doc,pm,an,cdv,ct,osl,e,lk,hcd⟩:=T.F_law.ex
 rw[e,T.e_law]
 exact .of_eq rfl
theorem Tbs.start {t:Adr} (T:Txt K mg t) {H:Hp} (hT:∀ p ∈ [t.p_lay,t.p_link,t.p_J91,t.p_lift,t.p_put,t.p_throw],H p=some (.tbl #[])):∃ Lt,Has H Lt/\Tbs t Lt :=
 ⟨[(t.p_lay,.tbl #[]),(t.p_link,.tbl #[]),(t.p_J91,.tbl #[]),(t.p_lift,.tbl #[]),(t.p_put,.tbl #[]),(t.p_throw,.tbl #[])],
  ⟨by simp[T.dj_lay_link,T.dj_lay_J91,T.dj_lay_lift,T.dj_lay_put,T.dj_lay_throw,T.dj_link_J91,T.dj_link_lift,T.dj_link_put,T.dj_link_throw,T.dj_J91_lift,T.dj_J91_put,T.dj_J91_throw,T.dj_lift_put,T.dj_lift_throw,T.dj_put_throw],by simp[hT t.p_lay (by simp),hT t.p_link (by simp),hT t.p_J91 (by simp),hT t.p_lift (by simp),hT t.p_put (by simp),hT t.p_throw (by simp)]⟩,
  ⟨.new (by simp),.new (by simp),.new (by simp),.new (by simp),.new (by simp),.new (by simp)⟩⟩
section
variable {P:Program}{w:World}{K:PySem.W.Frag}{mg:Str->Option Value}{base:Heap}{t:Adr}
theorem scLa:FnScope ["_law_script","_law_d","_law_yard","_law_m","_law_good","_law_most","_law_turn_here","_law_found"] ["_law_script"] (aj rX):={}
theorem t9 (T:Txt K mg t) (kb:K.In base) (hbm:BM base mg):FnOk P w K mg base CX0 15 t.f_law t.d_law ["_law_script"] (sp_lawTs K [t.p_lay,t.p_link,t.p_J91,t.p_lift,t.p_put,t.p_throw]):=by
 have ok_turn:∀ (T:Txt K mg t),FnOk P w K mg base CX0 13 t.f_turn t.d_turn ["_law_yard","_law_m","_law_d","_law_at"] (sp_turn t):=fun T=>kr T kb hbm
 have ok_begun:∀ (T:Txt K mg t),FnOk P w K mg base CX0 14 t.f_begun t.d_begun ["_law_d","_law_deeds"] (sp_begun t):=fun T=>nj T kb hbm
 refine T.F_law.ok scLa (fun vs H Q E h=>?_) (fun cdv A outer s H vs Q E hr h=>?_)
 ·obtain⟨_,_,rfl,_⟩:=h
  rfl
 ·obtain⟨a,ns,rfl,hS,hns,hT,q⟩:=h
  obtain⟨Lt,h0,tb0⟩:=Tbs.start T hT
  refine⟨_,(ae (ax (i:=1) scLa.nd rfl (Or.inl rfl) (pcl (pw T) hr T.m_draws T.F_draws.kp (rB T) (aa (pv 0) (aa ai af))))
   (ae (cD (pcl (ok_begun T) hr T.m_begun T.F_begun.kp (rC T) (aa (pv 1) (aa (aC bt (aR bc (pv 1) ai) ai) af))) (dC rfl (aU (aI (i:=2) scLa.nd rfl (Or.inl rfl)) (aU (aI (i:=3) scLa.nd rfl (Or.inl rfl)) (aU (aI (i:=4) scLa.nd rfl (Or.inl rfl)) cL)))))
   (ae (ax (i:=5) scLa.nd rfl (Or.inl rfl) (aC bt (aR bc (pv 1) ai) ai))
   (ae (cK PassesOwn.never rfl (cu (by rfl) T.z_range (aa ai af)) (aI (i:=6) scLa.nd rfl (Or.inl rfl))
    (ae (ax (i:=7) scLa.nd rfl (Or.inl rfl) (pcl (lY T) hr T.m_fate T.F_fate.kp (qt T) (aa (pv 2) (aa (pv 5) af))))
     (ae (au (PW.pt (cQ (bZ (bj (ay eV (by rfl) T.z_isinstance (by rfl) (aa (pv 7) (aa (eW (v:=.ty "tuple") (by rfl) T.z_tuple (by rfl) rfl) af))))) (cQ (ak (eN hr.units) (pv 7) (pcl (ua T) hr T.m_due T.F_due.kp (b_due T) (aa (pv 3) (aa (pv 5) af))) (am _)) (ck (ak (eN hr.units) (pcl (lY T) hr T.m_fate T.F_fate.kp (qt T) (aa (pcl (gU T) hr T.m_twin T.F_twin.kp (jY T) (aa (pv 2) af)) (aa (pv 5) af))) (pv 7) (am _))))))
      (ag (ap cM))
      al)
     (ae (au (PW.pt (cQ (bZ (bj (pcl (ko T) hr T.m_whole T.F_whole.kp (mP T) (aa (aR bn (pv 7) (pe_un tm ai)) af)))) (ck (bZ (bj (pcl (pC T) hr T.m_J71 T.F_J71.kp (sY T) (aa (pv 2) (aa (pv 3) af))))))))
      (ag (ap cM))
      al)
     (ae (bo (au (PW.pt (bM (ak bp (aC bt (aR bc (pv 1) (aC ba ai (pv 6))) ai) ai (am _)) (bq (bZ (bj (pcl (pB T) hr T.m_J81 T.F_J81.kp (sX T) (aa (pv 2) (aa (pv 3) (aa (aC ba ai (aC bt (aC fQ (aR bc (pv 1) (aC ba ai (pv 6))) ai) ai)) af)))))))))
      (ag (ap cM))
      al))
     (ae (au (bZ (bj (pcl (pC T) hr T.m_J71 T.F_J71.kp (sY T) (aa (pv 2) (aa (pv 3) af)))))
      (ag (ap cM))
      al)
     (ag (ax (i:=4) scLa.nd rfl (Or.inl rfl) (fA (pcl (ok_turn T) hr T.m_turn T.F_turn.kp (qq T) (aa (pv 2) (aa (pv 3) (aa (pv 1) (aa (aC ba ai (aC fB ai (pv 6))) af))))) (fz (pv 4)))))))))))
   (ag (ap (pv 4))))))),?_⟩
  rw[show L2.start ["_law_script","_law_d","_law_yard","_law_m","_law_good","_law_most","_law_turn_here","_law_found"] [V.ref a]=([some (V.ref a),none,none,none,none,none,none,none]:St) from rfl]
  refine⟨_,U,a,ns,110,_,U,hS,hns,by decide,by decide,h0,fun H1 d ds h1 hds hdr=>?_⟩
  dsimp only[List.set]
  have hds:ds.length=110:=hds
  have mdn:NT (d,HO.lst (ds.map V.int)):=fun _ e=>nomatch e
  obtain⟨x,hx⟩:=qw (ds:=ds) (i:=100) (by decide) (by omega)
  have a0:=Int.emod_nonneg x (show(15:Int)≠0 by decide)
  have a1:=Int.emod_lt_of_pos x (show(0:Int)<15 by decide)
  obtain⟨n,hn⟩:∃ n:Nat,x % 15=n:=⟨(x % 15).toNat,by omega⟩
  refine⟨_,U,_,U,d,_,_,_,U,U,SqL.of (h1.get 0 U),hx,_,_,U,U,(show(0:Int)<15 by decide),_,d,ds,n,congrArg (fun z=>[V.ref d,V.int z]) hn,h1,tb0.mono (fun z hz=>wE _ hz),wJ,by omega,by omega,fun H2 p M tp h2 G tb up=>?_⟩
  have md:=up _ wJ (.inl mdn)
  refine⟨tp,_,U,SqT.of (h2.get 0 U),U,_,_,U,_,_,U,_,_,U,U,?_⟩
  dsimp only[List.set]
  replace h2:=h2.tail
  have G:=G.more (show 4+n<=20+2*0 by omega)
  have gd:∀ {H':Hp}{X M:Kn},Has H' (X++M)->(d,HO.lst (ds.map V.int)) ∈ M->SqL K H' d (ds.map V.int):=fun h m=>SqL.of (h.at_ _ (wD _ m))
  obtain⟨x1,hx1⟩:=qw (ds:=ds) (i:=101) (by decide) (by omega)
  have b0:=Int.emod_nonneg x1 (show(61:Int)≠0 by decide)
  have b1:=Int.emod_lt_of_pos x1 (show(0:Int)<61 by decide)
  refine⟨_,U,d,_,_,_,U,U,gd h2 md,hx1,_,_,U,U,(show(0:Int)<61 by decide),?_⟩
  dsimp only[List.set]
  obtain⟨mo,hmo⟩:∃ mo:Nat,x1 % 61=mo:=⟨(x1 % 61).toNat,by omega⟩
  rw[hmo]
  obtain⟨Pv,ePv⟩:∃ Pv:Nat->St->Hp->Prop,Pv=fun c σ H'=>∃ (p:Pr) (M:Kn) (o6 o7:Option V),σ=[some (.ref a),some (.ref d),some (.ref p.A.p),some (.ref p.B.m),some (.bl true),some (.int mo),o6,o7]/\Has H' (p.X t.c_Yard++M)/\p.G M (20+2*c)/\Tbs t M/\(d,HO.lst (ds.map V.int)) ∈ M:=⟨_,U⟩
  refine⟨_,U,by decide,by decide,cw (fun i σ H'=>Pv i σ H') (by rw[ePv]; exact⟨p,M,_,_,U,h2,G,tb,md⟩) ?_ ?_⟩
  ·clear h2 G tb md h1
   intro i σ H2 hi hp
   rw[ePv] at hp
   obtain⟨p,M,o6,o7,rfl,h6,G,tb,md⟩:=hp
   rw[Int.zero_add]
   have hi:i<3:=hi
   have S:=G.st
   obtain⟨st,est⟩:∃ st,p.w.go p.ts.length p.s0=st:=⟨_,U⟩
   have R:=S.rep
   have MQ1:=S.mq
   rw[est] at R MQ1
   have ek:=G.ek (by omega)
   have lg:=G.lg
   have ls:=G.ls
   have rgl:st.rg.length<=500:=by rw[R.rg,wF] at lg; omega
   have ssl:st.ss.length<=500:=by rw[R.sd,wF] at ls; omega
   have PL:Pool p.w st M:=by
    rw[<- est]
    exact Pool.go' _ ⟨fun n e z hz=>List.getElem?_of_mem (S.pm n e z hz),fun z hz=>List.getElem?_of_mem (S.pe z hz)⟩
   have peM:∀ z,st.at_=some z->(z.1,HO.tup [.int z.2.1,.int z.2.2]) ∈ M:=fun z hz=>by
    obtain⟨j,hj⟩:=PL.e z hz
    exact wI hj
   have h7:=Has.comm (X:=mL p.B p.y p.q++mtK p.ms) (Y:=yL t.c_Yard p.A p.y) (R:=trK p.w p.ts++M) (bu h6 (by unfold Pr.X; simp only[wG]))
   refine⟨_,U,_,U,p.A,p.y,_,p.w,st,(mo:Int),U,h7,R,(PL.app _).app _,ek,by omega,by omega,fun H8 fp xs fr h8=>?_⟩
   rw[Int.toNat_natCast] at fr
   dsimp only[List.set]
   obtain⟨D,FDx⟩:=FD.fr (K:=K) R.okw fr
   have h9:Has H8 (yL t.c_Yard p.A p.y++(mL p.B p.y p.q++((fp,HO.tup xs)::(mtK p.ms++(trK p.w p.ts++M))))):=by
    exact bu (Has.inn (x:=(fp,HO.tup xs)) (Y:=yL t.c_Yard p.A p.y++mL p.B p.y p.q) (R:=mtK p.ms++(trK p.w p.ts++M)) (bu h8 (by simp only[wG]))) (by simp only[wG])
   clear h8 h7
   obtain⟨M2,eM2⟩:∃ M2:Kn,(fp,HO.tup xs)::(mtK p.ms++(trK p.w p.ts++M))=M2:=⟨_,U⟩
   have mfp:(fp,HO.tup xs) ∈ M2:=by rw[<- eM2]; exact wJ
   have upM:∀ z ∈ M,z ∈ M2:=fun z hz=>by rw[<- eM2]; simp[hz]
   have P2:Pool p.w st M2:=⟨fun n e z hz=>List.getElem?_of_mem (upM _ (S.pm n e z hz)),fun z hz=>List.getElem?_of_mem (upM _ (peM z hz))⟩
   rw[eM2] at h9
   have gf:∀ {H':Hp}{X Y:Kn},Has H' (X++(Y++M2))->H' fp=some (.tup xs):=fun h=>h.at_ (fp,HO.tup xs) (wD _ (wD _ mfp))
   refine⟨_,U,_,_,_,_,U,.tup (gf h9),pS K,_,U,bL ?_⟩
   have h10:=Has.comm h9
   refine⟨_,U,_,U,_,U,p.B,p.w,st,p.y,p.q,_,mo,U,h10,R,MQ1,(fun n e z hz=>wD _ (upM _ (S.pm n e z hz))),(fun z hz=>wD _ (upM _ (peM z hz))),ek,rgl,ssl,by omega,fun H11 dp ys dr h11=>?_⟩
   have ey:=DR.eq fr dr
   refine⟨D,D,FDx.dv _ _ (gf (X:=(dp,HO.tup ys)::mL p.B p.y p.q) h11),(by rw[<- ey] at h11; exact FDx.dv _ _ (h11.get 0 U)),FDx.sh,FDx.sh,?_⟩
   rw[uT _ FDx.lay]
   refine⟨_,U,bL ?_⟩
   have h12:=Has.comm h11.tail
   clear h9 h10
   refine⟨_,U,p.A,p.y,_,U,h12,ek,fun H13 A2 h13=>?_⟩
   refine⟨_,U,A2,{ p.y with trail:=[] },_,p.w,st,(mo:Int),U,h13,R.twin,(P2.app _).app _,ek,by omega,by omega,fun H14 gp zs fr2 h14=>?_⟩
   rw[Int.toNat_natCast] at fr2
   have ez:=DR.eq fr2 dr
   have gf2:H14 fp=some (.tup xs):=h14.at_ (fp,HO.tup xs) (wE _ (wD _ (wD _ (wD _ mfp))))
   refine⟨_,U,D,D,(by rw[ez,<- ey] at h14; exact FDx.dv _ _ (h14.get 0 U)),FDx.dv _ _ gf2,FDx.sh,FDx.sh,?_⟩
   rw[uT _ FDx.lay]
   refine⟨_,U,bL ?_⟩
   have h15:Has H14 (p.X t.c_Yard++((fp,HO.tup xs)::M)):=by
    have h1:=Has.right (X:=yL t.c_Yard A2 { p.y with trail:=[] }) h14.tail
    rw[<- eM2] at h1
    exact Has.ac h1 (by unfold Pr.X; simp only[Ms.app,Ms.cons,Ms.nil,Ms.zl,Ms.zr]; ac_rfl)
   clear h14 h13 h12 h11 h6 gf gf2 mfp upM P2 eM2
   obtain⟨n9,hn9⟩:=FDx.l
   refine⟨_,U,_,U,fp,_,_,_,U,U,SqT.of (h15.at_ (fp,HO.tup xs) (by simp)),hn9,_,U,_,U,bL ?_⟩
   have G1:p.G ((fp,HO.tup xs)::M) (20+2*i):=Pr.G.z (Z:=[(fp,HO.tup xs)]) G
   obtain⟨KS,hKS⟩:=G.kk
   refine⟨_,U,_,U,p.A,p.B,p.w,p.s0,p.ts,p.ms,p.y,p.q,_,KS,U,Pr.has h15,G1.st,G.kf,hKS,G.small (by omega),by omega,fun H16 h16=>⟨_,U,bL ?_⟩⟩
   replace h16:=Pr.has' h16
   have h17:Has H16 (p.X t.c_Yard++M):=(Has.out h16).tail
   clear h16 h15 G1 hKS
   obtain⟨x2,hx2⟩:=qw (ds:=ds) (i:=102+(i:Int)) (by omega) (by omega)
   refine⟨fun σ' H'=>∃ p:Pr,σ'=[some (.ref a),some (.ref d),some (.ref p.A.p),some (.ref p.B.m),some (.bl true),some (.int mo),some (.int (i:Int)),some (.ref fp)]/\Has H' (p.X t.c_Yard++M)/\p.G M (20+2*i+1),?_,?_⟩
   ·refine⟨_,U,_,U,_,_,U,U,d,_,_,_,U,U,gd h17 md,hx2,_,_,U,U,(show(0:Int)<2 by decide),U,_,U,if2 (fun _=>?_) (fun _=>bL ⟨p,U,h17,G.more (by omega)⟩)⟩
    refine⟨_,U,_,U,_,U,_,U,_,_,U,U,d,_,_,_,U,U,gd h17 md,hx2,_,_,U,U,⟨by decide,by decide⟩,_,_,U,U,(show(0:Int)<4 by decide),_,_,U,U,p.A,p.B,p.w,p.s0,p.ts,p.ms,p.y,p.q,M,_,U,Pr.has h17,S,(by have:=G.lt; omega),by omega,by omega,fun H18 B' ts' ms' y' q' eB h18 S' l1 l2 l3 e1 e2 e3 e4 e5=>⟨_,U,bL ⟨⟨p.A,B',p.w,p.s0,ts',ms',y',q'⟩,?_,Pr.has' h18,?_⟩⟩⟩
    ·dsimp only[List.set]; rw[eB]
    ·exact G.same S' rfl G.sy e1 e2 e3 e4 (by rw[e5]; omega) l3 (Nat.le_add_right_of_le l2) (Nat.le_add_right_of_le l1) (by rw[e5]; exact G.km)
   clear h17 G S R MQ1 ek lg ls rgl ssl PL peM fr FDx est
   rintro σ1 H3 ⟨p,rfl,h6,G⟩
   obtain⟨KS,hKS⟩:=G.kk
   refine⟨_,U,_,U,p.A,p.B,p.w,p.s0,p.ts,p.ms,p.y,p.q,_,KS,U,Pr.has h6,G.st,G.kf,hKS,G.small (by omega),(by have:=G.lg; omega),fun H4 h7=>⟨_,U,bL ?_⟩⟩
   replace h7:=Pr.has' h7
   refine⟨_,U,_,U,_,U,_,U,_,_,U,U,.inl ⟨by decide,by decide⟩,_,_,U,U,p.A,p.B,p.w,p.s0,p.ts,p.ms,p.y,p.q,[]++M,20+2*i+1,d,ds,80+5*(i:Int),U,Pr.has h7,G,tb,md,by omega,by omega,by omega,rM (t:=t) (Z:=[]) (M:=M) h7 (fun _ h=>nomatch h) (fun H8 p8 M8 eA eB h8 G8 tb8 K8=>?_)⟩
   refine⟨_,U,cP ⟨_,U,?_⟩⟩
   rw[ePv]
   refine⟨p8,M8,some (.int (i:Int)),some (.ref fp),?_,h8,G8,tb8,K8 _ md (.inl mdn)⟩
   dsimp only[List.set]; rw[eA,eB]
  ·clear h2 G tb md
   intro σ H2 hp
   rw[ePv] at hp
   obtain⟨p,M,o6,o7,rfl,h6,G,tb,md⟩:=hp
   exact⟨_,U,q _⟩
end
theorem finFs {P:Program}{w:World}{fa:Addr}{Ts0:List Addr} (hmg:mg "law" = some (.ref fa)) (h:∃ t,Txt K mg t/\t.p_lay ∈ Ts0/\t.p_link ∈ Ts0/\t.p_J91 ∈ Ts0/\t.p_lift ∈ Ts0/\t.p_put ∈ Ts0/\t.p_throw ∈ Ts0) :
  ∃ (fd:FuncData) (Ts:List Addr),(∀ p ∈ Ts,p ∈ Ts0/\K.lookup p=none/\∃ c,W.codeHdIn K c p=true)/\(∀ (s:Shared) (u:Value),BindsTo s fd ⟨[u],[]⟩ [("_law_script",u)]) /\
   (∀ base:Heap,K.In base->base.Ns mainGlobals mg->BM base mg->FnOk P w K mg base CX0 15 fa fd ["_law_script"] (sp_lawTs K Ts)) /\
   ∀ (H:Hp) (a:Addr) (ns:List Int),ns.length<=63->(∀ p ∈ Ts,H p=some (.tbl #[]))->SqL K H a (ns.map V.int)->sp_lawTs K Ts [.ref a] H (fun v _=>v=.bl true) fun _ _ _=>False:=by
 obtain⟨t,T,m1,m2,m3,m4,m5,m6⟩:=h
 have e0:=hmg.symm.trans T.m_law
 cases e0
 obtain⟨c1,_,hc1⟩:=T.tb_lay
 obtain⟨c2,_,hc2⟩:=T.tb_link
 obtain⟨c3,_,hc3⟩:=T.tb_J91
 obtain⟨c4,_,hc4⟩:=T.tb_lift
 obtain⟨c5,_,hc5⟩:=T.tb_put
 obtain⟨c6,_,hc6⟩:=T.tb_throw
 refine⟨_,[t.p_lay,t.p_link,t.p_J91,t.p_lift,t.p_put,t.p_throw],fun p hp=>?_,fun s u=>nB T s u,fun base kb nb hbm=>t9 T kb hbm,fun H a ns hl hT hS=>⟨a,ns,U,hS,hl,hT,fun _=>rfl⟩⟩
 simp only[wP,wZ,or_false] at hp
 rcases hp with rfl | rfl | rfl | rfl | rfl | rfl
 ·exact⟨m1,T.tn_lay,c1,hc1⟩
 ·exact⟨m2,T.tn_link,c2,hc2⟩
 ·exact⟨m3,T.tn_J91,c3,hc3⟩
 ·exact⟨m4,T.tn_lift,c4,hc4⟩
 ·exact⟨m5,T.tn_put,c5,hc5⟩
 ·exact⟨m6,T.tn_throw,c6,hc6⟩
abbrev ad {A0 A3 A5 A7 A9 Ab Ad Af Ah Ak Am Ao Aq As Au Aw Ay A10 A12 A14 A16 A18 A1a A1c A1e A1g A1i A1k A1m A1o A1q A1s A1u A1w A1y A20 A22 A24 A26 A28 A2a A2c A2e A2g A2i A2k A2m A2o A2q A2t A2v A2x A30 A32 A34 A36 A38 A3a A3c A3e A3g A3i A3k A3m A3o A3q A3s A3u A3w A3y A40 A42 A44 A46 A47 A48 A49 A4a A4b A4c A4d A4e A4f A4g A4h A4i A4j A4k A4l A4m A4n A4o A4p A4q A4r A4s A4t A4u A4v A4w A4x A4y A4z:Addr}{D1 D4 D6 D8 Da Dc De Dg Di Dl Dn Dp Dr Dt Dv Dx Dz D11 D13 D15 D17 D19 D1b D1d D1f D1h D1j D1l D1n D1p D1r D1t D1v D1x D1z D21 D23 D25 D27 D29 D2b D2d D2f D2h D2j D2l D2n D2p D2r D2u D2w D2y D31 D33 D35 D37 D39 D3b D3d D3f D3h D3j D3l D3n D3p D3r D3t D3v D3x D3z D41 D43 D45:FuncData}{V2 Vj V2s V2z V50 V51 V52 V53:Value}:Adr:=⟨A0,D1,V2,A3,D4,A5,D6,A7,D8,A9,Da,Ab,Dc,Ad,De,Af,Dg,Ah,Di,Vj,Ak,Dl,Am,Dn,Ao,Dp,Aq,Dr,As,Dt,Au,Dv,Aw,Dx,Ay,Dz,A10,D11,A12,D13,A14,D15,A16,D17,A18,D19,A1a,D1b,A1c,D1d,A1e,D1f,A1g,D1h,A1i,D1j,A1k,D1l,A1m,D1n,A1o,D1p,A1q,D1r,A1s,D1t,A1u,D1v,A1w,D1x,A1y,D1z,A20,D21,A22,D23,A24,D25,A26,D27,A28,D29,A2a,D2b,A2c,D2d,A2e,D2f,A2g,D2h,A2i,D2j,A2k,D2l,A2m,D2n,A2o,D2p,A2q,D2r,V2s,A2t,D2u,A2v,D2w,A2x,D2y,V2z,A30,D31,A32,D33,A34,D35,A36,D37,A38,D39,A3a,D3b,A3c,D3d,A3e,D3f,A3g,D3h,A3i,D3j,A3k,D3l,A3m,D3n,A3o,D3p,A3q,D3r,A3s,D3t,A3u,D3v,A3w,D3x,A3y,D3z,A40,D41,A42,D43,A44,D45,A46,A47,A48,A49,A4a,A4b,A4c,A4d,A4e,A4f,A4g,A4h,A4i,A4j,A4k,A4l,A4m,A4n,A4o,A4p,A4q,A4r,A4s,A4t,A4u,A4v,A4w,A4x,A4y,A4z,V50,V51,V52,V53⟩
variable{sl:Array (Option Value)}
theorem dm_Jx {v:Value}{T:Addr}{od:Option Addr}{n:Nat}{tk0:Tok} (e:v=.ref T) (l:K.lookup T=some ⟨.type "tuple",od,.seq #[.int 0 tk0,.none] n,sl⟩):∃ (T:Addr) (od:Option Addr) (n:Nat) (sl:Array (Option Value)) (tk0:Tok),v=.ref T/\K.lookup T=some ⟨.type "tuple",od,.seq #[.int 0 tk0,.none] n,sl⟩:=⟨T,od,n,sl,tk0,e,l⟩
theorem dm_J9 {v:Value}{T:Addr}{od:Option Addr}{n:Nat}{tk0:Tok} (e:v=.ref T) (l:K.lookup T=some ⟨.type "tuple",od,.seq #[.int 1 tk0] n,sl⟩):∃ (T:Addr) (od:Option Addr) (n:Nat) (sl:Array (Option Value)) (tk0:Tok),v=.ref T/\K.lookup T=some ⟨.type "tuple",od,.seq #[.int 1 tk0] n,sl⟩:=⟨T,od,n,sl,tk0,e,l⟩
theorem tpm {u:Value}{a:Addr}{od:Option Addr}{its:Array Value}{n:Nat}{vs:List V} (y:u=.ref a) (l:K.lookup a=some ⟨.type "tuple",od,.seq its n,sl⟩) (s:its.size<=sizeLine) (v:Vals vs its.toList):∃ (a:Addr) (o:Obj) (its:Array Value) (n:Nat),u=.ref a/\K.lookup a=some o/\o.cls=.type "tuple" /\ o.data=.seq its n/\its.size<=sizeLine/\Vals vs its.toList:=⟨a,_,its,n,y,l,U,U,s,v⟩
theorem tbm {v:Value}{cc p:Addr}{ol:Value}{oo:Option Addr}{vs:Array Value}{os:Array (Option Value)} (e:v=.ref cc) (l:K.lookup cc=some ⟨ol,oo,.fields vs,os⟩) (h:vs[11]?=some (.ref p)) (t:W.codeHdIn K cc p=true):∃ c,v=.ref c/\W.codeHdIn K c p=true:=⟨cc,e,t⟩
end P
namespace PySem.W.Fast
def tw11816630849359573103:=()
def tw9172251993416517032:=()
def tw13229129087744696040:=()
def tw3762055689556024598:=()
def tw8308230835573229235:=()
def tw5816273095702217561:=()
def tw17097438710707913369:=()
def tw10797364272857732819:=()
def tw3723698999280437179:=()
def tw13699065107693503862:=()
def tw16482594240033278312:=()
def tw15061018271374968292:=()
def tw15225163513130292809:=()
def tw6396606140280068874:=()
def tw14748743081299865170:=()
def tw7928591198949059196:=()
def tw18120171831738570657:=()
def tw13597223897416334007:=()
def tw17516223319069683273:=()
def tw3826906794149506115:=()
def tw9848142063655820718:=()
def tw3367852423675817577:=()
def tw709038103875055976:=()
def tw16207628731963811747:=()
def tw15442418209597692590:=()
def tw7067180050422704289:=()
def tw12968113416256821119:=()
def tw1264482695688694788:=()
def tw9039578888999511174:=()
def tw8529840087409496608:=()
def tw3667273148145278364:=()
def tw15502833838468903254:=()
def tw8125806580976351323:=()
def tw6582121529952162661:=()
def tw12934793616403728955:=()
def tw7527693732131691884:=()
def tw16694225160559759416:=()
def tw4073379894187211571:=()
def tw8600424921207120090:=()
def tw9936843360166210620:=()
def tw2160924847766235654:=()
def tw4865583453353028822:=()
def tw16910846469313966445:=()
def tw14051579483119282032:=()
def tw5399075937907547277:=()
def tw17924679923316142195:=()
def tw17323838773606803944:=()
def tw13565049661468513255:=()
def tw4094094989577841389:=()
def tw3788312862264669945:=()
def tw3625136977653492682:=()
def tw1662106953853689162:=()
def tw13274575384412819882:=()
def tw3440745968710136936:=()
def tw1005263737256267649:=()
def tw10123791476046565518:=()
def tw14932577815099831999:=()
def tw16564460290714948474:=()
def tw10507825832830694706:=()
def tw3641125862454902113:=()
def tw11842175146238426844:=()
def tw14410254603238339208:=()
def tw13559953917643294622:=()
def tw288644121562468248:=()
def tw10498404530131655255:=()
def tw5735699185494827620:=()
def tw12887738809217645866:=()
def tw6731135360161694354:=()
def tw5433177357057692368:=()
def tw6969764611801549145:=()
def tw11290601461992309800:=()
def tw491207014006126253:=()
def tw18324080320425252536:=()
def tw2414946650193145865:=()
def tw524036991164124726:=()
def tw10530999930152771735:=()
def tw16071216726940939156:=()
def tw11911483732947243593:=()
def tw7215762112682803094:=()
def tw13221084145093006789:=()
def tw10168936146531252997:=()
def tw9241871314493707791:=()
def tw2679799253123776644:=()
def tw14947515172835632764:=()
def tw886779553944110076:=()
def tw14929771903954559332:=()
def tw9215841538027985885:=()
def tw12344158249275494932:=()
def tw3292132853692188322:=()
def tw3656816833346499145:=()
def tw137530771419977051:=()
def tw2523198293547862930:=()
def tw11185011738111889782:=()
def tw13961363595976827654:=()
def tw14356869097051405450:=()
def tw4684324839989688116:=()
def tw10259902190528719094:=()
def tw8852051200046602766:=()
def tw13061225587413086141:=()
def tw1823842905312016309:=()
def tw1160599380388447933:=()
def tw8061009038243695101:=()
def tw18148619253860932676:=()
def tw12355963412722201037:=()
def tw2234817235859288847:=()
def tw10395589775364621821:=()
def tw2982300313018255110:=()
def tw9478117916696310251:=()
def tw16695516875644673215:=()
def tw14693304033564322690:=()
def tw2725584870943254805:=()
def tw13320056949508292200:=()
def tw13058527978944563481:=()
def tw12158666731330103310:=()
def tw1518354889344486869:=()
def tw11441223515719076569:=()
def tw5672399115412080761:=()
def tw9116527186188860941:=()
def tw18339720655902652250:=()
def tw10155848888548165847:=()
def tw2776529463802603429:=()
def tw6877394637398822128:=()
def tw2788317479363077321:=()
def tw6538811355428025704:=()
def tw14953708283397000516:=()
def tw11773606846722137174:=()
def tw9849593191060126217:=()
def tw10973185281535290277:=()
def tw10127296647489748411:=()
def tw4732113836552953732:=()
def tw17285435947129539842:=()
def tw836584461318033335:=()
def tw3005746084727599121:=()
def tw3916928227574116324:=()
def tw8973900505251424306:=()
def tw5892673298741970952:=()
def tw13618206388213960391:=()
def tw3935686861503201090:=()
def tw11767794726441827596:=()
def tw4748821036052031465:=()
def tw9590372743100184524:=()
def tw10236336128501207085:=()
def tw13865147686307124659:=()
def tw8918415987064195851:=()
def tw12791035083445690040:=()
def tw5489121388217149766:=()
def tw14868895560449250387:=()
def tw4713436209419560692:=()
def tw4090830220495760080:=()
def tw781788361296796297:=()
def tw17357097749736678017:=()
def tw4320815654799290465:=()
def tw6435938790249396523:=()
def tw10954224589745665649:=()
def tw4108096253948219287:=()
def tw830256596652058819:=()
def tw18050828429867938867:=()
def tw8725874347917164410:=()
def tw6423662693391624502:=()
def tw13257314164385948563:=()
def tw17990676202082729435:=()
def tw14495802487285494659:=()
def tw11713721040231736933:=()
def tw9390118048951399982:=()
def tw10006718157505364059:=()
def tw17055360340933154753:=()
def tw3881096812879440612:=()
def tw8904204752876393659:=()
def tw10035281756904292553:=()
def tw7596860452122400834:=()
def tw6911805989472765725:=()
def tw4145817930068452911:=()
def tw1150547250224913492:=()
def tw5900625379686801983:=()
def tw3857180127608105492:=()
def tw3170175275197129973:=()
def tw8779113013221794191:=()
def tw3360550981461851270:=()
def tw12604856359144295268:=()
def tw12530474805847837942:=()
def tw4239070034470877249:=()
def tw16722531233384970999:=()
def tw13482074043690543030:=()
def tw11075906093267892248:=()
def tw15678480034765837981:=()
def tw7355160649790328978:=()
def tw9013288428035812397:=()
def tw11244007057731172046:=()
def tw6177256778443080915:=()
def tw2515931823140740864:=()
def tw4376324090134676168:=()
def tw3405600318403773373:=()
def tw5630565003596312830:=()
def tw13107456723276852978:=()
def tw10891669923967992292:=()
def tw9226121197137730918:=()
def tw4226481325942098051:=()
def tw17259708693195827587:=()
def tw15329599856880646148:=()
def tw11445530338143151036:=()
def tw8502507107876869888:=()
def tw2459847141259731681:=()
def tw14786589788036334763:=()
def tw11289123399672780566:=()
def tw7738284911502778501:=()
def tw56130462889977636:=()
def tw14076427780634581124:=()
def tw16085006600100374751:=()
def tw17276879883726427785:=()
def tw2600262380016097867:=()
def tw455922000953070104:=()
def tw5234016744590010231:=()
def tw781885339217525623:=()
def tw3796824075448511254:=()
def tw7634377090944078660:=()
def tw3064717748395907430:=()
def tw1650604287108379805:=()
def tw12699779143274448161:=()
def tw4053324440385696107:=()
def tw9416605745482553166:=()
def tw14305053094217690317:=()
def tw791847029495876540:=()
def tw12172853586509145206:=()
def tw6713179207081267436:=()
def tw16458550529582251165:=()
def tw10385990320523653402:=()
def tw16243624133521426518:=()
def tw18117797693717587285:=()
def tw3381863709327955300:=()
def tw1364047861769789800:=()
def tw11492772491096819496:=()
def tw6981792421706842060:=()
end PySem.W.Fast
end
open PySem PySem.W PyProof.Rows
set_option maxRecDepth 100000 in
set_option maxHeartbeats 0 in
theorem PySem.Challenge.cw_lazyrails_k58_whole_fate_of_any_yard_holds : PySem.Challenge.rw_lazyrails_k58_whole_fate_of_any_yard.Holds := by
 w_on; o_law; k_head; (case hw => w_witness2)
 k_fill
 refine L2.walk_ofTs (l:=PySem.Challenge.rw_lazyrails_k58_whole_fate_of_any_yard) (n:=63) (k:=15) (x := "_law_script") (sp:=P.sp_lawTs) rfl (by decide) rfl ⟨rfl,by decide,by decide,rfl⟩ (fun w h Y => ⟨PySem.W.km_in_of Y,PySem.W.km_tabs_of Y⟩) ?F
 case F =>
  intro w mg fa h KX G hmg
  refine P.finFs hmg ?_
  refine' ⟨P.ad,P.Txt.mk ?z0 ?z1 ?z2 ?z3 ?z4 ?z5 ?z6 ?z7 ?z8 ?z9 ?za ?zb ?zc ?zd ?ze ?zf ?zg ?zh ?zi ?zj ?zk ?zl ?zm ?zn ?zo ?zp ?zq ?zr ?zs ?zt ?zu ?zv ?zw ?zx ?zy ?zz ?z10 ?z11 ?z12 ?z13 ?z14 ?z15 ?z16 ?z17 ?z18 ?z19 ?z1a ?z1b ?z1c ?z1d ?z1e ?z1f ?z1g ?z1h ?z1i ?z1j ?z1k ?z1l ?z1m ?z1n ?z1o ?z1p ?z1q ?z1r ?z1s ?z1t ?z1u ?z1v ?z1w ?z1x ?z1y ?z1z ?z20 ?z21 ?z22 ?z23 ?z24 ?z25 ?z26 ?z27 ?z28 ?z29 ?z2a ?z2b ?z2c ?z2d ?z2e ?z2f ?z2g ?z2h ?z2i ?z2j ?z2k ?z2l ?z2m ?z2n ?z2o ?z2p ?z2q ?z2r ?z2s ?z2t ?z2u ?z2v ?z2w ?z2x ?z2y ?z2z ?z30 ?z31 ?z32 ?z33 ?z34 ?z35 ?z36 ?z37 ?z38 ?z39 ?z3a ?z3b ?z3c ?z3d ?z3e ?z3f ?z3g ?z3h ?z3i ?z3j ?z3k ?z3l ?z3m ?z3n ?z3o ?z3p ?z3q ?z3r ?z3s ?z3t ?z3u ?z3v ?z3w ?z3x ?z3y ?z3z ?z40 ?z41 ?z42 ?z43 ?z44 ?z45 ?z46 ?z47 ?z48 ?z49 ?z4a ?z4b ?z4c ?z4d ?z4e ?z4f ?z4g ?z4h ?z4i ?z4j ?z4k ?z4l ?z4m ?z4n ?z4o ?z4p ?z4q ?z4r ?z4s ?z4t ?z4u ?z4v ?z4w ?z4x ?z4y ?z4z ?z50 ?z51 ?z52 ?z53 ?z54 ?z55 ?z56 ?z57 ?z58 ?z59 ?z5a ?z5b ?z5c ?z5d ?z5e ?z5f ?z5g ?z5h ?z5i ?z5j ?z5k ?z5l ?z5m ?z5n ?z5o ?z5p ?z5q ?z5r ?z5s ?z5t ?z5u ?z5v ?z5w ?z5x ?z5y ?z5z ?z60 ?z61 ?z62 ?z63 ?z64 ?z65 ?z66 ?z67 ?z68 ?z69 ?z6a ?z6b ?z6c ?z6d ?z6e ?z6f ?z6g ?z6h ?z6i ?z6j ?z6k ?z6l ?z6m ?z6n ?z6o ?z6p ?z6q ?z6r ?z6s,?mem_lay,?mem_link,?mem_J91,?mem_lift,?mem_put,?mem_throw⟩
  (case z46 => dsimp only [P.ad]; refine PySem.W.mg_of KX G ?_; k_is)
  (case z47 => dsimp only [P.ad]; apply L2.Mk.mk; k_is; k_is; k_is; k_is)
  (case z21|z23|z24|z25|z26|z27|z28|z29|z2a|z2c|z2d|z2e|z2f|z2g|z2h|z2i|z2j|z2k|z2l|z2m|z2n|z2o|z2p|z2q|z2r|z2s|z2t|z2u|z2v|z2w|z2x|z2y|z2z|z30|z31|z32|z33|z34|z35|z36|z37|z38|z39|z3a|z3b|z3c|z3d|z4h|z4i|z4j|z4k|z4l|z4m|z4n|z4o|z4p|z4q|z4r|z4s|z4t|z4u|z4v|z4w|z4x|z4y|z4z|z50|z51|z52|z53 => dsimp only [P.ad]; refine PySem.W.mg_of KX G ?_; k_is)
  (case z3e|z3g|z3h|z3i|z3k|z3l|z3m|z3n|z3o|z3p|z3q|z3r|z3s|z3t|z3u|z3v|z3w|z3x|z3y|z3z|z40|z41|z42|z43|z44 => dsimp only [P.ad]; apply L2.Meth.mk; k_is; k_is; k_is)
  (case z0|z1|z2|z3|z4|z5|z6|z7|z8|z9|za|zb|zc|zd|ze|zf|zg|zh|zi|zj|zk|zl|zm|zn|zo|zp|zq|zr|zs|zt|zu|zv|zw|zx|zy|zz|z10|z11|z12|z13|z14|z15|z16|z17|z18|z19|z1a|z1b|z1c|z1d|z1e|z1f|z1g|z1h|z1i|z1j|z1k|z1l|z1m|z1n|z1o|z1p|z1q|z1r|z1s|z1t|z1u|z1v|z1w|z1x|z1y|z1z|z20 => dsimp only [P.ad]; apply L2.funG_mk; k_is; k_is; k_is)
  (case z48|z49|z4a|z4b|z4c|z4d|z4e|z4f|z4g => dsimp only [L2.NoAttr,P.ad]; k_is)
  (case z3f => dsimp only [P.ad]; apply P.dm_Jx rfl; k_is)
  (case z3j => dsimp only [P.ad]; apply P.dm_J9 rfl; k_is)
  (case z5g|z5i|z5k|z5m|z5o|z5q => dsimp only [P.ad]; apply P.tbm rfl; k_is; exact rfl; kernel_rfl)
  (case z6l|z6n|z6p|z6r => dsimp only [P.ad]; apply PySem.W.mg_of KX G; k_is)
  (case z45 => dsimp only [P.ad]; refine ⟨?_,?_,?_,?_⟩; k_is; k_is; k_is; k_is)
  (case z22|z2b => exact rfl)
  (case z54|z55|z56|z57|z58|z59|z5a|z5b|z5c|z5d|z5e|z5f => kernel_rfl)
  (case z67|z68|z69|z6a|z6b|z6c|z6d|z6e|z6f|z6g|z6h|z6i|z6j|z6k => refine PySem.W.mg_none_of KX G ?_; k_is)
  (case z6q => dsimp only [P.ad]; apply P.tpm rfl; k_is; exact (show 3 <= PySem.sizeLine by decide); exact .cons ⟨_,rfl⟩ (.cons ⟨_,rfl⟩ (.cons ⟨_,rfl⟩ (.nil))))
  (case z5s|z5t|z5u|z5v|z5w|z5x|z5y|z5z|z60|z61|z62|z63|z64|z65|z66 => dsimp only [P.ad]; decide)
  (case z6m => dsimp only [P.ad]; exact ⟨_,rfl,by kernel_rfl⟩)
  (case z6o|z6s => dsimp only [P.ad]; exact ⟨_,rfl⟩)
  (case z5h|z5j|z5l|z5n|z5p|z5r => dsimp only [P.ad]; kernel_rfl)
  (case mem_lay|mem_link|mem_J91|mem_lift|mem_put|mem_throw => decide)
