import PyProof.Rows.All
import Wide.All
import OpenK.AllK
import Wide.FinOn
import Lean
import PyProof.EqAt
import PyProof.EqKinds
import PyProof.TupleCall
import PyProof.ZipIter
import PyProof.EnumMake
import PyProof.ListRange
import KE.KDictList
import KE.LcSums
import KE.KTabLook
import PyProof.P3In
import KE.KIntText
import PyProof.StrLoop
import PyProof.StrWalks
import PyProof.StrCalls2
import PyProof.StrLawsTight
import PyProof.StrLawsChain
import PyProof.Rows.SortShell
import KE.KSortTup
import KE.KDictLaws
import PyProof.DictCompW
import PyProof.DictWalks
import PyProof.DictItemsLoops
import KE.KUnpack
import PySem.SetTable
import PyProof.SetRoads
import PyProof.SetNew
import PyProof.Rows.SetFrom
import PySem.Challenge.RW_lazyrails_k28_ends_merged
set_option Elab.async false
set_option linter.all false
set_option maxRecDepth 100000
open List renaming mem_cons_of_mem→uj,mem_cons_self→uk,mem_append_right→ul,length_map→um,getElem?_eq_getElem→uo,length_append→uq,getElem?_map→ur,mem_of_getElem?→ut,mem_singleton→uu,length_cons→uv,map_append→uw,mem_cons→uz,mem_append→uA,length_singleton→uB,mem_append_left→uC,length_replicate→uD,size_toArray→uE,getElem?_append_left→uF,getElem?_append_right→uG,map_cons→uH,length_take→uI,append_assoc→uJ,mem_map→uK,not_mem_nil→uL,lookup_cons→uM,append_nil→uN,mem_map_of_mem→uO,pairwise_append→uP,map_map→uQ,mem_range→uR,find?_cons→uS
noncomputable section
namespace L2
open PySem PySem.Spec PyProof.Rows
theorem U.{u} {α:Sort u}{a:α}:a=a:=rfl
theorem O.{u} {α:Sort u}{a:α}:a=a:=rfl
theorem J.{u} {α:Sort u}{a:α}:a=a:=rfl
theorem F.{u} {α:Sort u}{a:α}:a=a:=rfl
theorem Z.{u} {α:Sort u}{a:α}:a=a:=rfl
noncomputable abbrev Key:=Sum Int Str
noncomputable def hC:Key->Value->Bool
 | .inl k,v=>Value.isInt k v
 | .inr x,v=>Value.isStrOf x v
noncomputable def keyH (w:World):Key->Int
 | .inl k=>hashInt k
 | .inr x=>hashStr w x
theorem bj:∀ {k:Key}{v:Value},hC k v=true->(∃ i t,k=Sum.inl i/\v=Value.int i t)∨(∃ x t,k=Sum.inr x/\v=Value.str x t)
 | .inl i,v,h=>by
  obtain⟨t,e⟩:=Value.isInt_shape (k:=i) (v:=v) h
  exact .inl ⟨i,t,U,e⟩
 | .inr x,v,h=>by
  obtain⟨t,e⟩:=Value.isStrOf_shape (x:=x) (v:=v) h
  exact .inr ⟨x,t,U,e⟩
theorem lG (i:Int) (t:Tok):hC (.inl i) (.int i t)=true:=by simp[hC,Value.isInt]
theorem lF (x:Str) (t:Tok):hC (.inr x) (.str x t)=true:=by simp[hC,Value.isStrOf]
theorem sn (a b:Int):decide ((Sum.inl a:Key)=Sum.inl b)=(a == b):=by
 by_cases e:a=b
 ·subst e; simp
 ·have h:¬ (Sum.inl a:Key)=Sum.inl b:=fun q=>e (Sum.inl.inj q)
  rw[decide_eq_false h]
  exact(beq_eq_false_iff_ne.mpr e).symm
theorem si (a b:Str):decide ((Sum.inr a:Key)=Sum.inr b)=decide (a=b):=by
 by_cases e:a=b
 ·subst e; simp
 ·have h:¬ (Sum.inr a:Key)=Sum.inr b:=fun q=>e (Sum.inr.inj q)
  rw[decide_eq_false h,decide_eq_false e]
theorem sk (a:Int) (b:Str):decide ((Sum.inl a:Key)=Sum.inr b)=false:=decide_eq_false (fun q=>nomatch q)
theorem sj (a:Str) (b:Int):decide ((Sum.inr a:Key)=Sum.inl b)=false:=decide_eq_false (fun q=>nomatch q)
noncomputable def aS (prog:Program) (w:World):PySem.KeyKind prog w Key where
 is:=hC
 hash:=keyH w
 inj:=fun v a b ha hb=>by
  rcases bj ha with ⟨i,t,rfl,rfl⟩ | ⟨x,t,rfl,rfl⟩
  ·rcases bj hb with ⟨j,u,rfl,e⟩ | ⟨y,u,rfl,e⟩
   ·injection e with e1 _; rw[e1]
   ·exact nomatch e
  ·rcases bj hb with ⟨j,u,rfl,e⟩ | ⟨y,u,rfl,e⟩
   ·exact nomatch e
   ·injection e with e1 _; rw[e1]
 byValue:=fun k v h=>by
  rcases bj h with ⟨i,t,rfl,rfl⟩ | ⟨x,t,rfl,rfl⟩ <;> rfl
 pyHash:=fun hv h=>by
  rcases bj hv with ⟨i,t,rfl,rfl⟩ | ⟨x,t,rfl,rfl⟩
  ·exact wpAny_pyHash_int h
  ·exact wpAny_pyHash_str h
 eqBool:=fun hu hv h=>by
  rcases bj hu with ⟨i,t,rfl,rfl⟩ | ⟨x,t,rfl,rfl⟩
  ·rcases bj hv with ⟨j,u,rfl,rfl⟩ | ⟨y,u,rfl,rfl⟩
   ·rw[sn] at h; exact wpAny_eqBool_int h
   ·rw[sk] at h; exact SeqAt.EqAt.int_str i t y u _ _ _ _ h
  ·rcases bj hv with ⟨j,u,rfl,rfl⟩ | ⟨y,u,rfl,rfl⟩
   ·rw[sj] at h; exact SeqAt.EqAt.str_int x t j u _ _ _ _ h
   ·rw[si] at h; exact wpAny_eqBool_str h
 «strs»:=fun k x t v h=>by
  rcases bj h with ⟨i,u,rfl,e⟩ | ⟨y,u,rfl,e⟩
  ·exact nomatch e
  ·injection e with e1 _
   subst e1
   cases v <;> rfl
theorem ji (prog:Program) (w:World) (i:Int) (t:Tok):(aS prog w).is (.inl i) (.int i t)=true:=lG i t
theorem jh (prog:Program) (w:World) (x:Str) (t:Tok):(aS prog w).is (.inr x) (.str x t)=true:=lF x t
inductive V where
 | non | bl (b:Bool) | int (i:Int) | str (x:Str) | byt (b:Array UInt8) | flt (b:UInt64) | ref (a:Addr) | ty (n:String)
 deriving DecidableEq
noncomputable def RelV:V->Value->Prop
 | .non,u=>u=Value.none
 | .bl b,u=>u=Value.bool b
 | .int i,u=>∃ t,u=Value.int i t
 | .str x,u=>∃ t,u=Value.str x t
 | .byt b,u=>∃ t,u=Value.bytes b t
 | .flt b,u=>∃ t,u=Value.float b t
 | .ref a,u=>u=Value.ref a
 | .ty n,u=>u=Value.type n
noncomputable abbrev Vals:List V->List Value->Prop:=Paired RelV
variable{us:List Value}
theorem Vals.length {xs:List V} (r:Vals xs us):xs.length=us.length:=Paired.length r
theorem Vals.get:∀ {xs:List V}{us:List Value}{i:Nat}{x:V},Vals xs us->xs[i]?=some x->∃ u,us[i]?=some u/\RelV x u
 | _,_,_,_,.nil,e=>by simp at e
 | _,_,0,_,.cons r _,e=>by simp at e; subst e; exact⟨_,U,r⟩
 | _,_,i+1,x,.cons _ t,e=>by
  obtain⟨u,h1,h2⟩:=Vals.get (i:=i) (x:=x) t (by simpa using e)
  exact⟨u,by simpa using h1,h2⟩
variable{u:Value}
theorem Vals.set {x:V} (r:RelV x u):∀ {xs:List V}{us:List Value} (i:Nat),Vals xs us->Vals (xs.set i x) (us.set i u)
 | _,_,_,.nil=>.nil
 | _,_,0,.cons _ t=>.cons r t
 | _,_,i+1,.cons q t=>.cons q (Vals.set r i t)
theorem Vals.append {xs ys:List V}{us ws:List Value} (a:Vals xs us) (s:Vals ys ws):Vals (xs++ys) (us++ws):=by
 induction a with
 | nil=>exact s
 | cons r t ih=>exact .cons r ih
theorem Vals.take:∀ {xs:List V}{us:List Value} (n:Nat),Vals xs us->Vals (xs.take n) (us.take n)
 | _,_,0,_=>.nil
 | _,_,_+1,.nil=>.nil
 | _,_,n+1,.cons r t=>.cons r (Vals.take n t)
theorem Vals.drop:∀ {xs:List V}{us:List Value} (n:Nat),Vals xs us->Vals (xs.drop n) (us.drop n)
 | _,_,0,r=>r
 | _,_,_+1,.nil=>.nil
 | _,_,n+1,.cons _ t=>Vals.drop n t
noncomputable def RelO:Option V->Option Value->Prop
 | some v,some u=>RelV v u
 | none,none=>True
 | _,_=>False
noncomputable def KV {κ:Type}:List (κ×V)->List (κ×Value)->Prop:=Paired fun(p:κ×V) (q:κ×Value)=>p.1=q.1/\RelV p.2 q.2
noncomputable def kV:Key->V
 | .inl i=>.int i
 | .inr x=>.str x
inductive HO where
  | lst (xs:List V)
  | tup (xs:List V)
  | dK (kvs:List (Key×V)) | dT (kvs:List (List Key×V))
  | set (S:Int->Bool) (n:Nat)
  | ins (C dx:Addr) (fs:List (Str×V))
  | own (x:Addr)
  | xd (fs:List (Str×V))
  | met (f x:Addr)
  | rng (lo hi:Int)
  | frz (o:Obj) (u:HO)
  | tbl (ps:Array Value)
  | ext (φ:Heap->Prop)
noncomputable abbrev Hp:=Addr->Option HO
noncomputable def upd (H:Hp) (a:Addr) (o:HO):Hp:=fun b=>if b=a then some o else H b
variable{H:Hp}
theorem cD {a:Addr}{o:HO}:upd H a o a=some o:=by unfold upd; rw[if_pos rfl]
theorem aM {a b:Addr}{o:HO} (h:b≠a):upd H a o b=H b:=by unfold upd; rw[if_neg h]
theorem ne_of {a b:Addr}{o u:HO} (h:H a=some o) (h':H b=some u) (d:o≠u):a≠b:=by
 intro e; subst e; rw[h] at h'; exact d (Option.some.inj h')
theorem bn {a b:Addr}{o:HO} (h:H a=some o) (h':H b=none):a≠b:=by
 intro e; subst e; rw[h] at h'; cases h'
section
variable (P:Program) (w:World)
noncomputable def ObjOk (H:Hp) (h:Heap) (a:Addr):HO->Prop
 | .lst xs=>xs.length<=sizeLine/\∃ (its:List Value) (n:Nat),Vals xs its/\h.get? a=some { cls:=.type "list",data:=.seq its.toArray n }
 | .tup xs=>xs.length<=sizeLine/\∃ its:List Value,Vals xs its/\IsTup h a its.toArray
 | .dK kvs=>kvs.length<=sizeLine/\(a == sysModules)=false/\∃ vs,KV kvs vs/\h.DictOf (aS P w) a vs
 | .dT kvs=>kvs.length<=sizeLine/\(a == sysModules)=false/\∃ xs:List (List Key×Addr×Value),
   Paired (fun(p:List Key×V) (q:List Key×Addr×Value)=>p.1=q.1/\H q.2.1=some (.tup (p.1.map kV))/\RelV p.2 q.2.2) kvs xs /\
   ∃ o es ep,h.get? a=some o/\o.ExactDict/\o.data=.dict es ep/\es.toList=xs.map (entryOfKey (tupleKind (aS P w)))/\(xs.map (·.1)).Nodup
 | .set S n=>h.SetOf (intKind P w) a S n
 | .ins C dx fs=>H dx=some (.own a)/\fs.length<=1000/\dx≠a/\h.get? a=some (PySem.W.instObj C dx) /\
   ∃ mA,h.Ns1 dx mA/\(∀ f,RelO (fs.lookup f) (mA f))/\PySem.Within mA (fs.map (·.1))
 | .own _=>∃ o,h.get? a=some o
 | .xd fs=>∃ mA,h.Ns1 a mA/\∀ f,RelO (fs.lookup f) (mA f)
 | .rng lo hi=>∃ t u v,h.get? a=some { cls:=.type "range",data:=.fields #[.int lo t,.int hi u,.int 1 v] }
 | .frz o u=>h.get? a=some o/\ObjOk H h a u
 | .tbl ps=>h.get? a=some { cls:=.none,data:=.fields ps }
 | .met f x=>h.get? a=some (PySem.W.methodObj (.ref f) (.ref x))
 | .ext φ=>φ h/\(∃ o,h.get? a=some o)/\∀ h1 h2:Heap,φ h1->(∀ o,h1.get? a=some o->h2.get? a=some o)->φ h2
noncomputable def HOk (H:Hp) (h:Heap):Prop:=∀ a o,H a=some o->ObjOk P w H h a o
end
section
variable {P:Program}{w:World}{H H':Hp}{h h':Heap}{a:Addr}{o:HO}
theorem ObjOk.lt (x:ObjOk P w H h a o):a<h.objs.size:=by
 cases o with
 | lst xs=>obtain⟨_,_,_,_,e⟩:=x; exact Heap.lt_size e
 | tup xs=>obtain⟨_,_,_,p⟩:=x; exact p.lt
 | dK kvs=>obtain⟨_,_,_,_,o,_,_,e,_⟩:=x; exact Heap.lt_size e
 | dT kvs=>obtain⟨_,_,_,_,o,_,_,e,_⟩:=x; exact Heap.lt_size e
 | set S n=>obtain⟨o,_,_,_,e,_⟩:=x; exact Heap.lt_size e
 | ins C dx fs=>obtain⟨_,_,_,e,_⟩:=x; exact Heap.lt_size e
 | own y=>obtain⟨_,e⟩:=x; exact Heap.lt_size e
 | xd fs=>obtain⟨_,⟨_,_,_,e,_⟩,_⟩:=x; exact Heap.lt_size e
 | rng lo hi=>obtain⟨_,_,_,e⟩:=x; exact Heap.lt_size e
 | frz ob u=>obtain⟨e,_⟩:=x; exact Heap.lt_size e
 | tbl ps=>exact Heap.lt_size (show h.get? a=some _ from x)
 | met f y=>exact Heap.lt_size (show h.get? a=some _ from x)
 | ext φ=>obtain⟨_,⟨_,e⟩,_⟩:=x; exact Heap.lt_size e
theorem Paired.mapP {α β:Type}{F G:α->β->Prop} {l₁:List α}{l₂:List β} (a:Paired F l₁ l₂) (f:∀ a b,F a b->G a b):Paired G l₁ l₂:=by
 induction a with
 | nil=>exact .nil
 | cons r t ih=>exact .cons (f _ _ r) ih
theorem ObjOk.stay (x:ObjOk P w H h a o) (k:∀ b u,(b=a∨H b=some (.own a))->h.get? b=some u->h'.get? b=some u)
  (ho:∀ b,H b=some (.own a)->H' b=some (.own a)) (ht:∀ b xs,H b=some (.tup xs)->H' b=some (.tup xs)):ObjOk P w H' h' a o:=by
 induction o with
 | lst xs=>obtain⟨z,its,n,r,e⟩:=x; exact⟨z,its,n,r,k _ _ (.inl rfl) e⟩
 | tup xs=>obtain⟨z,its,r,ob,e,c⟩:=x; exact⟨z,its,r,ob,k _ _ (.inl rfl) e,c⟩
 | dK kvs=>obtain⟨z,y,vs,r,ob,es,ep,e,c⟩:=x; exact⟨z,y,vs,r,ob,es,ep,k _ _ (.inl rfl) e,c⟩
 | dT kvs=>
  obtain⟨z,y,xs,r,ob,es,ep,e,c⟩:=x
  exact⟨z,y,xs,Paired.mapP r fun p q z=>⟨z.1,ht _ _ z.2.1,z.2.2⟩,ob,es,ep,k _ _ (.inl rfl) e,c⟩
 | set S n=>obtain⟨ob,es,ep,t,e,c⟩:=x; exact⟨ob,es,ep,t,k _ _ (.inl rfl) e,c⟩
 | ins C dx fs=>
  obtain⟨d,z,ne,e,mA,⟨od,es,ep,e2,c⟩,r⟩:=x
  exact⟨ho _ d,z,ne,k _ _ (.inl rfl) e,mA,⟨od,es,ep,k _ _ (.inr d) e2,c⟩,r⟩
 | own y=>obtain⟨ob,e⟩:=x; exact⟨ob,k _ _ (.inl rfl) e⟩
 | xd fs=>obtain⟨mA,⟨od,es,ep,e,c⟩,r⟩:=x; exact⟨mA,⟨od,es,ep,k _ _ (.inl rfl) e,c⟩,r⟩
 | rng lo hi=>obtain⟨t,u,v,e⟩:=x; exact⟨t,u,v,k _ _ (.inl rfl) e⟩
 | frz ob u ih=>obtain⟨e,q⟩:=x; exact⟨k _ _ (.inl rfl) e,ih q⟩
 | tbl ps=>
  have e:h.get? a=some { cls:=.none,data:=.fields ps }:=x
  show h'.get? a=some { cls:=.none,data:=.fields ps }
  exact k a _ (.inl rfl) e
 | met f y=>
  have e:h.get? a=some (PySem.W.methodObj (.ref f) (.ref y)):=x
  show h'.get? a=some (PySem.W.methodObj (.ref f) (.ref y))
  exact k a _ (.inl rfl) e
 | ext φ=>obtain⟨p,⟨o,e⟩,st⟩:=x; exact⟨st _ _ p fun o q=>k _ _ (.inl rfl) q,⟨o,k _ _ (.inl rfl) e⟩,st⟩
theorem HOk.lt (x:HOk P w H h) (e:H a=some o):a<h.objs.size:=(x a o e).lt
theorem HOk.fresh (x:HOk P w H h) (e:h.objs.size<=a):H a=none:=by
 cases q:H a with
 | none=>rfl
 | some u=>exact absurd (Nat.lt_of_lt_of_le (x.lt q) e) (Nat.lt_irrefl _)
theorem HOk.kept (x:HOk P w H h) (k:∀ b u,h.get? b=some u->h'.get? b=some u):HOk P w H h':=fun a o e=>
 (x a o e).stay (fun b u _ q=>k b u q) (fun _ q=>q) fun _ _ q=>q
theorem HOk.laid (x:HOk P w H h) (k:∀ b u,h.get? b=some u->h'.get? b=some u) (hp:h.objs.size<=a) (new:ObjOk P w (upd H a o) h' a o):HOk P w (upd H a o) h':=fun b u e=>by
 have hn:=x.fresh hp
 by_cases hb:b=a
 ·subst hb; rw[cD] at e; cases e; exact new
 ·rw[aM hb] at e
  exact(x b u e).stay (fun c v _ q=>k c v q) (fun c q=>by rw[aM (bn q hn)]; exact q) fun c xs q=>by rw[aM (bn q hn)]; exact q
end
noncomputable def Rd (H:Hp) (a:Addr) (u:HO):Prop:=H a=some u∨∃ o,H a=some (.frz o u)
variable{P:Program}{w:World}{h:Heap}
theorem Rd.ok {a:Addr}{u:HO} (r:Rd H a u) (x:HOk P w H h):ObjOk P w H h a u:=by
 rcases r with r | ⟨o,r⟩
 ·exact x a u r
 ·obtain⟨_,q⟩:=x a _ r
  exact q
noncomputable def Mut:Option HO->Prop
 | some (.lst _)=>True
 | some (.dK _)=>True
 | some (.dT _)=>True
 | some (.set _ _)=>True
 | some (.ins _ _ _)=>True
 | some (.ext _)=>True
 | _=>False
section
variable {P:Program}{w:World}{H:Hp}{h h':Heap}{x e:Addr}{o':HO}
theorem HOk.write (ok:HOk P w H h) (mu:Mut (H x)) (he:e=x∨H e=some (.own x)) (k:∀ b u,b≠e->h.get? b=some u->h'.get? b=some u) (heo:∃ u,h'.get? e=some u)
  (new:ObjOk P w (upd H x o') h' x o'):HOk P w (upd H x o') h':=fun b u q=>by
 have nown:∀ c y,H c=some (.own y)->c≠x:=fun c y r z=>by subst z; rw[r] at mu; exact mu
 have ntup:∀ c xs,H c=some (.tup xs)->c≠x:=fun c xs r z=>by subst z; rw[r] at mu; exact mu
 by_cases hb:b=x
 ·subst hb; rw[cD] at q; cases q; exact new
 ·rw[aM hb] at q
  by_cases hbe:b=e
  ·have q':H b=some (.own x):=by
    rcases he with z | z
    ·exact absurd (hbe.trans z) hb
    ·rw[hbe]; exact z
   rw[q] at q'; cases q'
   obtain⟨v,hv⟩:=heo
   exact⟨v,by rw[hbe]; exact hv⟩
  ·refine(ok b u q).stay (fun c v hc r=>k c v ?_ r) (fun c r=>by rw[aM (nown c b r)]; exact r) fun c xs r=>by rw[aM (ntup c xs r)]; exact r
   rcases hc with rfl | hc
   ·exact hbe
   ·rintro rfl
    rcases he with z | z
    ·exact nown c b hc z
    ·rw[hc] at z; cases z; exact hb rfl
end
structure Un (fs ex:List Addr) (H H':Hp) (h h':Heap):Prop where
 keep:∀ b o,h.get? b=some o->H b=none->b ∉ fs->b ∉ ex->h'.get? b=some o
 slot:∀ b o,h.get? b=some o->H b=none->b ∈ fs->b ∉ ex->∃ sl,h'.get? b=some { o with slots:=sl }
 free:∀ b o,h.get? b=some o->H b=none->b ∉ ex->H' b=none
 there:∀ b o,h.get? b=some o->b ∉ ex->∃ o',h'.get? b=some o'
 tups:∀ b xs,H b=some (.tup xs)->H' b=some (.tup xs)
 frzs:∀ b o u,H b=some (.frz o u)->H' b=some (.frz o u)
 tbls:∀ b ps,H b=some (.tbl ps)->∃ more,H' b=some (.tbl (ps++more))
section
variable {fs fs' ex ex':List Addr}{H H1 H2:Hp}{h h1 h2 h':Heap}{a x e:Addr}{o:HO}
theorem Un.any (u:Un fs ex H H1 h h1) {b:Addr}{ob:Obj} (q:h.get? b=some ob) (n:H b=none) (hx:b ∉ ex):∃ sl,h1.get? b=some { ob with slots:=sl }:=by
 by_cases hb:b ∈ fs
 ·exact u.slot b ob q n hb hx
 ·exact⟨ob.slots,u.keep b ob q n hb hx⟩
theorem Un.trans (a:Un fs ex H H1 h h1) (b:Un fs ex H1 H2 h1 h2):Un fs ex H H2 h h2 where
 keep:=fun c ob q n hc hx=>b.keep c ob (a.keep c ob q n hc hx) (a.free c ob q n hx) hc hx
 slot:=fun c ob q n hc hx=>by
  obtain⟨sl,e1⟩:=a.slot c ob q n hc hx
  obtain⟨sl',e2⟩:=b.slot c _ e1 (a.free c ob q n hx) hc hx
  exact⟨sl',e2⟩
 free:=fun c ob q n hx=>by
  obtain⟨o',e1⟩:=a.there c ob q hx
  exact b.free c o' e1 (a.free c ob q n hx) hx
 there:=fun c ob q hx=>by
  obtain⟨o',e1⟩:=a.there c ob q hx
  exact b.there c o' e1 hx
 tups:=fun c xs q=>b.tups c xs (a.tups c xs q)
 frzs:=fun c ob xs q=>b.frzs c ob xs (a.frzs c ob xs q)
 tbls:=fun c ps q=>by
  obtain⟨m1,e1⟩:=a.tbls c ps q
  obtain⟨m2,e2⟩:=b.tbls c _ e1
  exact⟨m1++m2,by rw[e2,Array.append_assoc]⟩
theorem Un.kept (k:∀ b u,h.get? b=some u->h'.get? b=some u):Un fs ex H H h h' :=
 ⟨fun b ob q _ _ _=>k b ob q,fun b ob q _ _ _=>⟨ob.slots,k b ob q⟩,fun _ _ _ n _=>n,fun b ob q _=>⟨ob,k b ob q⟩,fun _ _ q=>q,fun _ _ _ q=>q,fun _ ps q=>⟨#[],by rw[q]; simp⟩⟩
theorem Un.refl:Un fs ex H H h h:=Un.kept fun _ _ q=>q
theorem Un.laid (k:∀ b u,h.get? b=some u->h'.get? b=some u) (hp:h.objs.size<=a) (hn:H a=none):Un fs ex H (upd H a o) h h' where
 keep:=fun b u q _ _ _=>k b u q
 slot:=fun b u q _ _ _=>⟨u.slots,k b u q⟩
 free:=fun b u q n _=>by rw[aM (Nat.ne_of_lt (Nat.lt_of_lt_of_le (Heap.lt_size q) hp))]; exact n
 there:=fun b u q _=>⟨u,k b u q⟩
 tups:=fun b xs q=>by rw[aM (bn q hn)]; exact q
 frzs:=fun b u xs q=>by rw[aM (bn q hn)]; exact q
 tbls:=fun b ps q=>⟨#[],by rw[aM (bn q hn),q]; simp⟩
theorem Un.write (mu:Mut (H x)) (he:e=x∨H e=some (.own x)) (k:∀ b u,b≠e->h.get? b=some u->h'.get? b=some u) (heo:∃ u,h'.get? e=some u):Un fs ex H (upd H x o) h h':=by
 have hx:∀ b,H b=none->b≠x:=fun b n z=>by subst z; rw[n] at mu; exact mu
 have hb:∀ b,H b=none->b≠e:=fun b n z=>by
  subst z
  rcases he with r | r
  ·exact hx b n r
  ·rw[n] at r; cases r
 have hm:∀ b u,H b=some u->¬ Mut (some u)->b≠x:=fun b u q nm z=>by subst z; rw[q] at mu; exact nm mu
 refine⟨fun b u q n _ _=>k b u (hb b n) q,fun b u q n _ _=>⟨u.slots,k b u (hb b n) q⟩,fun b u q n _=>by rw[aM (hx b n)]; exact n,fun b u q _=>?_,
  fun b xs q=>by rw[aM (hm b _ q fun z=>z)]; exact q,fun b u xs q=>by rw[aM (hm b _ q fun z=>z)]; exact q,fun b ps q=>⟨#[],by rw[aM (hm b _ q fun z=>z),q]; simp⟩⟩
 by_cases hbe:b=e
 ·subst hbe; exact heo
 ·exact⟨u,k b u hbe q⟩
end
noncomputable def trk (h:Heap) (H:Hp):List Addr:=(List.range h.objs.size).filter fun a=>(H a).isSome
noncomputable def iG (h:Heap) (H:Hp):Heap:=PySem.W.hideAll h (trk h H)
theorem lO (h:Heap) (H:Hp):(iG h H).objs.size=h.objs.size:=PySem.W.hideAll_size _ _
theorem oh {b:Addr}{o:Obj} (e:h.get? b=some o) (n:H b=none):(iG h H).get? b=some o :=
 PySem.W.hideAll_get _ e fun hm=>by
  have q:(H b).isSome=true:=(List.mem_filter.mp hm).2
  rw[n] at q; simp at q
theorem pC {b:Addr}{o:Obj} (e:(iG h H).get? b=some o):h.get? b=some o/\H b=none:=by
 have e':h.get? b=some o:=PySem.W.of_hideAll (trk h H) e
 refine⟨e',?_⟩
 cases q:H b with
 | none=>rfl
 | some x=>
  have hm:b ∈ trk h H:=List.mem_filter.mpr ⟨uR.mpr (Heap.lt_size e'),by simp[q]⟩
  have z:(iG h H).get? b=none:=PySem.W.hideAll_none (trk h H) hm
  rw[z] at e; cases e
noncomputable def p5 (g h:Heap) (L:Addr):List (Addr×Obj):=(List.range h.objs.size).filterMap fun a=>if a=L∨(g.get? a).isSome=true then none else(h.get? a).map fun o=>(a,o)
noncomputable def rest (g h:Heap) (L d:Addr):List (Addr×Obj):=(p5 g h L).filter fun p=>decide (p.1≠d)
structure Mod (K:PySem.W.Frag) (mg:Str->Option Value) (base:Heap):Prop where
 kin:K.In base
 glob:base.Ns mainGlobals mg
 blt:∃ mb,base.Ns builtinsNs mb/\∀ x:Str,x ≠ "__name__" -> mb x=bootBuiltins x
 nolimit:base.NoLimit
structure Cx where
 prog:Program
 w:World
 K:PySem.W.Frag
 mg:Str->Option Value
 base:Heap
 A:Around
 N:List Str
 s₀:Shared
 H₀:Hp
 env:Env
 outer:List Env
 stack:List Env
 ex:List Addr
 fn:Str->Bool
 calm:Bool
 pn:List (Addr×Obj)
 xe:Value->Shared->Prop
noncomputable def frs (l:List Env):List Addr:=l.filterMap (·.frame)
noncomputable abbrev Cx.fs (X:Cx):List Addr:=frs X.outer
noncomputable def Vis (sc:Scope) (x:Str):Prop:=sc.names.lookup x=some .local∨sc.names.lookup x=some .cell∨sc.names.lookup x=some .free
noncomputable def Loc (sc:Scope) (x:Str):Prop:=sc.names.lookup x=some .local∨sc.names.lookup x=some .cell
noncomputable def Look (env:Env) (h:Heap) (m:Str->Option Value) (x:Str) (u:Value):Prop :=
 (env.kindOf x=some .local/\m x=some u)∨((env.kindOf x=some .cell∨env.kindOf x=some .free)/\∃ c,env.cells.lookup x=some c/\h.IsCell c (some u))
structure Cx.Ok (X:Cx):Prop where
 mod:Mod X.K X.mg X.base
 kind:X.env.scope.kind=.function
 glob:X.env.globals=mainGlobals
 blt:X.env.builtins=builtinsNs
 above:X.s₀.heap.objs.size<=X.env.locals
 inj:∀ x y c,X.env.cells.lookup x=some c->X.env.cells.lookup y=some c->x=y
 has:∀ x,(X.env.kindOf x=some .cell∨X.env.kindOf x=some .free)->∃ c,X.env.cells.lookup x=some c
 cab:∀ x c,X.fn x=true->X.env.cells.lookup x=some c->X.s₀.heap.objs.size<=c
 hd:X.calm=true->X.A.handled=none
 frames:X.A.frames=some X.stack
 stk:X.stack=X.outer∨(X.stack=X.env::X.outer/\X.env.frame=some X.env.locals)
 exf:∀ b ∈ X.ex,b≠X.env.locals/\∀ x c,X.env.cells.lookup x=some c->c≠b
 bs:∀ b o,X.base.get? b=some o->X.s₀.heap.get? b=some o/\X.H₀ b=none
 bsz:X.base.objs.size<=X.s₀.heap.objs.size
 noex:∀ b o,X.base.get? b=some o->b ∉ X.ex
 exfs:∀ b ∈ X.ex,b ∉ X.fs
 funs:X.s₀.heap.FunFrames X.base X.outer
 frf:∀ b ∈ X.fs,X.H₀ b=none
structure Inv (X:Cx) (pins:List (Addr×Obj)) (σ:List (Option V)) (H:Hp) (s:Shared):Prop where
 ok:X.Ok
 os:s.os=X.s₀.os
 bare:AllBare s.gens
 base:Un X.fs X.ex X.H₀ H X.s₀.heap s.heap
 loc:∃ m,s.heap.Ns X.env.locals m/\∀ (i:Nat) (x:Str) (v:V),X.N[i]?=some x->σ[i]?=some (some v)->Vis X.env.scope x->∃ u,RelV v u/\Look X.env s.heap m x u
 cell:∀ x c,X.env.cells.lookup x=some c->∃ v,s.heap.IsCell c v
 free:H X.env.locals=none
 freeC:∀ x c,X.env.cells.lookup x=some c->H c=none
 pin:∀ p ∈ X.pn++pins,s.heap.get? p.1=some p.2/\H p.1=none/\p.1≠X.env.locals/\p.1 ∉ X.fs/\∀ v,p.2.data≠.cell v
 hok:HOk X.prog X.w H s.heap
 len:σ.length=X.N.length
variable{E:Value->Shared->Prop}{A:Around}{t':Nat}
section
variable {X:Cx}{pins:List (Addr×Obj)}{σ:List (Option V)}{H H':Hp}{s:Shared}{h':Heap}
theorem Cx.Ok.nofr (ok:X.Ok) {b:Addr}{o:Obj} (e:X.base.get? b=some o):b ∉ X.fs:=fun hb=>by
 have:=(ok.funs.mem hb).1
 rw[e] at this; cases this
theorem Inv.bs (I:Inv X pins σ H s):∀ b o,X.base.get? b=some o->s.heap.get? b=some o/\H b=none:=fun b o e=>
 ⟨I.base.keep b o (I.ok.bs b o e).1 (I.ok.bs b o e).2 (I.ok.nofr e) (I.ok.noex b o e),I.base.free b o (I.ok.bs b o e).1 (I.ok.bs b o e).2 (I.ok.noex b o e)⟩
theorem Inv.bk (I:Inv X pins σ H s):∀ b o,X.base.get? b=some o->s.heap.get? b=some o:=fun b o e=>(I.bs b o e).1
theorem Inv.mod (I:Inv X pins σ H s):Mod X.K X.mg X.base:=I.ok.mod
theorem Inv.kIn (I:Inv X pins σ H s):X.K.In s.heap:=I.ok.mod.kin.keeps I.bk
theorem Inv.fr (I:Inv X pins σ H s):∃ m,Fr X.base X.env.locals s.heap m :=
 let ⟨m,hn,_⟩:=I.loc
 ⟨m,hn,I.bk,Nat.le_trans I.ok.bsz I.ok.above⟩
theorem Inv.lt (I:Inv X pins σ H s):X.env.locals<s.heap.objs.size:=let ⟨_,hn,_⟩:=I.loc; hn.lt
theorem Inv.sz (I:Inv X pins σ H s):X.s₀.heap.objs.size<=s.heap.objs.size:=Nat.le_trans I.ok.above (Nat.le_of_lt I.lt)
theorem Inv.nofs (I:Inv X pins σ H s) {a:Addr} (h:s.heap.objs.size<=a):a ∉ X.fs:=fun hb=>by
 obtain⟨_,o,ho,_⟩:=I.ok.funs.mem hb
 exact absurd (Nat.lt_of_lt_of_le (Heap.lt_size ho) (Nat.le_trans I.sz h)) (Nat.lt_irrefl _)
theorem Inv.cne (I:Inv X pins σ H s):∀ x c,X.env.cells.lookup x=some c->c≠X.env.locals:=fun x c e z=>by
 obtain⟨v,o,ho,hd⟩:=I.cell x c e
 obtain⟨m,⟨o',es,ep,ho',hd',_⟩,_⟩:=I.loc
 rw[z,ho'] at ho; cases ho; rw[hd'] at hd; cases hd
theorem Inv.funs (I:Inv X pins σ H s):s.heap.FunFrames X.base X.outer:=by
 have all:∀ (l:List Env),(∀ b ∈ frs l,b ∈ X.fs)->X.s₀.heap.FunFrames X.base l->s.heap.FunFrames X.base l:=by
  intro l
  induction l with
  | nil=>intro _ _; trivial
  | cons env r ih=>
   intro hs hl
   obtain⟨hk,⟨L,o,hf,hn,ho,hd⟩,hr⟩:=hl
   have hL:L ∈ X.fs:=hs L (by unfold frs; rw[List.filterMap_cons,hf]; exact uk)
   obtain⟨sl,e⟩:=I.base.slot L o ho (I.ok.frf L hL) hL fun z=>I.ok.exfs L z hL
   exact⟨hk,⟨L,_,hf,hn,e,hd⟩,ih (fun b hb=>hs b (by unfold frs; rw[List.filterMap_cons,hf]; exact uj _ hb)) hr⟩
 exact all X.outer (fun _ hb=>hb) I.ok.funs
theorem Inv.stack (I:Inv X pins σ H s):s.heap.FunFrames X.base X.stack:=by
 rcases I.ok.stk with e | ⟨e,hf⟩
 ·rw[e]; exact I.funs
 ·rw[e]
  obtain⟨m,hn,_⟩:=I.loc
  refine .cons (by rw[I.ok.kind]; decide) hf hn ?_ I.funs
  exact Heap.get?_none_of_le (Nat.le_trans I.ok.bsz I.ok.above)
theorem Inv.stkSub (I:Inv X pins σ H s):∀ b ∈ frs X.stack,b ∈ X.env.locals::X.fs:=fun b hb=>by
 rcases I.ok.stk with e | ⟨e,hf⟩
 ·rw[e] at hb; exact uj _ hb
 ·rw[e] at hb
  unfold frs at hb
  rw[List.filterMap_cons,hf] at hb
  exact hb
theorem Inv.stkFree (I:Inv X pins σ H s):∀ b ∈ frs X.stack,H b=none:=fun b hb=>by
 rcases uz.mp (I.stkSub b hb) with e | hb
 ·rw[e]; exact I.free
 ·obtain⟨_,o,ho,_⟩:=I.ok.funs.mem hb
  exact I.base.free b o ho (I.ok.frf b hb) fun z=>I.ok.exfs b z hb
theorem Inv.step {g':Array GenState}{t':Nat}{d':Drawn}{ch:List Addr} (I:Inv X pins σ H s)
  (hch:∀ b ∈ ch,(b ∈ X.ex∨X.s₀.heap.objs.size<=b)/\b≠X.env.locals/\(∀ x c,X.env.cells.lookup x=some c->c≠b)/\∀ p ∈ X.pn++pins,p.1≠b)
  (keep:∀ b o,b≠X.env.locals->b ∉ X.fs->b ∉ ch->s.heap.get? b=some o->H b=none->h'.get? b=some o)
  (slot:∀ b o,b≠X.env.locals->b ∈ X.fs->b ∉ ch->s.heap.get? b=some o->H b=none->∃ sl,h'.get? b=some { o with slots:=sl }) (free:∀ b o,b ∉ ch->s.heap.get? b=some o->H b=none->H' b=none)
  (there:∀ b o,b ∉ ch->s.heap.get? b=some o->∃ o',h'.get? b=some o')
  (tups:∀ b xs,H b=some (.tup xs)->H' b=some (.tup xs)) (frzs:∀ b o u,H b=some (.frz o u)->H' b=some (.frz o u)) (tbls:∀ b ps,H b=some (.tbl ps)->∃ more,H' b=some (.tbl (ps++more)))
  (ns:∀ m,s.heap.Ns X.env.locals m->h'.Ns X.env.locals m) (hok:HOk X.prog X.w H' h') (hg:AllBare g') :
  Inv X pins σ H' { s with heap:=h',gens:=g',drawn:=d',toks:=t' }:=by
 have neL:∀ b o,X.s₀.heap.get? b=some o->b≠X.env.locals:=fun b o e=>Nat.ne_of_lt (Nat.lt_of_lt_of_le (Heap.lt_size e) I.ok.above)
 have neC:∀ b o,X.s₀.heap.get? b=some o->b ∉ X.ex->b ∉ ch:=fun b o e hx hb=>by
  rcases (hch b hb).1 with z | z
  ·exact hx z
  ·exact absurd (Nat.lt_of_lt_of_le (Heap.lt_size e) z) (Nat.lt_irrefl _)
 have cellK:∀ x c,X.env.cells.lookup x=some c->∀ v,s.heap.IsCell c v->h'.IsCell c v:=fun x c e v ⟨o,ho,hd⟩=>by
  have nch:c ∉ ch:=fun z=>(hch c z).2.2.1 x c e rfl
  by_cases hc:c ∈ X.fs
  ·obtain⟨sl,q⟩:=slot c o (I.cne x c e) hc nch ho (I.freeC x c e)
   exact⟨_,q,hd⟩
  ·exact⟨o,keep c o (I.cne x c e) hc nch ho (I.freeC x c e),hd⟩
 refine⟨I.ok,I.os,hg,⟨fun b o e n hb hx=>?_,fun b o e n hb hx=>?_,fun b o e n hx=>?_,fun b o e hx=>?_,fun b xs e=>tups b xs (I.base.tups b xs e),fun b o xs e=>frzs b o xs (I.base.frzs b o xs e),fun b ps e=>?_⟩,?_,fun x c e=>?_,?_,fun x c e=>?_,fun p hp=>?_,hok,I.len⟩
 ·exact keep b o (neL b o e) hb (neC b o e hx) (I.base.keep b o e n hb hx) (I.base.free b o e n hx)
 ·obtain⟨sl,e1⟩:=I.base.slot b o e n hb hx
  obtain⟨sl',e2⟩:=slot b _ (neL b o e) hb (neC b o e hx) e1 (I.base.free b o e n hx)
  exact⟨sl',e2⟩
 ·obtain⟨o',e1⟩:=I.base.there b o e hx
  exact free b o' (neC b o e hx) e1 (I.base.free b o e n hx)
 ·obtain⟨o',e1⟩:=I.base.there b o e hx
  exact there b o' (neC b o e hx) e1
 ·obtain⟨m1,e1⟩:=I.base.tbls b ps e
  obtain⟨m2,e2⟩:=tbls b _ e1
  exact⟨m1++m2,by rw[e2,Array.append_assoc]⟩
 ·obtain⟨m,hn,hl⟩:=I.loc
  refine⟨m,ns m hn,fun i x v e1 e2 e3=>?_⟩
  obtain⟨u,r,l⟩:=hl i x v e1 e2 e3
  refine⟨u,r,?_⟩
  rcases l with l | ⟨k,c,e,z⟩
  ·exact .inl l
  ·exact .inr ⟨k,c,e,cellK x c e _ z⟩
 ·obtain⟨v,z⟩:=I.cell x c e
  exact⟨v,cellK x c e v z⟩
 ·obtain⟨m,⟨o,_,_,ho,_⟩,_⟩:=I.loc
  exact free _ o (fun z=>(hch _ z).2.1 rfl) ho I.free
 ·obtain⟨v,o,ho,hd⟩:=I.cell x c e
  exact free c o (fun z=>(hch c z).2.2.1 x c e rfl) ho (I.freeC x c e)
 ·obtain⟨e,n,ne,nf,d⟩:=I.pin p hp
  have nch:p.1 ∉ ch:=fun z=>(hch p.1 z).2.2.2 p hp rfl
  exact⟨keep p.1 p.2 ne nf nch e n,free p.1 p.2 nch e n,ne,nf,d⟩
theorem Inv.un (I:Inv X pins σ H s) (u:Un X.fs [] H H' s.heap h') (hok:HOk X.prog X.w H' h'):Inv X pins σ H' { s with heap:=h',toks:=t' }:=by
 obtain⟨m,⟨o,es,ep,ho,r⟩,_⟩:=id I.loc
 obtain⟨sl,hL⟩:=u.any ho I.free (by simp)
 exact I.step (g':=s.gens) (d':=s.drawn) (ch:=[]) (fun _ z=>nomatch z) (fun b o _ hb _ e n=>u.keep b o e n hb (by simp)) (fun b o _ hb _ e n=>u.slot b o e n hb (by simp)) (fun b o _ e n=>u.free b o e n (by simp)) (fun b o _ e=>u.there b o e (by simp)) u.tups u.frzs u.tbls (fun m' hm=>by
  obtain⟨o',es',ep',ho',r'⟩:=hm
  rw[ho] at ho'; cases ho'
  exact⟨_,es',ep',hL,r'⟩) hok I.bare
theorem Inv.call {g':Array GenState}{d':Drawn}{ch:List Addr} (I:Inv X pins σ H s) (u:Un (frs X.stack) ch H H' s.heap h') (hok:HOk X.prog X.w H' h') (hg:AllBare g')
  (hch:∀ b ∈ ch,(b ∈ X.ex∨X.s₀.heap.objs.size<=b)/\b≠X.env.locals/\(∀ x c,X.env.cells.lookup x=some c->c≠b)/\∀ p ∈ X.pn++pins,p.1≠b) :
  Inv X pins σ H' { s with heap:=h',gens:=g',drawn:=d',toks:=t' }:=by
 obtain⟨m,⟨o,es,ep,ho,r⟩,_⟩:=id I.loc
 obtain⟨sl,hL⟩:=u.any ho I.free fun z=>(hch _ z).2.1 rfl
 exact I.step (ch:=ch) hch (fun b o hL hb hc e n=>u.keep b o e n (fun z=>(uz.mp (I.stkSub b z)).elim hL hb) hc) (fun b o _ _ hc e n=>u.any e n hc) (fun b o hc e n=>u.free b o e n hc) (fun b o hc e=>u.there b o e hc) u.tups u.frzs u.tbls (fun m' hm=>by
  obtain⟨o',es',ep',ho',r'⟩:=hm
  rw[ho] at ho'; cases ho'
  exact⟨_,es',ep',hL,r'⟩) hok hg
theorem Inv.turned {it:Addr} (I:Inv X pins σ H s) (k:∀ b o,b≠it->s.heap.get? b=some o->h'.get? b=some o) (hn:H it=none) (hL:it≠X.env.locals)
  (h1:it ∈ X.ex∨X.s₀.heap.objs.size<=it) (h2:∀ x c,X.env.cells.lookup x=some c->c≠it) (h3:∀ p ∈ X.pn++pins,p.1≠it):Inv X pins σ H { s with heap:=h',toks:=t' }:=by
 have nit:∀ b u,H b=some u->b≠it:=fun b u e z=>by rw[z,hn] at e; cases e
 refine I.step (g':=s.gens) (d':=s.drawn) (ch:=[it]) (fun b hb=>?_) (fun b o _ _ hc e _=>k b o (fun z=>hc (by simp[z])) e) (fun b o _ _ hc e _=>⟨o.slots,k b o (fun z=>hc (by simp[z])) e⟩) (fun _ _ _ _ n=>n)
  (fun b o hc e=>⟨o,k b o (fun z=>hc (by simp[z])) e⟩) (fun _ _ e=>e) (fun _ _ _ e=>e) (fun b ps e=>⟨#[],by rw[e]; simp⟩) (fun m hm=>?_) (fun b u e=>?_) I.bare
 ·have e:b=it:=by simpa using hb
  subst e
  exact⟨h1,hL,h2,h3⟩
 ·obtain⟨o,es,ep,ho,r⟩:=hm
  exact⟨o,es,ep,k _ o (Ne.symm hL) ho,r⟩
 ·refine(I.hok b u e).stay (fun c v hc q=>k c v ?_ q) (fun _ q=>q) fun _ _ q=>q
  rcases hc with z | z
  ·rw[z]; exact nit b u e
  ·exact nit c _ z
theorem Inv.tok (I:Inv X pins σ H s) (t:Nat):Inv X pins σ H { s with toks:=t }:=I.un (h':=s.heap) (t':=t) Un.refl I.hok
theorem Inv.kept (I:Inv X pins σ H s) (k:∀ b u,s.heap.get? b=some u->h'.get? b=some u):Inv X pins σ H { s with heap:=h',toks:=t' }:=I.un (Un.kept k) (I.hok.kept k)
theorem Inv.laid {a:Addr}{o:HO} (I:Inv X pins σ H s) (k:∀ b u,s.heap.get? b=some u->h'.get? b=some u) (hp:s.heap.objs.size<=a) (new:ObjOk X.prog X.w (upd H a o) h' a o) :
  Inv X pins σ (upd H a o) { s with heap:=h',toks:=t' }:=I.un (Un.laid k hp (I.hok.fresh hp)) (I.hok.laid k hp new)
theorem Inv.write {x e:Addr}{o:HO} (I:Inv X pins σ H s) (mu:Mut (H x)) (he:e=x∨H e=some (.own x)) (k:∀ b u,b≠e->s.heap.get? b=some u->h'.get? b=some u) (heo:∃ u,h'.get? e=some u)
  (new:ObjOk X.prog X.w (upd H x o) h' x o):Inv X pins σ (upd H x o) { s with heap:=h',toks:=t' }:=I.un (Un.write mu he k heo) (I.hok.write mu he k heo new)
theorem Inv.weak {σ':List (Option V)} (I:Inv X pins σ H s) (hl:σ'.length=σ.length) (w:∀ (i:Nat) v,σ'[i]?=some (some v)->σ[i]?=some (some v)):Inv X pins σ' H s :=
 ⟨I.ok,I.os,I.bare,I.base,let ⟨m,hn,hl'⟩:=I.loc; ⟨m,hn,fun i x v e1 e2 e3=>hl' i x v e1 (w i v e2) e3⟩,I.cell,I.free,I.freeC,I.pin,I.hok,hl.trans I.len⟩
theorem Inv.pins_of {pins':List (Addr×Obj)} (I:Inv X pins σ H s) (h:∀ p ∈ pins',s.heap.get? p.1=some p.2/\H p.1=none/\p.1≠X.env.locals/\p.1 ∉ X.fs/\∀ v,p.2.data≠.cell v):Inv X pins' σ H s :=
 ⟨I.ok,I.os,I.bare,I.base,I.loc,I.cell,I.free,I.freeC,fun p hp=>(uA.mp hp).elim (fun z=>I.pin p (uC _ z)) (h p),I.hok,I.len⟩
theorem nodup_ix {N:List Str} (hN:N.Nodup) {i j:Nat}{x:Str} (a:N[i]?=some x) (b:N[j]?=some x):i=j:=by
 obtain⟨h1,e1⟩:=List.getElem?_eq_some_iff.mp a
 obtain⟨h2,e2⟩:=List.getElem?_eq_some_iff.mp b
 exact(List.getElem_inj hN).mp (e1.trans e2.symm)
theorem k9 {M:Model}{i:Nat}{x:Str}{v:V}{Q:Unit->Shared->Prop} (I:Inv X pins σ H s) (hN:X.N.Nodup) (hi:X.N[i]?=some x) (hx:Loc X.env.scope x) (r:RelV v u)
  (h:∀ s',Inv X pins (σ.set i (some v)) H s'->(∃ a,Heap.SameBut a s.heap s'.heap/\(a=X.env.locals∨X.env.cells.lookup x=some a))->Q () s') (hf:X.fn x=true∨X.env.scope.names.lookup x=some .local:=by first | exact .inl rfl | exact .inr rfl | assumption):wpAny M A (storeName X.env x u) Q E s:=by
 obtain⟨m,hn,hl⟩:=id I.loc
 have hcls:(X.env.scope.kind == .class || (X.env.scope.kind == .module && X.env.locals != X.env.globals)) = false:=by rw [I.ok.kind]; rfl
 have hiσ:i<σ.length:=by rw[I.len]; exact(List.getElem?_eq_some_iff.mp hi).1
 have cne:=I.cne
 have tracked:∀ {a:Addr}{h':Heap},(∃ o,s.heap.get? a=some o/\H a=none)->Heap.SameBut a s.heap h'->HOk X.prog X.w H h':=fun {a h'} ha hs b ob e=>by
  obtain⟨_,_,hfree⟩:=ha
  refine(I.hok b ob e).stay (fun c w' hc q=>(hs.2 c ?_).trans q) (fun _ q=>q) fun _ _ q=>q
  rintro rfl
  rcases hc with rfl | hc
  ·rw[hfree] at e; cases e
  ·rw[hfree] at hc; cases hc
 rcases hx with hk | hk
 ·refine wpAny_storeName_local hk hn (fun h' hn' hs=>?_) hcls
  obtain⟨oL,_,_,hoL,_⟩:=id hn
  refine h _ ⟨I.ok,I.os,I.bare,⟨fun b o e n hb hx=>?_,fun b o e n hb hx=>?_,I.base.free,fun b o e hx=>?_,I.base.tups,I.base.frzs,I.base.tbls⟩,⟨_,hn',fun j y v' e1 e2 e3=>?_⟩,fun y c e=>?_,I.free,I.freeC,fun p hp=>?_,tracked ⟨oL,hoL,I.free⟩ hs,by simpa using I.len⟩ ⟨_,hs,.inl rfl⟩
  ·exact(hs.2 b (Nat.ne_of_lt (Nat.lt_of_lt_of_le (Heap.lt_size e) I.ok.above))).trans (I.base.keep b o e n hb hx)
  ·obtain⟨sl,e1⟩:=I.base.slot b o e n hb hx
   exact⟨sl,(hs.2 b (Nat.ne_of_lt (Nat.lt_of_lt_of_le (Heap.lt_size e) I.ok.above))).trans e1⟩
  ·obtain⟨o',e1⟩:=I.base.there b o e hx
   exact⟨o',(hs.2 b (Nat.ne_of_lt (Nat.lt_of_lt_of_le (Heap.lt_size e) I.ok.above))).trans e1⟩
  ·by_cases hj:j=i
   ·subst hj
    rw[hi] at e1; cases e1
    rw[List.getElem?_set_self hiσ] at e2
    cases e2
    exact⟨u,r,.inl ⟨hk,by simp⟩⟩
   ·rw[List.getElem?_set_ne (Ne.symm hj)] at e2
    obtain⟨u',r',q⟩:=hl j y v' e1 e2 e3
    refine⟨u',r',?_⟩
    rcases q with ⟨k,e⟩ | ⟨k,c,e,z⟩
    ·refine .inl ⟨k,?_⟩
     have:y≠x:=fun e=>hj (nodup_ix hN e1 (e ▸ hi))
     simp[this,e]
    ·exact .inr ⟨k,c,e,z.sameBut hs (cne y c e)⟩
  ·obtain⟨w',z⟩:=I.cell y c e
   exact⟨w',z.sameBut hs (cne y c e)⟩
  ·obtain⟨e,n,ne,nf,d⟩:=I.pin p hp
   exact⟨(hs.2 p.1 ne).trans e,n,ne,nf,d⟩
 ·have hfn:X.fn x=true:=by
   rcases hf with z | z
   ·exact z
   ·rw[z] at hk; cases hk
  obtain⟨c,hc⟩:=I.ok.has x (.inl hk)
  obtain⟨w',z⟩:=I.cell x c hc
  refine wpAny_storeName_cell I.ok.kind hk hc z (fun h' hc' hs=>?_)
  obtain⟨oc,hoc,hocd⟩:=id z
  refine h { s with heap:=h' } ⟨I.ok,I.os,I.bare,⟨fun b o e n hb hx=>?_,fun b o e n hb hx=>?_,I.base.free,fun b o e hx=>?_,I.base.tups,I.base.frzs,I.base.tbls⟩,⟨m,hn.sameBut hs (Ne.symm (cne x c hc)),fun j y v' e1 e2 e3=>?_⟩,fun y c' e=>?_,I.free,I.freeC,fun p hp=>?_,tracked ⟨oc,hoc,I.freeC x c hc⟩ hs,by simpa using I.len⟩ ⟨c,hs,.inr hc⟩
  ·exact(hs.2 b (Nat.ne_of_lt (Nat.lt_of_lt_of_le (Heap.lt_size e) (I.ok.cab x c hfn hc)))).trans (I.base.keep b o e n hb hx)
  ·obtain⟨sl,e1⟩:=I.base.slot b o e n hb hx
   exact⟨sl,(hs.2 b (Nat.ne_of_lt (Nat.lt_of_lt_of_le (Heap.lt_size e) (I.ok.cab x c hfn hc)))).trans e1⟩
  ·obtain⟨o',e1⟩:=I.base.there b o e hx
   exact⟨o',(hs.2 b (Nat.ne_of_lt (Nat.lt_of_lt_of_le (Heap.lt_size e) (I.ok.cab x c hfn hc)))).trans e1⟩
  ·by_cases hj:j=i
   ·subst hj
    rw[hi] at e1; cases e1
    rw[List.getElem?_set_self hiσ] at e2
    cases e2
    exact⟨u,r,.inr ⟨.inl hk,c,hc,hc'⟩⟩
   ·rw[List.getElem?_set_ne (Ne.symm hj)] at e2
    obtain⟨u',r',q⟩:=hl j y v' e1 e2 e3
    refine⟨u',r',?_⟩
    rcases q with q | ⟨k,c',e,z'⟩
    ·exact .inl q
    ·refine .inr ⟨k,c',e,z'.sameBut hs ?_⟩
     rintro rfl
     exact hj (nodup_ix hN e1 (I.ok.inj _ _ _ e hc ▸ hi))
  ·by_cases hcc:c'=c
   ·subst hcc; exact⟨_,hc'⟩
   ·obtain⟨w2,z2⟩:=I.cell y c' e
    exact⟨w2,z2.sameBut hs hcc⟩
  ·obtain⟨e,n,ne,nf,d⟩:=I.pin p hp
   refine⟨(hs.2 p.1 ?_).trans e,n,ne,nf,d⟩
   intro q
   rw[q,hoc] at e
   have q':oc=p.2:=Option.some.inj e
   exact d w' (by rw[<- q']; exact hocd)
theorem fS {M:Model}{i:Nat}{x:Str}{v:V}{Q:Unit->Shared->Prop} (I:Inv X pins σ H s) (hN:X.N.Nodup) (hi:X.N[i]?=some x) (hx:Loc X.env.scope x) (r:RelV v u)
  (h:∀ s',Inv X pins (σ.set i (some v)) H s'->Q () s') (hf:X.fn x=true∨X.env.scope.names.lookup x=some .local:=by first | exact .inl rfl | exact .inr rfl | assumption):wpAny M A (storeName X.env x u) Q E s :=
 k9 I hN hi hx r (fun s' I' _=>h s' I') hf
theorem Inv.call' {s':Shared}{ch:List Addr} (I:Inv X pins σ H s) (ho:s'.os=s.os) (u:Un (frs X.stack) ch H H' s.heap s'.heap) (hok:HOk X.prog X.w H' s'.heap) (hg:AllBare s'.gens)
  (hch:∀ b ∈ ch,(b ∈ X.ex∨X.s₀.heap.objs.size<=b)/\b≠X.env.locals/\(∀ x c,X.env.cells.lookup x=some c->c≠b)/\∀ p ∈ X.pn++pins,p.1≠b):Inv X pins σ H' s':=by
 obtain⟨h',g',d',t',o'⟩:=s'
 have e:o'=s.os:=ho
 subst e
 exact I.call (g':=g') (t':=t') (d':=d') u hok hg hch
end
noncomputable abbrev XK:=Value->Option Addr->Hp->Prop
noncomputable abbrev St:=List (Option V)
noncomputable abbrev VK:=V->Hp->Prop
noncomputable abbrev TE:=St->Hp->VK->Prop
noncomputable abbrev TT:=St->Hp->(Bool->Hp->Prop)->Prop
noncomputable abbrev TA:=St->Hp->(List V->Hp->Prop)->Prop
structure Ends where
 nx:St->Hp->Prop
 rt:VK
 bk:St->Hp->Prop:=fun _ _=>False
 ct:St->Hp->Prop:=fun _ _=>False
noncomputable abbrev TS:=Ends->St->Hp->Prop
noncomputable def EP (X:Cx) (pins:List (Addr×Obj)) (σ:St) (Q:VK) (u:Value) (s':Shared):Prop:=∃ v H',Inv X pins σ H' s'/\RelV v u/\Q v H'
noncomputable def TP (X:Cx) (pins:List (Addr×Obj)) (σ:St) (Q:Bool->Hp->Prop) (b:Bool) (s':Shared):Prop:=∃ H',Inv X pins σ H' s'/\Q b H'
noncomputable def AP (X:Cx) (pins:List (Addr×Obj)) (σ:St) (Q:List V->Hp->Prop) (us:List Value) (s':Shared):Prop:=∃ vs H',Inv X pins σ H' s'/\Vals vs us/\Q vs H'
noncomputable def SP (X:Cx) (pins:List (Addr×Obj)) (D:Ends) (f:Flow) (s':Shared):Prop :=
 match f with
 | .next=>∃ σ' H',Inv X pins σ' H' s'/\D.nx σ' H'
 | .brk=>∃ σ' H',Inv X pins σ' H' s'/\D.bk σ' H'
 | .cont=>∃ σ' H',Inv X pins σ' H' s'/\D.ct σ' H'
 | .ret u=>∃ v σ' H',Inv X pins σ' H' s'/\RelV v u/\D.rt v H'
noncomputable def PE (X:Cx) (e:Expr) (t:TE):Prop :=
 ∀ (pins:List (Addr×Obj)) (s:Shared) (σ:St) (H:Hp) (Q:VK),Inv X pins σ H s->t σ H Q->wpAny (model X.prog X.w) X.A (eval e X.env) (EP X pins σ Q) X.xe s
noncomputable def PT (X:Cx) (e:Expr) (t:TT):Prop :=
 ∀ (pins:List (Addr×Obj)) (s:Shared) (σ:St) (H:Hp) (Q:Bool->Hp->Prop),Inv X pins σ H s->t σ H Q->wpAny (model X.prog X.w) X.A (isTrue e X.env (eval e X.env)) (TP X pins σ Q) X.xe s
noncomputable def PW (X:Cx) (e:Expr) (t:TT):Prop :=
 ∀ (whole:Sem Value) (pins:List (Addr×Obj)) (s:Shared) (σ:St) (H:Hp) (Q:Bool->Hp->Prop),Inv X pins σ H s->t σ H Q->wpAny (model X.prog X.w) X.A (isTrue e X.env whole) (TP X pins σ Q) X.xe s
variable{e:Expr}
theorem PW.pt {X:Cx}{t:TT} (h:PW X e t):PT X e t:=h _
noncomputable def PA (X:Cx) (es:List Expr) (t:TA):Prop :=
 ∀ (pos:Pos) (pins:List (Addr×Obj)) (s:Shared) (σ:St) (H:Hp) (Q:List V->Hp->Prop),Inv X pins σ H s->t σ H Q->wpAny (model X.prog X.w) X.A (spliced (backTo pos (starEach es X.env))) (AP X pins σ Q) X.xe s
noncomputable def PS (X:Cx) (st:Stmt) (t:TS):Prop :=
 ∀ (pins:List (Addr×Obj)) (s:Shared) (σ:St) (H:Hp) (D:Ends),Inv X pins σ H s->t D σ H->wpAny (model X.prog X.w) X.A (exec st X.env) (SP X pins D) X.xe s
noncomputable def PSs (X:Cx) (st:List Stmt) (t:TS):Prop :=
 ∀ (pins:List (Addr×Obj)) (s:Shared) (σ:St) (H:Hp) (D:Ends),Inv X pins σ H s->t D σ H->wpAny (model X.prog X.w) X.A (execs st X.env) (SP X pins D) X.xe s
variable{s:Shared}
theorem thn {α:Type}{t:Sem α}{Q Q':α->Shared->Prop}{M:Model} (h:wpAny M A t Q E s) (hQ:∀ a s,Q a s->Q' a s):wpAny M A t Q' E s:=wpAny_mono h hQ fun _ _ x=>x
variable{pins:List (Addr×Obj)}{Q:Value->Shared->Prop}{σ:St}{pos:Pos}
section
variable {X:Cx}
inductive TV_ (i:Nat) (σ:St) (H:Hp) (Q:VK):Prop
 | mk (v:V) (h:σ[i]?=some (some v)) (q:Q v H):TV_ i σ H Q
noncomputable def oU (i:Nat):TE:=fun σ H Q=>TV_ i σ H Q
noncomputable def tC (v:V):TE:=fun _ H Q=>Q v H
theorem rK {i:Nat}{x:Str} (hN:X.N[i]?=some x) (hv:Vis X.env.scope x) (hd:(x == ("__debug__" : Str))=false:=by decide) (hcd:(x == ("__classdict__" : Str))=false:=by decide):PE X (.Name x pos) (oU i):=by
 intro pins s σ H Q I h
 obtain⟨v,e,h⟩:=h
 obtain⟨m,hn,hl⟩:=I.loc
 obtain⟨u,r,l⟩:=hl i x v hN e hv
 have fin:EP X pins σ Q u s:=⟨v,H,I,r,h⟩
 rcases l with ⟨hk,hm⟩ | ⟨hk,c,hc,hcell⟩
 ·exact wpAny_Name (wpAny_loadName_local I.ok.kind hk hn hm fin) hd
 ·rcases hk with hk | hk
  ·exact wpAny_Name (wpAny_loadName_cell I.ok.kind hk hc hcell fin) hd
  ·exact wpAny_Name (wpAny_loadName_free I.ok.kind hk hc hcell fin hcd) hd
theorem ag {i j pos}:PE X (.Constant (.int i) j pos) (tC (.int i)):=fun _ _ _ H _ I h=>wpAny_Constant_int ⟨.int i,H,I.tok _,⟨_,U⟩,h⟩
theorem cx {b j pos}:PE X (.Constant (.bool b) j pos) (tC (.bl b)):=fun _ _ _ H _ I h=>Constant_bool ⟨.bl b,H,I,U,h⟩
theorem aV {j pos}:PE X (.Constant .none j pos) (tC .non):=fun _ _ _ H _ I h=>Constant_none ⟨.non,H,I,U,h⟩
theorem aJ {x j pos}:PE X (.Constant (.str x) j pos) (tC (.str x)):=fun _ _ _ H _ I h=>Calls.Constant_str ⟨.str x,H,I.tok _,⟨_,U⟩,h⟩
noncomputable def Gl (X:Cx) (x:Str):Prop:=X.env.kindOf x=some .globalImplicit
theorem iE {x:Str} (I:Inv X pins σ H s) (hg:Gl X x) (hm:X.mg x=some u) (h:Q u s)
  (hd:(x == ("__debug__" : Str))=false:=by decide):wpAny (model X.prog X.w) X.A (eval (.Name x pos) X.env) Q E s :=
 Calls.Name_function_global I.ok.kind hg (Calls.loadGlobal_global (by rw[I.ok.glob]; exact I.mod.glob.keeps I.bk) hm h) hd
theorem dP {x:Str} (I:Inv X pins σ H s) (hg:Gl X x) (hm:X.mg x=none) (hv:bootBuiltins x=some u) (h:Q u s)
  (hn:x ≠ "__name__":=by decide) (hd:(x == ("__debug__" : Str))=false:=by decide):wpAny (model X.prog X.w) X.A (eval (.Name x pos) X.env) Q E s:=by
 obtain⟨mb,h1,h2⟩:=I.mod.blt
 exact Calls.Name_function_global I.ok.kind hg (Calls.loadGlobal_builtin (by rw[I.ok.glob]; exact I.mod.glob.keeps I.bk) hm (by rw[I.ok.blt]; exact h1.keeps I.bk) ((h2 x hn).trans hv) h) hd
theorem bU {x:Str}{v:V} (hg:Gl X x) (hm:X.mg x=some u) (r:RelV v u) (hd:(x == ("__debug__" : Str))=false:=by decide):PE X (.Name x pos) (tC v) :=
 fun _ _ _ H _ I h=>iE I hg hm ⟨v,H,I,r,h⟩ hd
theorem fH {x:Str}{v:V} (hg:Gl X x) (hm:X.mg x=none) (hv:bootBuiltins x=some u) (r:RelV v u) (hn:x ≠ "__name__":=by decide) (hd:(x == ("__debug__" : Str))=false:=by decide):PE X (.Name x pos) (tC v) :=
 fun _ _ _ H _ I h=>dP I hg hm hv ⟨v,H,I,r,h⟩ hn hd
variable {a b:Expr}{ta tb:TE}{pos:Pos}
noncomputable def PC (X:Cx) (op:CmpOp) (a b:Expr) (t:TE):Prop :=
 ∀ (pins:List (Addr×Obj)) (s:Shared) (σ:St) (H:Hp) (Q:VK),Inv X pins σ H s->t σ H Q ->
  wpAny (model X.prog X.w) X.A (eval a X.env) (fun v s₁=>wpAny (model X.prog X.w) X.A (eval b X.env) (fun u s₂=>wpAny (model X.prog X.w) X.A (compareOp op v u) (EP X pins σ Q) X.xe s₂) X.xe s₁) X.xe s
inductive TB_ (Q:Bool->Hp->Prop) (x:V) (H:Hp):Prop
 | mk (k:Bool) (h:x=.bl k) (q:Q k H):TB_ Q x H
noncomputable def tB (t:TE):TT:=fun σ H Q=>t σ H (TB_ Q)
theorem dM {op:CmpOp}{t:TE} (h:PC X op a b t) (h1:behindInMarks op b=false:=by first | exact nobehind _ (by decide) (by decide) | rfl):PT X (.Compare a [op] [b] pos) (tB t):=by
 intro pins s σ H Q I hw
 refine wpAny_isTrue_Compare1 (thn (h pins s σ H _ I hw) fun v s1 h1=>thn h1 fun u s2 h2=>thn h2 fun c s3 ⟨x,H1,I1,r1,q1⟩=>?_) h1
 obtain⟨d,rfl,q⟩:=q1
 cases r1
 exact wpAny_truthy_bool ⟨H1,I1,q⟩
theorem bx {t:TE} (h:PE X e t) (he:∀ whole,isTrue e X.env whole=(do let v <- whole; standAt e.pos; holding [v] (truthy v)):=by intro _; rfl):PT X e (tB t):=by
 intro pins s σ H Q I hw
 refine isTrue_plain (thn (h pins s σ H _ I hw) fun v s1 ⟨x,H1,I1,r1,q1⟩=>?_) (he _)
 obtain⟨d,rfl,q⟩:=q1
 cases r1
 exact wpAny_truthy_bool ⟨H1,I1,q⟩
variable {tA tB':TT}{rest:List Expr}
noncomputable def tAnd (t u:TT):TT:=fun σ H Q=>t σ H fun c H1=>if c=true then u σ H1 Q else Q false H1
noncomputable def tOr (t u:TT):TT:=fun σ H Q=>t σ H fun c H1=>if c=true then Q true H1 else u σ H1 Q
noncomputable def tNot (t:TT):TT:=fun σ H Q=>t σ H fun c H1=>Q (!c) H1
theorem da (ha:PT X a tA):PW X (.BoolOp .And [a] pos) tA:=by
 intro wh pins s σ H Q I h
 refine isTrue_and (thn (ha pins s σ H Q I h) fun c s1 e=>?_)
 cases c with
 | true=>exact isTrue_and_nil e
 | false=>exact e
theorem cO (ha:PT X a tA):PW X (.BoolOp .Or [a] pos) tA:=by
 intro wh pins s σ H Q I h
 refine isTrue_or (thn (ha pins s σ H Q I h) fun c s1 e=>?_)
 cases c with
 | false=>exact isTrue_or_nil e
 | true=>exact e
theorem dL (ha:PT X a tA) (hb:PW X (.BoolOp .And (b::rest) pos) tB'):PW X (.BoolOp .And (a::b::rest) pos) (tAnd tA tB'):=by
 intro wh pins s σ H Q I h
 refine isTrue_and (thn (ha pins s σ H _ I h) fun c s1 ⟨H1,I1,q1⟩=>?_)
 cases c with
 | true=>exact hb wh pins s1 σ H1 Q I1 q1
 | false=>exact⟨H1,I1,q1⟩
theorem dl (ha:PT X a tA) (hb:PW X (.BoolOp .Or (b::rest) pos) tB'):PW X (.BoolOp .Or (a::b::rest) pos) (tOr tA tB'):=by
 intro wh pins s σ H Q I h
 refine isTrue_or (thn (ha pins s σ H _ I h) fun c s1 ⟨H1,I1,q1⟩=>?_)
 cases c with
 | true=>exact⟨H1,I1,q1⟩
 | false=>exact hb wh pins s1 σ H1 Q I1 q1
theorem bP (ha:PT X a tA):PT X (.UnaryOp .Not a pos) (tNot tA):=by
 intro pins s σ H Q I h
 exact isTrue_not (ha pins s σ H (fun c H1=>Q (!c) H1) I h)
noncomputable def tAndV (ta tb:TE):TE:=fun σ H Q=>ta σ H fun x H1=>∃ c,x=.bl c/\if c=true then tb σ H1 Q else Q (.bl false) H1
noncomputable def tOrV (ta tb:TE):TE:=fun σ H Q=>ta σ H fun x H1=>∃ c,x=.bl c/\if c=true then Q (.bl true) H1 else tb σ H1 Q
noncomputable def tNotV (ta:TE):TE:=fun σ H Q=>ta σ H fun x H1=>∃ c,x=.bl c/\Q (.bl (!c)) H1
theorem cQ {op} {t:TE} (h:PE X a t):PE X (.BoolOp op [a] pos) t:=fun pins s σ H Q I hw=>BoolOp_one (h pins s σ H Q I hw)
theorem dc (ha:PE X a ta) (hb:PE X (.BoolOp .And (b::rest) pos) tb):PE X (.BoolOp .And (a::b::rest) pos) (tAndV ta tb):=by
 intro pins s σ H Q I h
 refine BoolOp_and (thn (ha pins s σ H _ I h) fun v s1 ⟨x,H1,I1,r1,q1⟩=>?_)
 obtain⟨c,rfl,q1⟩:=q1
 cases r1
 refine wpAny_truthy_bool ?_
 cases c with
 | true=>exact hb pins s1 σ H1 Q I1 q1
 | false=>exact⟨.bl false,H1,I1,U,q1⟩
theorem pe_or (ha:PE X a ta) (hb:PE X (.BoolOp .Or (b::rest) pos) tb):PE X (.BoolOp .Or (a::b::rest) pos) (tOrV ta tb):=by
 intro pins s σ H Q I h
 refine BoolOp_or (thn (ha pins s σ H _ I h) fun v s1 ⟨x,H1,I1,r1,q1⟩=>?_)
 obtain⟨c,rfl,q1⟩:=q1
 cases r1
 refine wpAny_truthy_bool ?_
 cases c with
 | false=>exact hb pins s1 σ H1 Q I1 q1
 | true=>exact⟨.bl true,H1,I1,U,q1⟩
theorem rL (ha:PE X a ta):PE X (.UnaryOp .Not a pos) (tNotV ta):=by
 intro pins s σ H Q I h
 refine UnaryOp_ (thn (ha pins s σ H _ I h) fun v s1 ⟨x,H1,I1,r1,q1⟩=>?_)
 obtain⟨c,rfl,q1⟩:=q1
 cases r1
 exact not_of (wpAny_truthy_bool ⟨.bl (!c),H1,I1,U,q1⟩)
noncomputable def tIf (t:TT) (ta tb:TE):TE:=fun σ H Q=>t σ H fun c H1=>if c=true then ta σ H1 Q else tb σ H1 Q
theorem dn {c:Expr} (hc:PT X c tA) (ha:PE X a ta) (hb:PE X b tb):PE X (.IfExp c a b pos) (tIf tA ta tb):=by
 intro pins s σ H Q I h
 refine wpAny_IfExp (thn (hc pins s σ H _ I h) fun d s1 ⟨H1,I1,q1⟩=>?_)
 cases d with
 | true=>exact ha pins s1 σ H1 Q I1 q1
 | false=>exact hb pins s1 σ H1 Q I1 q1
end
noncomputable def SqL (K:PySem.W.Frag) (H:Hp) (a:Addr) (xs:List V):Prop :=
 Rd H a (.lst xs) ∨
  ∃ (o:Obj) (its:Array Value) (n:Nat),K.lookup a=some o/\o.cls=.type "list" /\ o.dict=none/\o.data=.seq its n/\its.size<=sizeLine/\Vals xs its.toList
noncomputable def SqT (K:PySem.W.Frag) (H:Hp) (a:Addr) (xs:List V):Prop :=
 Rd H a (.tup xs) ∨
  ∃ (o:Obj) (its:Array Value) (n:Nat),K.lookup a=some o/\o.cls=.type "tuple" /\ o.data=.seq its n/\its.size<=sizeLine/\Vals xs its.toList
noncomputable def absV:Value->Option V
 | .none=>some .non
 | .bool b=>some (.bl b)
 | .int i _=>some (.int i)
 | .str x _=>some (.str x)
 | .bytes b _=>some (.byt b)
 | .float b _=>some (.flt b)
 | .ref a=>some (.ref a)
 | .type n=>some (.ty n)
 | _=>none
theorem RelV.abs {x:V} (r:RelV x u):absV u=some x:=by
 cases x with
 | non=>cases r; rfl
 | bl _=>cases r; rfl
 | int _=>obtain⟨t,rfl⟩:=r; rfl
 | str _=>obtain⟨t,rfl⟩:=r; rfl
 | byt _=>obtain⟨t,rfl⟩:=r; rfl
 | flt _=>obtain⟨t,rfl⟩:=r; rfl
 | ref _=>cases r; rfl
 | ty _=>cases r; rfl
theorem RelV.inj {x y:V} (r:RelV x u) (q:RelV y u):x=y:=Option.some.inj (r.abs.symm.trans q.abs)
theorem Vals.inj {xs ys:List V} (a:Vals xs us) (b:Vals ys us):xs=ys:=by
 induction a generalizing ys with
 | nil=>cases b; rfl
 | cons r t ih=>
  cases b with
  | cons r' t'=>rw[r.inj r',ih t']
variable{K:PySem.W.Frag}
section
variable {X:Cx}{pins:List (Addr×Obj)}{σ:St}{H:Hp}{s:Shared}{a:Addr}{xs ys:List V}
theorem SqL.of (h:H a=some (.lst xs)):SqL K H a xs:=.inl (.inl h)
theorem SqT.of (h:H a=some (.tup xs)):SqT K H a xs:=.inl (.inl h)
theorem Inv.list (I:Inv X pins σ H s) (h:SqL X.K H a xs):∃ its:List Value,Vals xs its/\PlainL s.heap a its.toArray/\xs.length<=sizeLine:=by
 rcases h with h | ⟨o,its,n,hk,hc,hd,hs,hz,r⟩
 ·obtain⟨z,its,n,r,e⟩:=h.ok I.hok
  exact⟨its,r,⟨_,n,e,U,U,U⟩,z⟩
 ·refine⟨its.toList,r,⟨o,n,I.kIn a o hk,hc,hd,by simpa using hs⟩,?_⟩
  have e:=r.length
  simp only[Array.length_toList] at e
  omega
theorem Inv.tuple (I:Inv X pins σ H s) (h:SqT X.K H a xs):∃ its:List Value,Vals xs its/\IsTup s.heap a its.toArray/\xs.length<=sizeLine:=by
 rcases h with h | ⟨o,its,n,hk,hc,hs,hz,r⟩
 ·obtain⟨z,its,r,p⟩:=h.ok I.hok
  exact⟨its,r,p,z⟩
 ·refine⟨its.toList,r,⟨o,I.kIn a o hk,hc,n,by simpa using hs⟩,?_⟩
  have e:=r.length
  simp only[Array.length_toList] at e
  omega
theorem Inv.list_inj (I:Inv X pins σ H s) (h:SqL X.K H a xs) (h':SqL X.K H a ys):xs=ys:=by
 obtain⟨its,r,⟨o,n,e,_,_,d⟩,_⟩:=I.list h
 obtain⟨its',r',⟨o',n',e',_,_,d'⟩,_⟩:=I.list h'
 rw[e] at e'; cases e'
 rw[d] at d'
 injection d' with d1 _
 have:its=its':=by simpa using congrArg Array.toList d1
 subst this
 exact r.inj r'
theorem Inv.tuple_inj (I:Inv X pins σ H s) (h:SqT X.K H a xs) (h':SqT X.K H a ys):xs=ys:=by
 obtain⟨its,r,⟨o,e,_,n,d⟩,_⟩:=I.tuple h
 obtain⟨its',r',⟨o',e',_,n',d'⟩,_⟩:=I.tuple h'
 rw[e] at e'; cases e'
 rw[d] at d'
 injection d' with d1 _
 have:its=its':=by simpa using congrArg Array.toList d1
 subst this
 exact r.inj r'
end
noncomputable abbrev Cx.wish (X:Cx) (E:Value->Shared->Prop):Cx:={ X with xe:=E }
noncomputable abbrev Cx.nox (X:Cx):Cx:=X.wish fun _ _=>False
theorem Cx.Ok.wish {X:Cx} (ok:X.Ok) (E:Value->Shared->Prop):(X.wish E).Ok :=
 ⟨ok.mod,ok.kind,ok.glob,ok.blt,ok.above,ok.inj,ok.has,ok.cab,ok.hd,ok.frames,ok.stk,ok.exf,ok.bs,ok.bsz,ok.noex,ok.exfs,ok.funs,ok.frf⟩
theorem Cx.Ok.unwish {X:Cx} (ok:(X.wish E).Ok):X.Ok :=
 ⟨ok.mod,ok.kind,ok.glob,ok.blt,ok.above,ok.inj,ok.has,ok.cab,ok.hd,ok.frames,ok.stk,ok.exf,ok.bs,ok.bsz,ok.noex,ok.exfs,ok.funs,ok.frf⟩
section
variable {X:Cx}{pins:List (Addr×Obj)}{σ:St}{H:Hp}{s:Shared}{E:Value->Shared->Prop}
theorem Inv.wish (I:Inv X pins σ H s) (E:Value->Shared->Prop):Inv (X.wish E) pins σ H s:=⟨I.ok.wish E,I.os,I.bare,I.base,I.loc,I.cell,I.free,I.freeC,I.pin,I.hok,I.len⟩
theorem Inv.unwish (I:Inv (X.wish E) pins σ H s):Inv X pins σ H s:=⟨I.ok.unwish,I.os,I.bare,I.base,I.loc,I.cell,I.free,I.freeC,I.pin,I.hok,I.len⟩
theorem SP.unwish {D:Ends}{f:Flow}{s':Shared} (h:SP (X.wish E) pins D f s'):SP X pins D f s':=by
 cases f with
 | next=>obtain⟨σ',H',I,q⟩:=h; exact⟨σ',H',I.unwish,q⟩
 | brk=>obtain⟨σ',H',I,q⟩:=h; exact⟨σ',H',I.unwish,q⟩
 | cont=>obtain⟨σ',H',I,q⟩:=h; exact⟨σ',H',I.unwish,q⟩
 | ret u=>obtain⟨v,σ',H',I,r,q⟩:=h; exact⟨v,σ',H',I.unwish,r,q⟩
theorem PSs.nox {st:List Stmt}{t:TS} (h:PSs X.nox st t):PSs X st t:=fun pins s σ H D I hw=>
 wpAny_mono (h pins s σ H D (I.wish _) hw) (fun _ _ q=>q.unwish) fun _ _ z=>False.elim z
end
section
variable {X:Cx}{st:Stmt}{rest:List Stmt}{t u:TS}{e:Expr}{te:TE}{pos:Pos}
noncomputable def tNext:TS:=fun D σ H=>D.nx σ H
noncomputable def sP (t u:TS):TS:=fun D σ H=>t { D with nx:=u D } σ H
theorem aj:PSs X [] tNext:=fun _ _ σ H _ I h=>wpAny_execs_nil ⟨σ,H,I,h⟩
theorem ac (h1:PS X st t) (h2:PSs X rest u):PSs X (st::rest) (sP t u):=by
 intro pins s σ H D I h
 refine wpAny_execs_cons (thn (h1 pins s σ H { D with nx:=u D } I h) fun f s1 q=>?_)
 cases f with
 | next=>
  obtain⟨σ',H',I',q⟩:=q
  exact h2 pins s1 σ' H' D I' q
 | ret v=>exact q
 | brk=>exact q
 | cont=>exact q
theorem af (h1:PS X st t):PSs X [st] t:=by
 intro pins s σ H D I h
 refine wpAny_execs_cons (thn (h1 pins s σ H D I h) fun f s1 q=>?_)
 cases f with
 | next=>exact wpAny_execs_nil q
 | ret v=>exact q
 | brk=>exact q
 | cont=>exact q
noncomputable def rc:TS:=fun D σ H=>D.bk σ H
theorem ng:PS X (.Break pos) rc:=fun _ _ σ H _ I h=>wpAny_Break ⟨σ,H,I,h⟩
theorem Inv.quiet (I:Inv X pins σ H s):interactive X.env=false:=by simp[interactive,I.ok.kind]
noncomputable def qb (te:TE):TS:=fun D σ H=>te σ H fun _ H1=>D.nx σ H1
theorem al (he:PE X e te) (hs:swapsWith e none pos.line X.env=pure false:=by rfl):PS X (.Expr e pos) (qb te):=by
 intro pins s σ H D I h
 exact wpAny_Expr_any (thn (he pins s σ H _ I h) fun v s1 ⟨x,H1,I1,r1,q1⟩=>⟨σ,H1,I1,q1⟩) I.quiet hs
noncomputable def sQ (te:TE):TS:=fun D σ H=>te σ H D.rt
theorem aq (he:PE X e te):PS X (.Return (some e) pos) (sQ te):=by
 intro pins s σ H D I h
 exact wpAny_Return_some (thn (he pins s σ H _ I h) fun v s1 ⟨x,H1,I1,r1,q1⟩=>⟨x,σ,H1,I1,r1,q1⟩)
noncomputable def tRetN:TS:=fun D _ H=>D.rt .non H
theorem pi:PS X (.Return none pos) tRetN:=fun _ _ σ H _ I h=>wpAny_Return_none ⟨.non,σ,H,I,U,h⟩
noncomputable def tIfS (c:TT) (t u:TS):TS:=fun D σ H=>c σ H fun b H1=>if b=true then t D σ H1 else u D σ H1
theorem aA {c:Expr}{a b:List Stmt}{tc:TT} (hc:PT X c tc) (ha:PSs X a t) (hb:PSs X b u):PS X (.If c a b pos) (tIfS tc t u):=by
 intro pins s σ H D I h
 refine wpAny_If (thn (hc pins s σ H _ I h) fun d s1 ⟨H1,I1,q1⟩=>?_)
 cases d with
 | true=>exact ha pins s1 σ H1 D I1 q1
 | false=>exact hb pins s1 σ H1 D I1 q1
noncomputable def qW:TS:=fun _ _ _=>False
theorem aR:PS X st qW:=fun _ _ _ _ _ _ h=>h.elim
end
noncomputable abbrev TG:=V->St->Hp->(St->Hp->Prop)->Prop
noncomputable abbrev TGs:=List V->St->Hp->(St->Hp->Prop)->Prop
noncomputable def PG (X:Cx) (target:Expr) (t:TG):Prop :=
 ∀ (pins:List (Addr×Obj)) (s:Shared) (σ:St) (H:Hp) (v:V) (u:Value) (Q:St->Hp->Prop),Inv X pins σ H s->RelV v u->t v σ H Q ->
  wpAny (model X.prog X.w) X.A (assign target X.env u) (fun _ s'=>∃ σ' H',Inv X pins σ' H' s'/\Q σ' H') X.xe s
noncomputable def PGs (X:Cx) (ts:List Expr) (t:TGs):Prop :=
 ∀ (pins:List (Addr×Obj)) (s:Shared) (σ:St) (H:Hp) (vs:List V) (us:List Value) (Q:St->Hp->Prop),Inv X pins σ H s->Vals vs us->t vs σ H Q ->
  wpAny (model X.prog X.w) X.A (assignInOrder ((assignEach ts X.env).map (·.2)) us) (fun _ s'=>∃ σ' H',Inv X pins σ' H' s'/\Q σ' H') X.xe s
noncomputable abbrev sN:=V->V->V->Hp->(Hp->Prop)->Prop
noncomputable def ug (X:Cx) (t:sN):Prop :=
 ∀ (pins:List (Addr×Obj)) (s:Shared) (σ:St) (H:Hp) (o i v:V) (ov iv u:Value) (Q:Hp->Prop),Inv X pins σ H s->RelV o ov->RelV i iv->RelV v u->t o i v H Q ->
  wpAny (model X.prog X.w) X.A (setItem ov iv u) (fun _ s'=>∃ H',Inv X pins σ H' s'/\Q H') X.xe s
noncomputable abbrev TIp:=V->V->Hp->VK->Prop
noncomputable def PIp (X:Cx) (op:Operator) (t:TIp):Prop :=
 ∀ (pins:List (Addr×Obj)) (s:Shared) (σ:St) (H:Hp) (x y:V) (v u:Value) (Q:VK),Inv X pins σ H s->RelV x v->RelV y u->t x y H Q ->
  wpAny (model X.prog X.w) X.A (inplaceOp op v u) (EP X pins σ Q) X.xe s
section
variable {X:Cx}{pos:Pos}
noncomputable def oq (i:Nat):TG:=fun v σ H Q=>Q (σ.set i (some v)) H
theorem aw {i:Nat}{x:Str} (hN:X.N.Nodup) (hi:X.N[i]?=some x) (hx:Loc X.env.scope x) (hf:X.fn x=true∨X.env.scope.names.lookup x=some .local:=by first | exact .inl rfl | exact .inr rfl | assumption):PG X (.Name x pos) (oq i):=by
 intro pins s σ H v u Q I r h
 exact wpAny_assign_Name (fS I hN hi hx r (fun s' I'=>⟨_,H,I',h⟩) hf)
noncomputable def gNil:TGs:=fun vs σ H Q=>vs=[]/\Q σ H
inductive GC_ (t:TG) (u:TGs) (vs:List V) (σ:St) (H:Hp) (Q:St->Hp->Prop):Prop
 | mk (v:V) (r:List V) (h:vs=v::r) (q:t v σ H fun σ' H'=>u r σ' H' Q):GC_ t u vs σ H Q
noncomputable def gCons (t:TG) (u:TGs):TGs:=fun vs σ H Q=>GC_ t u vs σ H Q
theorem bH:PGs X [] gNil:=by
 intro pins s σ H vs us Q I r h
 obtain⟨e,h⟩:=h
 subst e
 cases r
 exact assignInOrder_nil ⟨σ,H,I,h⟩
theorem aK {es:List Expr}{t:TG}{u:TGs} (h1:PG X e t) (h2:PGs X es u)
  (hs:(assignEach (e::es) X.env).map (·.2)=assign e X.env::(assignEach es X.env).map (·.2):=by rfl):PGs X (e::es) (gCons t u):=by
 intro pins s σ H vs us Q I r h
 obtain⟨v,vr,e1,h⟩:=h
 subst e1
 cases r with
 | cons r rr=>
  rw[hs]
  refine assignInOrder_cons (thn (h1 pins s σ H _ _ _ I r h) fun _ s1 ⟨σ1,H1,I1,q1⟩=>?_)
  exact h2 pins s1 σ1 H1 _ _ Q I1 rr q1
noncomputable def t5 (K:PySem.W.Frag) (n:Nat) (t:TGs):TG:=fun v σ H Q=>∃ a xs,v=.ref a/\SqT K H a xs/\xs.length=n/\t xs σ H Q
theorem cP {es:List Expr}{k:Nat}{t:TGs}{n:Nat} (hc:X.calm=true) (h:PGs X es t)
  (hn:(assignEach es X.env).length=n:=by rfl) (hst:(assignEach es X.env).findIdx? (·.1)=none:=by rfl):PG X (.Tuple es k pos) (t5 X.K n t):=by
 intro pins s σ H v u Q I r hw
 obtain⟨a,xs,e1,hq,hl,hw⟩:=hw
 subst e1
 cases r
 obtain⟨its,rv,ht,hz⟩:=I.tuple hq
 refine assign_Tuple_tuple (I.ok.hd hc) ht (by simp[hn,<- hl,rv.length]) hst fun h' hx=>?_
 have I1:Inv X pins σ H { s with heap:=h' }:=I.kept (t':=s.toks) fun b o e=>hx b o (Nat.ne_of_lt (Heap.lt_size e)) e
 exact h pins _ σ H xs _ Q I1 (by simpa using rv) hw
noncomputable def gSub (to ti:TE) (t:sN):TG:=fun v σ H Q=>to σ H fun o H1=>ti σ H1 fun i H2=>t o i v H2 fun H3=>Q σ H3
theorem dN {o i:Expr}{to ti:TE}{t:sN} (ho:PE X o to) (hi:PE X i ti) (hs:ug X t)
  (ha:∀ v,assign (.Subscript o i pos) X.env v=(do
   let ov <- holding [v] (eval o X.env)
   let iv <- holding [v,ov] (eval i X.env)
   standAt pos
   holding [v,ov,iv] (setItem ov iv v)
   release [v,ov,iv] []):=by intro _; rfl):PG X (.Subscript o i pos) (gSub to ti t):=by
 intro pins s σ H v u Q I r h
 rw[ha]
 refine wpAny_bind (wpAny_holding (thn (ho pins s σ H _ I h) fun ov s1 ⟨x,H1,I1,r1,q1⟩=>?_))
 refine wpAny_bind (wpAny_holding (thn (hi pins s1 σ H1 _ I1 q1) fun iv s2 ⟨y,H2,I2,r2,q2⟩=>?_))
 refine wpAny_bind (wpAny_standAt (wpAny_bind (wpAny_holding (thn (hs pins s2 σ H2 x y v ov iv u _ I2 r1 r2 r q2) fun _ s3 ⟨H3,I3,q3⟩=>?_))))
 exact wpAny_release ⟨σ,H3,I3,q3⟩
noncomputable def rh (te:TE) (g:TG):TS:=fun D σ H=>te σ H fun x H1=>g x σ H1 D.nx
theorem bJ {tg e:Expr}{te:TE}{g:TG} (he:PE X e te) (hg:PG X tg g) (hs:swapsWithSole [tg] e pos.line X.env=pure false:=by rfl) (hw:swappedStores [tg] e X.env=pure none:=by rfl)
  (h1:(assignEach [tg] X.env).map (·.2)=[assign tg X.env]:=by rfl):PS X (.Assign [tg] e pos) (rh te g):=by
 intro pins s σ H D I h
 refine wpAny_Assign_stores (thn (he pins s σ H _ I h) fun v s1 ⟨x,H1,I1,r1,q1⟩=>?_) hs hw
 rw[h1]
 exact thn (hg pins s1 σ H1 x v _ I1 r1 q1) fun _ s2 q=>q
theorem aD {i:Nat}{x:Str}{te:TE}{pos':Pos} (hN:X.N.Nodup) (hi:X.N[i]?=some x) (hx:Loc X.env.scope x) (he:PE X e te) (hs:swapsWith e (some (.Name x pos')) pos.line X.env=pure false:=by rfl) (hf:X.fn x=true∨X.env.scope.names.lookup x=some .local:=by first | exact .inl rfl | exact .inr rfl | assumption) :
  PS X (.Assign [.Name x pos'] e pos) (rh te (oq i)):=by
 intro pins s σ H D I h
 refine wpAny_Assign_Name (thn (he pins s σ H _ I h) fun v s1 ⟨y,H1,I1,r1,q1⟩=>?_) hs
 exact fS I1 hN hi hx r1 (fun s2 I2=>⟨_,H1,I2,q1⟩) hf
noncomputable def tAug (i:Nat) (te:TE) (ti:TIp):TS:=fun D σ H=>∃ x,σ[i]?=some (some x)/\te σ H fun y H1=>ti x y H1 fun z H2=>D.nx (σ.set i (some z)) H2
theorem rD {i:Nat}{x:Str}{te:TE}{op:Operator}{ti:TIp}{pos':Pos} (hN:X.N.Nodup) (hi:X.N[i]?=some x) (hx:Loc X.env.scope x) (he:PE X e te) (ho:PIp X op ti) (hf:X.fn x=true∨X.env.scope.names.lookup x=some .local:=by first | exact .inl rfl | exact .inr rfl | assumption) :
  PS X (.AugAssign (.Name x pos') op e pos) (tAug i te ti):=by
 intro pins s σ H D I h
 obtain⟨v,e1,h⟩:=h
 obtain⟨m,hn,hl⟩:=I.loc
 have vis:Vis X.env.scope x:=by rcases hx with k | k; exact .inl k; exact .inr (.inl k)
 obtain⟨u,r,l⟩:=hl i x v hi e1 vis
 refine wpAny_AugAssign_Name ?_
 have go:wpAny (model X.prog X.w) X.A (eval e X.env) (fun w s₂=>wpAny (model X.prog X.w) X.A (inplaceOp op u w) (fun r s₃=>wpAny (model X.prog X.w) X.A (storeName X.env x r) (fun _=>SP X pins D .next) X.xe s₃) X.xe s₂) X.xe s:=by
  refine thn (he pins s σ H _ I h) fun w s1 ⟨y,H1,I1,r1,q1⟩=>?_
  refine thn (ho pins s1 σ H1 v y u w _ I1 r r1 q1) fun z s2 ⟨zv,H2,I2,r2,q2⟩=>?_
  exact fS I2 hN hi hx r2 (fun s3 I3=>⟨_,H2,I3,q2⟩) hf
 rcases l with ⟨hk,hm⟩ | ⟨hk,c,hc,hcell⟩
 ·exact wpAny_loadName_local I.ok.kind hk hn hm go
 ·rcases hk with hk | hk
  ·exact wpAny_loadName_cell I.ok.kind hk hc hcell go
  ·rcases hx with k | k
   ·have:X.env.scope.names.lookup x=some .free:=hk
    rw[k] at this; cases this
   ·have:X.env.scope.names.lookup x=some .free:=hk
    rw[k] at this; cases this
noncomputable def ipI (f:Int->Int->Int):TIp:=fun x y H Q=>∃ i j,x=.int i/\y=.int j/\Q (.int (f i j)) H
theorem sA:PIp X .Add (ipI fun i j=>i+j):=by
 intro pins s σ H x y v u Q I r1 r2 h
 obtain⟨i,j,e1,e2,q⟩:=h
 subst e1; subst e2
 obtain⟨t,rfl⟩:=r1
 obtain⟨t',rfl⟩:=r2
 exact iadd_int ⟨.int _,H,I.tok _,⟨_,U⟩,q⟩
end
variable{tb:TS}
section
variable {X:Cx}{pos:Pos}
noncomputable def mH (c:TT) (tb:TS):TS:=fun D σ H=>∃ W:Nat->St->Hp->Prop,(∃ m,W m σ H)/\∀ m σ H,W m σ H ->
 c σ H fun b H1=>if b=true then ∃ N:St->Hp->Prop,(∀ σ' H',N σ' H'->∃ m',m'<m/\W m' σ' H')/\tb { D with nx:=N,ct:=N,bk:=D.nx } σ H1 else D.nx σ H1
theorem fX {c:Expr}{body:List Stmt}{tc:TT} (hp:PassesOwn (model X.prog X.w) X.A X.env X.xe) (hc:PT X c tc) (hb:PSs X body tb):PS X (.While c body [] pos) (mH tc tb):=by
 intro pins s σ H D I h
 obtain⟨W,⟨m0,w0⟩,turn⟩:=h
 refine wpAny_While (codeAny_whileLoop (fun n s'=>∃ σ' H',Inv X pins σ' H' s'/\W n σ' H') ?_ m0 ⟨σ,H,I,w0⟩)
 rintro n s1 ⟨σ1,H1,I1,w1⟩
 refine wpAny_passesOwn hp (thn (hc pins s1 σ1 H1 _ I1 (turn n σ1 H1 w1)) fun b s2 ⟨H2,I2,q2⟩=>?_)
 cases b with
 | true=>
  obtain⟨N,hN,q2⟩:=q2
  rw[if_pos rfl]
  refine wpAny_passesOwn hp (thn (hb pins s2 σ1 H2 _ I2 q2) fun f s3 q3=>?_)
  cases f with
  | next=>
   obtain⟨σ3,H3,I3,n3⟩:=q3
   obtain⟨m',hm,w3⟩:=hN σ3 H3 n3
   exact⟨m',hm,σ3,H3,I3,w3⟩
  | cont=>
   obtain⟨σ3,H3,I3,n3⟩:=q3
   obtain⟨m',hm,w3⟩:=hN σ3 H3 n3
   exact⟨m',hm,σ3,H3,I3,w3⟩
  | brk=>exact q3
  | ret v=>exact q3
 | false=>
  rw[if_neg Bool.false_ne_true]
  exact wpAny_execs_nil ⟨σ1,H2,I2,q2⟩
end
structure It where
 go:Nat->Hp->Prop
 yld:Nat->Hp->V->Hp->Prop
 stop:Nat->Hp->Prop
noncomputable def eT (X:Cx) (pins:List (Addr×Obj)) (H:Hp) (b:Addr):Prop :=
 H b=none/\b≠X.env.locals/\b ∉ X.fs/\(b ∈ X.ex∨X.s₀.heap.objs.size<=b)/\(∀ x c,X.env.cells.lookup x=some c->c≠b)/\∀ p ∈ X.pn++pins,p.1≠b
theorem Inv.fpOk {X:Cx}{H H':Hp}{b:Addr} (I:Inv X pins σ H s) (hb:s.heap.objs.size<=b) (hn:H' b=none):eT X pins H' b:=by
 refine⟨hn,Nat.ne_of_gt (Nat.lt_of_lt_of_le I.lt hb),I.nofs hb,.inr (Nat.le_trans I.sz hb),fun x c e z=>?_,fun p hp z=>?_⟩
 ·obtain⟨v,q⟩:=I.cell x c e
  exact absurd (Nat.lt_of_lt_of_le q.lt (by rw[z]; exact hb)) (Nat.lt_irrefl _)
 ·exact absurd (Nat.lt_of_lt_of_le (Heap.lt_size (I.pin p hp).1) (by rw[z]; exact hb)) (Nat.lt_irrefl _)
structure Turn (P:Program) (w:World) (K:PySem.W.Frag) (tg:Expr) (J:It) (fp:List Addr) (it:Addr) (tn:Nat->Heap->Prop):Prop where
 mem:it ∈ fp
 obj:∀ i h,tn i h->∀ b ∈ fp,∃ o,h.get? b=some o/\∀ v,o.data≠.cell v
 keep:∀ i h h',tn i h->(∀ b ∈ fp,∀ o,h.get? b=some o->h'.get? b=some o)->tn i h'
 item:∀ (X:Cx),X.prog=P->X.w=w->X.K=K->X.calm=true->∀ (i:Nat) (pins:List (Addr×Obj)) (s:Shared) (σ:St) (H:Hp) (E:Value->Shared->Prop),Inv X pins σ H s->(∀ b ∈ fp,eT X pins H b)->tn i s.heap->J.go i H ->
  wpAny (model P w) X.A (pyNext (.ref it)) (fun r s1=>∃ u,r=some u /\
   wpAny (model P w) X.A (letOwnedTupleGo tg (.ref it) u) (fun _ s2=>∃ x H',Inv X pins σ H' s2/\RelV x u/\J.yld i H x H'/\tn (i+1) s2.heap/\∀ b ∈ fp,H' b=none) E s1) E s
 done:∀ (X:Cx),X.prog=P->X.w=w->X.K=K->X.calm=true->∀ (i:Nat) (pins:List (Addr×Obj)) (s:Shared) (σ:St) (H:Hp) (E:Value->Shared->Prop),Inv X pins σ H s->(∀ b ∈ fp,eT X pins H b)->tn i s.heap->J.stop i H ->
  wpAny (model P w) X.A (pyNext (.ref it)) (fun r s1=>r=none/\Inv X pins σ H s1) E s
 self:∀ (A:Around) (i:Nat) (s:Shared) (Q:Value->Shared->Prop) (E:Value->Shared->Prop),tn i s.heap->Q (.ref it) s->wpAny (model P w) A (pyIter (.ref it)) Q E s
noncomputable abbrev TI:=St->Hp->(It->Hp->Prop)->Prop
noncomputable def PIE (X:Cx) (pins:List (Addr×Obj)) (σ:St) (tg:Expr) (R:It->Hp->Prop) (itv:Value) (s2:Shared):Prop :=
 ∃ (it:Addr) (fp:List Addr) (tn:Nat->Heap->Prop) (J:It) (H':Hp),itv=.ref it/\Inv X pins σ H' s2/\Turn X.prog X.w X.K tg J fp it tn/\tn 0 s2.heap/\(∀ b ∈ fp,eT X pins H' b)/\R J H'
noncomputable def PI (X:Cx) (tg iter:Expr) (wi:TI):Prop :=
 ∀ (pins:List (Addr×Obj)) (s:Shared) (σ:St) (H:Hp) (R:It->Hp->Prop),Inv X pins σ H s->wi σ H R ->
  wpAny (model X.prog X.w) X.A (eval iter X.env) (fun v s1=>wpAny (model X.prog X.w) X.A (pyIter v) (PIE X pins σ tg R) X.xe s1) X.xe s
theorem kM {M : Model}{A : Around}{E : Value->Shared->Prop}{s : Shared}{tg : Expr}{it : Addr}{u : Value}{o : Obj}{n : String}{vs : Array Value}{Q : Unit->Shared->Prop} (ho : s.heap.get? it=some o) (hc : o.cls=.type n) (hd : o.data=.fields vs)
    (hn : ["enumerate", "zip", "dict_itemiterator", "dict_reverseitemiterator", "odict_iterator", "itertools.zip_longest", "itertools.pairwise"].contains n=false) (hQ : Q () s) : wpAny M A (letOwnedTupleGo tg (.ref it) u) Q E s := by
  unfold letOwnedTupleGo
  cases tg <;> first
    | exact wpAny_pure hQ
    | (cases u <;> first
        | exact wpAny_pure hQ
        | (refine wpAny_bind (wpAny_load ho ?_)
           rw[hc, hd]
           show wpAny M A (if (["enumerate", "zip", "dict_itemiterator", "dict_reverseitemiterator", "odict_iterator", "itertools.zip_longest", "itertools.pairwise"].contains n && vs[0]? == some (rawInt _))=true then _ else _) Q E s
           rw[if_neg (by intro h; rw[hn, Bool.false_and] at h; cases h)]
           exact wpAny_pure hQ))
noncomputable def Itl (K:PySem.W.Frag) (a:Addr):It :=
 ⟨fun i H=>∃ xs x,SqL K H a xs/\xs[i]?=some x,fun i H x H'=>H'=H/\∀ xs,SqL K H a xs->xs[i]?=some x,fun i H=>∃ xs,SqL K H a xs/\xs.length<=i⟩
noncomputable def Itt (K:PySem.W.Frag) (a:Addr):It :=
 ⟨fun i H=>∃ xs x,SqT K H a xs/\xs[i]?=some x,fun i H x H'=>H'=H/\∀ xs,SqT K H a xs->xs[i]?=some x,fun i H=>∃ xs,SqT K H a xs/\xs.length<=i⟩
noncomputable def Itr (lo:Int) (n:Nat):It:=⟨fun i _=>i<n,fun i H x H'=>H'=H/\x=.int (lo+i),fun i _=>n<=i⟩
theorem gR {tg:Expr} (a it:Addr):Turn P w K tg (Itl K a) [it] it (fun i h=>h.IsListIter it a i) where
 mem:=by simp
 obj:=fun i h st b hb=>by
  have e:b=it:=by simpa using hb
  subst e
  obtain⟨o,e,c,d⟩:=st
  exact⟨o,e,fun v z=>by rw[d] at z; cases z⟩
 keep:=fun i h h' st k=>st.at fun o e=>k it (by simp) o e
 item:=by
  intro X hP hw hK hc i pins s σ H E I hf st hg
  subst hP hw hK
  obtain⟨xs,x,hq,hx⟩:=hg
  obtain⟨its,rv,p,hz⟩:=I.list hq
  obtain⟨u,hu,ru⟩:=rv.get hx
  obtain⟨f0,f1,f2,f3,f4,f5⟩:=hf it (by simp)
  refine wpAny_pyNext_list_item st p.isList (x:=u) (by simpa using hu) fun h' st' sb=>?_
  have I1:Inv X pins σ H { s with heap:=h' }:=I.turned (t':=s.toks) (fun b o hb e=>(sb.2 b hb).trans e) f0 f1 f3 f4 f5
  obtain⟨o,e,c,d⟩:=id st'
  exact⟨u,U,kM (s:={ s with heap:=h' }) e c d (by decide) ⟨x,H,I1,ru,⟨U,fun ys hy=>by rw[I.list_inj hy hq]; exact hx⟩,st',fun b hb=>(hf b hb).1⟩⟩
 done:=by
  intro X hP hw hK hc i pins s σ H E I hf st hg
  subst hP hw hK
  obtain⟨xs,hq,hx⟩:=hg
  obtain⟨its,rv,p,hz⟩:=I.list hq
  obtain⟨f0,f1,f2,f3,f4,f5⟩:=hf it (by simp)
  have hl:=rv.length
  exact wpAny_pyNext_list_end (I.ok.hd hc) st p.isList (by simp; omega) fun h' eb=>⟨U,I.turned (t':=s.toks) (fun b o hb e=>eb b o hb e) f0 f1 f3 f4 f5⟩
 self:=fun _ _ _ _ _ st h=>wpAny_pyIter_listiter st h
theorem fQ {tg:Expr} (a it:Addr):Turn P w K tg (Itt K a) [it] it (fun i h=>h.IsTupleIter it a i) where
 mem:=by simp
 obj:=fun i h st b hb=>by
  have e:b=it:=by simpa using hb
  subst e
  obtain⟨o,e,c,d⟩:=st
  exact⟨o,e,fun v z=>by rw[d] at z; cases z⟩
 keep:=fun i h h' st k=>st.at fun o e=>k it (by simp) o e
 item:=by
  intro X hP hw hK hc i pins s σ H E I hf st hg
  subst hP hw hK
  obtain⟨xs,x,hq,hx⟩:=hg
  obtain⟨its,rv,p,hz⟩:=I.tuple hq
  obtain⟨u,hu,ru⟩:=rv.get hx
  obtain⟨f0,f1,f2,f3,f4,f5⟩:=hf it (by simp)
  refine wpAny_pyNext_tuple_item st (show s.heap.IsTuple a its.toArray from p) (x:=u) (by simpa using hu) fun h' st' sb=>?_
  have I1:Inv X pins σ H { s with heap:=h' }:=I.turned (t':=s.toks) (fun b o hb e=>(sb.2 b hb).trans e) f0 f1 f3 f4 f5
  obtain⟨o,e,c,d⟩:=id st'
  exact⟨u,U,kM (s:={ s with heap:=h' }) e c d (by decide) ⟨x,H,I1,ru,⟨U,fun ys hy=>by rw[I.tuple_inj hy hq]; exact hx⟩,st',fun b hb=>(hf b hb).1⟩⟩
 done:=by
  intro X hP hw hK hc i pins s σ H E I hf st hg
  subst hP hw hK
  obtain⟨xs,hq,hx⟩:=hg
  obtain⟨its,rv,p,hz⟩:=I.tuple hq
  obtain⟨f0,f1,f2,f3,f4,f5⟩:=hf it (by simp)
  have hl:=rv.length
  exact wpAny_pyNext_tuple_end (I.ok.hd hc) st (show s.heap.IsTuple a its.toArray from p) (by simp; omega) fun h' eb=>⟨U,I.turned (t':=s.toks) (fun b o hb e=>eb b o hb e) f0 f1 f3 f4 f5⟩
 self:=fun _ _ _ _ _ st h=>wpAny_pyIter_tupleiter st h
theorem jE {tg:Expr} (it:Addr) (lo:Int) (n:Nat):Turn P w K tg (Itr lo n) [it] it (fun i h=>IsRangeIter h it (lo+(i:Nat)*1) ((n:Int) - (i:Nat)) 1) where
 mem:=by simp
 obj:=fun i h st b hb=>by
  have e:b=it:=by simpa using hb
  subst e
  exact⟨_,st,fun v z=>by
   have z':Data.fields _=Data.cell v:=z
   cases z'⟩
 keep:=fun i h h' st k=>k it (by simp) _ st
 item:=by
  intro X hP hw hK hc i pins s σ H E I hf st hg
  subst hP hw hK
  obtain⟨f0,f1,f2,f3,f4,f5⟩:=hf it (by simp)
  have W:=Walks.range (prog:=X.prog) (w:=X.w) (I.ok.hd hc) it lo 1 n
  refine W.item i s _ _ hg st fun v h' tk hv st' kk=>?_
  obtain⟨t,rfl⟩:=hv
  have I1:Inv X pins σ H { s with heap:=h',toks:=tk }:=I.turned (fun b o hb e=>kk b o (by simpa using hb) e) f0 f1 f3 f4 f5
  refine⟨_,U,kM (s:={ s with heap:=h',toks:=tk }) (n := "range_iterator") st' rfl rfl (by decide) ⟨.int (lo+i),H,I1,⟨t,?_⟩,⟨U,U⟩,st',fun b hb=>(hf b hb).1⟩⟩
  rw[Int.mul_one]
 done:=by
  intro X hP hw hK hc i pins s σ H E I hf st hg
  subst hP hw hK
  obtain⟨f0,f1,f2,f3,f4,f5⟩:=hf it (by simp)
  exact wpAny_pyNext_range_end (I.ok.hd hc) st (by have:n<=i:=hg; omega) fun h' eb=>⟨U,I.turned (t':=s.toks) (fun b o hb e=>eb b o hb e) f0 f1 f3 f4 f5⟩
 self:=fun _ _ _ _ _ st h=>wpAny_pyIter_rangeiter st h
section
variable {X:Cx}{tg:Expr}
noncomputable def iList (K:PySem.W.Frag) (tl:TE):TI:=fun σ H R=>tl σ H fun x H1=>∃ a,x=.ref a/\(∃ xs,SqL K H1 a xs)/\R (Itl K a) H1
noncomputable def iTup (K:PySem.W.Frag) (tl:TE):TI:=fun σ H R=>tl σ H fun x H1=>∃ a,x=.ref a/\(∃ xs,SqT K H1 a xs)/\R (Itt K a) H1
theorem br {l:Expr}{tl:TE} (hl:PE X l tl):PI X tg l (iList X.K tl):=by
 intro pins s σ H R I h
 refine thn (hl pins s σ H _ I h) fun v s1 ⟨x,H1,I1,r1,q1⟩=>?_
 obtain⟨a,e,⟨xs,hq⟩,q⟩:=q1
 subst e
 cases r1
 obtain⟨its,rv,p,hz⟩:=I1.list hq
 refine wpAny_pyIter_list p.isList ?_
 refine⟨s1.heap.objs.size,[s1.heap.objs.size],_,_,H1,U,I1.kept (t':=s1.toks) fun b o e=>Heap.get?_push_of_some _ e,gR a _,⟨_,Heap.get?_push_size _ rfl,U,U⟩,fun b hb=>?_,q⟩
 have e:b=s1.heap.objs.size:=by simpa using hb
 subst e
 exact I1.fpOk (Nat.le_refl _) (I1.hok.fresh (Nat.le_refl _))
theorem rG {l:Expr}{tl:TE} (hl:PE X l tl):PI X tg l (iTup X.K tl):=by
 intro pins s σ H R I h
 refine thn (hl pins s σ H _ I h) fun v s1 ⟨x,H1,I1,r1,q1⟩=>?_
 obtain⟨a,e,⟨xs,hq⟩,q⟩:=q1
 subst e
 cases r1
 obtain⟨its,rv,p,hz⟩:=I1.tuple hq
 refine wpAny_pyIter_tuple (show s1.heap.IsTuple a its.toArray from p) ?_
 refine⟨s1.heap.objs.size,[s1.heap.objs.size],_,_,H1,U,I1.kept (t':=s1.toks) fun b o e=>Heap.get?_push_of_some _ e,fQ a _,⟨_,Heap.get?_push_size _ rfl,U,U⟩,fun b hb=>?_,q⟩
 have e:b=s1.heap.objs.size:=by simpa using hb
 subst e
 exact I1.fpOk (Nat.le_refl _) (I1.hok.fresh (Nat.le_refl _))
theorem i9 {R:It->Hp->Prop}{lo hi:Int}{t u v:Tok}{tk:Nat} (I:Inv X pins σ H s) (h1:-(2 ^ 62)<=lo) (h2:lo<2 ^ 62) (h3:-(2 ^ 62)<=hi) (h4:hi<2 ^ 62)
  (q:R (Itr lo (hi - lo).toNat) H):wpAny (model X.prog X.w) X.A (pyIter (.ref s.heap.objs.size)) (PIE X pins σ tg R) E { s with heap:=s.heap.push { cls:=.type "range",data:=.fields #[.int lo t,.int hi u,.int 1 v] },toks:=tk }:=by
 refine wpAny_pyIter_range (IsRange.new ..) (small_one h1 h2 h3 h4) ?_
 have I1:Inv X pins σ H { s with heap:=s.heap.push { cls:=.type "range",data:=.fields #[.int lo t,.int hi u,.int 1 v] },toks:=tk }:=I.kept fun b o e=>Heap.get?_push_of_some _ e
 refine⟨(s.heap.push { cls:=.type "range",data:=.fields #[.int lo t,.int hi u,.int 1 v] }).objs.size,[(s.heap.push { cls:=.type "range",data:=.fields #[.int lo t,.int hi u,.int 1 v] }).objs.size],_,_,H,U,
  I1.kept (t':=tk) fun b o e=>Heap.get?_push_of_some _ e,jE _ lo (hi - lo).toNat,?_,fun b hb=>?_,q⟩
 ·have e1:lo+((0:Nat):Int)*1=lo:=by simp
  have e2:(((hi - lo).toNat:Nat):Int) - ((0:Nat):Int)=Builtin.Range.rangeSize lo hi 1:=by rw[rangeSize_one]; split <;> omega
  show IsRangeIter _ _ (lo+((0:Nat):Int)*1) ((((hi - lo).toNat:Nat):Int) - ((0:Nat):Int)) 1
  rw[e1,e2]
  exact Heap.get?_push_size _ rfl
 ·have e:b=(s.heap.push { cls:=.type "range",data:=.fields #[.int lo t,.int hi u,.int 1 v] }).objs.size:=by simpa using hb
  subst e
  exact I1.fpOk (Nat.le_refl _) (I1.hok.fresh (Nat.le_refl _))
noncomputable def iRng1 (ta:TA):TI:=fun σ H R=>ta σ H fun vs H1=>∃ j:Int,vs=[.int j]/\-(2 ^ 62)<=j/\j<2 ^ 62/\R (Itr 0 j.toNat) H1
noncomputable def iRng2 (ta:TA):TI:=fun σ H R=>ta σ H fun vs H1=>∃ i j:Int,vs=[.int i,.int j]/\(-(2 ^ 62)<=i/\i<2 ^ 62/\-(2 ^ 62)<=j/\j<2 ^ 62)/\R (Itr i (j - i).toNat) H1
theorem bG {a:Expr}{ta:TA}{p pos:Pos} (hg:Gl X "range") (hm:X.mg "range" = none) (ha:PA X [a] ta) (hs:starEach [a] X.env=[(false,eval a X.env)]:=by rfl):PI X tg (.Call (.Name "range" p) [a] [] pos) (iRng1 ta):=by
 intro pins s σ H R I h
 refine Call_ (dP I hg hm boot_range (PyProof.Rows.callWith_type1 (thn (ha pos pins s σ H _ I h) fun us s1 ⟨vs,H1,I1,r1,q1⟩=>?_) hs rfl))
 obtain⟨j,e,q1,q2,q⟩:=q1
 subst e
 cases r1 with
 | cons r rr=>
  cases rr
  obtain⟨t,rfl⟩:=r
  exact call_range_1 (i9 I1 (by omega) (by omega) q1 q2 (by simpa using q))
theorem lh {a b:Expr}{ta:TA}{p pos:Pos} (hg:Gl X "range") (hm:X.mg "range" = none) (ha:PA X [a,b] ta) (hs:starEach [a,b] X.env=[(false,eval a X.env),(false,eval b X.env)]:=by rfl) (hs2:starEach [b] X.env=[(false,eval b X.env)]:=by rfl) :
  PI X tg (.Call (.Name "range" p) [a,b] [] pos) (iRng2 ta):=by
 intro pins s σ H R I h
 refine Call_ (dP I hg hm boot_range (PyProof.Rows.callWith_type1 (thn (ha pos pins s σ H _ I h) fun us s1 ⟨vs,H1,I1,r1,q1⟩=>?_) (by rw[hs,hs2]) (by rw[hs2]; rfl)))
 obtain⟨i,j,e,⟨q1,q2,q3,q4⟩,q⟩:=q1
 subst e
 cases r1 with
 | cons r rr=>
  cases rr with
  | cons r' rr=>
   cases rr
   obtain⟨t,rfl⟩:=r
   obtain⟨t',rfl⟩:=r'
   exact call_range_2 (i9 I1 q1 q2 q3 q4 q)
noncomputable def tFor (wi:TI) (g:TG) (tb:TS):TS:=fun D σ H=>wi σ H fun J H1=>∃ W:Nat->Nat->St->Hp->Prop,(∃ m,W 0 m σ H1)/\∀ i m σ H,W i m σ H ->
 (J.stop i H/\D.nx σ H)∨(J.go i H/\∃ N:St->Hp->Prop,(∀ σ' H',N σ' H'->∃ m',m'<m/\W (i+1) m' σ' H')/\∀ x H',J.yld i H x H'->g x σ H' fun σ2 H2=>tb { D with nx:=N,ct:=N,bk:=D.nx } σ2 H2)
noncomputable def eV (fp:List Addr) (h:Heap):List (Addr×Obj):=fp.filterMap fun b=>(h.get? b).map fun o=>(b,o)
theorem bQ {fp:List Addr}{b:Addr}{o:Obj} (hb:b ∈ fp) (e:h.get? b=some o):(b,o) ∈ eV fp h:=List.mem_filterMap.mpr ⟨b,hb,by rw[e]; rfl⟩
theorem lp {fp:List Addr}{p:Addr×Obj} (hp:p ∈ eV fp h):p.1 ∈ fp/\h.get? p.1=some p.2:=by
 obtain⟨b,hb,e⟩:=List.mem_filterMap.mp hp
 cases q:h.get? b with
 | none=>rw[q] at e; cases e
 | some o=>
  rw[q] at e
  have e':(b,o)=p:=Option.some.inj e
  subst e'
  exact⟨hb,q⟩
theorem Inv.pinned {fp:List Addr} (I:Inv X pins σ H s) (hf:∀ b ∈ fp,eT X pins H b) (ho:∀ b ∈ fp,∃ o,s.heap.get? b=some o/\∀ v,o.data≠.cell v):Inv X (pins++eV fp s.heap) σ H s :=
 I.pins_of fun p hp=>(uA.mp hp).elim (fun z=>I.pin p (ul _ z)) fun z=>by
  obtain⟨hb,e⟩:=lp z
  obtain⟨f0,f1,f2,_⟩:=hf p.1 hb
  obtain⟨o,e',d⟩:=ho p.1 hb
  rw[e] at e'; cases e'
  exact⟨e,f0,f1,f2,d⟩
theorem Inv.unpinned {pins pl:List (Addr×Obj)} (I:Inv X (pins++pl) σ H s):Inv X pins σ H s:=I.pins_of fun p hp=>I.pin p (ul _ (uC _ hp))
theorem bD {iter:Expr}{body:List Stmt}{wi:TI}{g:TG} (hp:PassesOwn (model X.prog X.w) X.A X.env X.xe) (hc:X.calm=true) (hi:PI X tg iter wi) (hg:PG X tg g) (hb:PSs X body tb)
  (hs:∀ x,foldedSetIterable iter X.env x=pure x:=by intro _; rfl):PS X (.For tg iter body [] pos) (tFor wi g tb):=by
 intro pins s σ H D I h
 refine wpAny_For (thn (hi pins s σ H _ I h) fun v s1 h1=>thn h1 fun itv s2 h2=>?_) hs
 obtain⟨it,fp,tn,J,H2,e,I2,T,st2,f2,W,⟨m0,w0⟩,turn⟩:=h2
 subst e
 have stat:∀ {H':Hp},(∀ b ∈ fp,H' b=none)->∀ b ∈ fp,eT X pins H' b:=fun hn b hb=>⟨hn b hb,(f2 b hb).2⟩
 refine codeAny_forLoop_any (fun n s'=>∃ i σ' H',Inv X pins σ' H' s'/\tn i s'.heap/\(∀ b ∈ fp,H' b=none)/\W i n σ' H') ?_ m0 ⟨0,σ,H2,I2,st2,fun b hb=>(f2 b hb).1,w0⟩
 rintro n s3 ⟨i,σ3,H3,I3,st3,fr3,w3⟩
 rcases turn i n σ3 H3 w3 with ⟨stop,qn⟩ | ⟨go,N,hN,step⟩
 ·refine wpAny_passesOwn hp (thn (T.done X rfl rfl rfl hc i pins s3 σ3 H3 X.xe I3 (stat fr3) st3 stop) fun r s4 ⟨hr,I4⟩=>?_)
  subst hr
  exact wpAny_execs_nil ⟨σ3,H3,I4,qn⟩
 ·refine wpAny_passesOwn hp (thn (T.item X rfl rfl rfl hc i pins s3 σ3 H3 X.xe I3 (stat fr3) st3 go) fun r s4 ⟨u,hr,h4⟩=>?_)
  subst hr
  refine wpAny_passesOwn hp (thn h4 fun _ s5 ⟨x,H5,I5,r5,y5,st5,fr5⟩=>?_)
  have I5':=I5.pinned (stat fr5) (T.obj _ _ st5)
  refine wpAny_passesOwn hp (thn (hg _ s5 σ3 H5 x u _ I5' r5 (step x H5 y5)) fun _ s6 ⟨σ6,H6,I6,q6⟩=>?_)
  refine wpAny_passesOwn hp (thn (hb _ s6 σ6 H6 _ I6 q6) fun f s7 q7=>?_)
  have again:∀ {σ7:St}{H7:Hp},Inv X (pins++eV fp s5.heap) σ7 H7 s7->N σ7 H7->∃ m,m<n/\∃ i σ' H',Inv X pins σ' H' s7/\tn i s7.heap/\(∀ b ∈ fp,H' b=none)/\W i m σ' H':=fun {σ7 H7} I7 n7=>by
   obtain⟨m',hm,w7⟩:=hN σ7 H7 n7
   refine⟨m',hm,i+1,σ7,H7,I7.unpinned,T.keep _ _ _ st5 fun b hb o e=>(I7.pin (b,o) (ul _ (ul _ (bQ hb e)))).1,fun b hb=>?_,w7⟩
   obtain⟨o,e,d⟩:=T.obj _ _ st5 b hb
   exact(I7.pin (b,o) (ul _ (ul _ (bQ hb e)))).2.1
  cases f with
  | next=>obtain⟨σ7,H7,I7,n7⟩:=q7; exact again I7 n7
  | cont=>obtain⟨σ7,H7,I7,n7⟩:=q7; exact again I7 n7
  | brk=>obtain⟨σ7,H7,I7,q7⟩:=q7; exact⟨σ7,H7,I7.unpinned,q7⟩
  | ret v=>obtain⟨x7,σ7,H7,I7,r7,q7⟩:=q7; exact⟨x7,σ7,H7,I7.unpinned,r7,q7⟩
end
theorem cI {K:PySem.W.Frag}{a:Addr}{xs:List V}{g:TG}{D:Ends} (Pv:Nat->St->Hp->Prop) (h0:Pv 0 σ H) (hl:∀ i σ H,i<=xs.length->Pv i σ H->SqL K H a xs)
  (hs:∀ i x σ H,xs[i]?=some x->Pv i σ H->g x σ H fun σ2 H2=>tb { D with nx:=Pv (i+1),ct:=Pv (i+1),bk:=D.nx } σ2 H2) (hd:∀ σ H,Pv xs.length σ H->D.nx σ H) :
  ∃ W:Nat->Nat->St->Hp->Prop,(∃ m,W 0 m σ H)/\∀ i m σ H,W i m σ H ->
   ((Itl K a).stop i H/\D.nx σ H)∨((Itl K a).go i H/\∃ N:St->Hp->Prop,(∀ σ' H',N σ' H'->∃ m',m'<m/\W (i+1) m' σ' H')/\∀ x H',(Itl K a).yld i H x H'->g x σ H' fun σ2 H2=>tb { D with nx:=N,ct:=N,bk:=D.nx } σ2 H2):=by
 refine⟨fun i m σ H=>m=xs.length - i/\i<=xs.length/\Pv i σ H,⟨xs.length,by simp,Nat.zero_le _,h0⟩,?_⟩
 rintro i m σ H ⟨rfl,hi,p⟩
 have q:=hl i σ H hi p
 by_cases hlt:i<xs.length
 ·refine .inr ⟨⟨xs,xs[i],q,by simp[hlt]⟩,Pv (i+1),fun σ' H' p'=>⟨xs.length - (i+1),by omega,U,hlt,p'⟩,fun x H' y=>?_⟩
  obtain⟨e,y⟩:=y
  subst e
  exact hs i x σ _ (y xs q) p
 ·have e:i=xs.length:=by omega
  subst e
  exact .inl ⟨⟨xs,q,Nat.le_refl _⟩,hd σ H p⟩
theorem pM {a:Addr}{xs:List V}{g:TG}{D:Ends} (Pv:Nat->St->Hp->Prop) (h0:Pv 0 σ H) (hl:∀ i σ H,i<=xs.length->Pv i σ H->SqT K H a xs)
  (hs:∀ i x σ H,xs[i]?=some x->Pv i σ H->g x σ H fun σ2 H2=>tb { D with nx:=Pv (i+1),ct:=Pv (i+1),bk:=D.nx } σ2 H2) (hd:∀ σ H,Pv xs.length σ H->D.nx σ H) :
  ∃ W:Nat->Nat->St->Hp->Prop,(∃ m,W 0 m σ H)/\∀ i m σ H,W i m σ H ->
   ((Itt K a).stop i H/\D.nx σ H)∨((Itt K a).go i H/\∃ N:St->Hp->Prop,(∀ σ' H',N σ' H'->∃ m',m'<m/\W (i+1) m' σ' H')/\∀ x H',(Itt K a).yld i H x H'->g x σ H' fun σ2 H2=>tb { D with nx:=N,ct:=N,bk:=D.nx } σ2 H2):=by
 refine⟨fun i m σ H=>m=xs.length - i/\i<=xs.length/\Pv i σ H,⟨xs.length,by simp,Nat.zero_le _,h0⟩,?_⟩
 rintro i m σ H ⟨rfl,hi,p⟩
 have q:=hl i σ H hi p
 by_cases hlt:i<xs.length
 ·refine .inr ⟨⟨xs,xs[i],q,by simp[hlt]⟩,Pv (i+1),fun σ' H' p'=>⟨xs.length - (i+1),by omega,U,hlt,p'⟩,fun x H' y=>?_⟩
  obtain⟨e,y⟩:=y
  subst e
  exact hs i x σ _ (y xs q) p
 ·have e:i=xs.length:=by omega
  subst e
  exact .inl ⟨⟨xs,q,Nat.le_refl _⟩,hd σ H p⟩
theorem bS {lo:Int}{n:Nat}{g:TG}{D:Ends} (Pv:Nat->St->Hp->Prop) (h0:Pv 0 σ H)
  (hs:∀ i σ H,i<n->Pv i σ H->g (.int (lo+i)) σ H fun σ2 H2=>tb { D with nx:=Pv (i+1),ct:=Pv (i+1),bk:=D.nx } σ2 H2) (hd:∀ σ H,Pv n σ H->D.nx σ H) :
  ∃ W:Nat->Nat->St->Hp->Prop,(∃ m,W 0 m σ H)/\∀ i m σ H,W i m σ H ->
   ((Itr lo n).stop i H/\D.nx σ H)∨((Itr lo n).go i H/\∃ N:St->Hp->Prop,(∀ σ' H',N σ' H'->∃ m',m'<m/\W (i+1) m' σ' H')/\∀ x H',(Itr lo n).yld i H x H'->g x σ H' fun σ2 H2=>tb { D with nx:=N,ct:=N,bk:=D.nx } σ2 H2):=by
 refine⟨fun i m σ H=>m=n - i/\i<=n/\Pv i σ H,⟨n,by simp,Nat.zero_le _,h0⟩,?_⟩
 rintro i m σ H ⟨rfl,hi,p⟩
 by_cases hlt:i<n
 ·refine .inr ⟨hlt,Pv (i+1),fun σ' H' p'=>⟨n - (i+1),by omega,U,hlt,p'⟩,fun x H' y=>?_⟩
  obtain⟨e,y⟩:=y
  subst e y
  exact hs i σ _ hlt p
 ·have e:i=n:=by omega
  subst e
  exact .inl ⟨Nat.le_refl _,hd σ H p⟩
theorem mv {c:TT}{D:Ends} (Pv:St->Hp->Prop) (μ:St->Hp->Nat) (h0:Pv σ H)
  (hs:∀ σ H,Pv σ H->c σ H fun b H1=>if b=true then tb { D with nx:=fun σ' H'=>Pv σ' H'/\μ σ' H'<μ σ H,ct:=fun σ' H'=>Pv σ' H'/\μ σ' H'<μ σ H,bk:=D.nx } σ H1 else D.nx σ H1)
  (mono:∀ σ H Q Q',(∀ b H1,Q b H1->Q' b H1)->c σ H Q->c σ H Q'):mH c tb D σ H:=by
 refine⟨fun m σ H=>m=μ σ H/\Pv σ H,⟨_,U,h0⟩,?_⟩
 rintro m σ H ⟨rfl,p⟩
 refine mono σ H _ _ (fun b H1 q=>?_) (hs σ H p)
 cases b with
 | true=>exact⟨_,fun σ' H' ⟨p',l⟩=>⟨_,l,U,p'⟩,q⟩
 | false=>exact q
noncomputable abbrev R2:=V->V->Hp->VK->Prop
noncomputable def OpR (X:Cx) (f:Value->Value->Sem Value) (r:R2):Prop :=
 ∀ (pins:List (Addr×Obj)) (s:Shared) (σ:St) (H:Hp) (x y:V) (v u:Value) (Q:VK),Inv X pins σ H s->RelV x v->RelV y u->r x y H Q ->
  wpAny (model X.prog X.w) X.A (f v u) (EP X pins σ Q) X.xe s
noncomputable def UnR (X:Cx) (f:Value->Sem Value) (r:V->Hp->VK->Prop):Prop :=
 ∀ (pins:List (Addr×Obj)) (s:Shared) (σ:St) (H:Hp) (x:V) (v:Value) (Q:VK),Inv X pins σ H s->RelV x v->r x H Q ->
  wpAny (model X.prog X.w) X.A (f v) (EP X pins σ Q) X.xe s
noncomputable def cy (X:Cx) (f:Value) (r:List V->Hp->VK->Prop):Prop :=
 ∀ (pins:List (Addr×Obj)) (s:Shared) (σ:St) (H:Hp) (xs:List V) (us:List Value) (Q:VK),Inv X pins σ H s->Vals xs us->r xs H Q ->
  wpAny (model X.prog X.w) X.A (call f us) (EP X pins σ Q) X.xe s
noncomputable def TruR (X:Cx) (r:V->Hp->(Bool->Hp->Prop)->Prop):Prop :=
 ∀ (pins:List (Addr×Obj)) (s:Shared) (σ:St) (H:Hp) (x:V) (v:Value) (Q:Bool->Hp->Prop),Inv X pins σ H s->RelV x v->r x H Q ->
  wpAny (model X.prog X.w) X.A (truthy v) (TP X pins σ Q) X.xe s
noncomputable def tOp (r:R2) (ta tb:TE):TE:=fun σ H Q=>ta σ H fun x H1=>tb σ H1 fun y H2=>r x y H2 Q
noncomputable def tUn (r:V->Hp->VK->Prop) (ta:TE):TE:=fun σ H Q=>ta σ H fun x H1=>r x H1 Q
inductive RI_ (C:Int->Int->Prop) (g:Int->Int->V) (x y:V) (H:Hp) (Q:VK):Prop
 | mk (i j:Int) (h1:x=.int i) (h2:y=.int j) (c:C i j) (q:Q (g i j) H):RI_ C g x y H Q
noncomputable def rI (C:Int->Int->Prop) (g:Int->Int->V):R2:=fun x y H Q=>RI_ C g x y H Q
inductive RJ_ (g:Int->Int->V) (x y:V) (H:Hp) (Q:VK):Prop
 | mk (i j:Int) (h1:x=.int i) (h2:y=.int j) (q:Q (g i j) H):RJ_ g x y H Q
noncomputable def rI0 (g:Int->Int->V):R2:=fun x y H Q=>RJ_ g x y H Q
noncomputable def rU (g:Int->V):V->Hp->VK->Prop:=fun x H Q=>∃ i,x=.int i/\Q (g i) H
section
variable {X:Cx}{a b c:Expr}{ta tb tc:TE}{pos:Pos}
theorem sF (ha:PE X a ta) (hb:PE X b tb) {R:V->V->Hp->Prop} (I:Inv X pins σ H s)
  (h:ta σ H fun x H1=>tb σ H1 fun y H2=>R x y H2) {Q:Value->Shared->Prop}{f:Value->Value->Sem Value}
  (hf:∀ v u s2 x y H2,Inv X pins σ H2 s2->RelV x v->RelV y u->R x y H2->wpAny (model X.prog X.w) X.A (f v u) Q X.xe s2) :
  wpAny (model X.prog X.w) X.A (eval a X.env) (fun v s₁=>wpAny (model X.prog X.w) X.A (eval b X.env) (fun u s₂=>wpAny (model X.prog X.w) X.A (f v u) Q X.xe s₂) X.xe s₁) X.xe s:=by
 refine thn (ha pins s σ H _ I h) fun v s1 ⟨x,H1,I1,r1,q1⟩=>?_
 refine thn (hb pins s1 σ H1 _ I1 q1) fun u s2 ⟨y,H2,I2,r2,q2⟩=>?_
 exact hf v u s2 x y H2 I2 r1 r2 q2
theorem az {op:Operator}{r:R2} (ho:OpR X (binaryOp op) r) (ha:PE X a ta) (hb:PE X b tb):PE X (.BinOp a op b pos) (tOp r ta tb):=by
 intro pins s σ H Q I h
 exact wpAny_BinOp (sF ha hb I h fun v u s2 x y H2 I2 rx ry q=>ho pins s2 σ H2 x y v u Q I2 rx ry q)
theorem qA {op:UnaryOp}{r:V->Hp->VK->Prop} (ho:UnR X (unaryOp op) r) (ha:PE X a ta):PE X (.UnaryOp op a pos) (tUn r ta):=by
 intro pins s σ H Q I h
 exact UnaryOp_ (thn (ha pins s σ H _ I h) fun v s1 ⟨x,H1,I1,r1,q1⟩=>ho pins s1 σ H1 x v Q I1 r1 q1)
theorem opI {f:Value->Value->Sem Value}{C:Int->Int->Prop}{g:Int->Int->Int}
  (rule:∀ (i j:Int) (t u:Tok) (s:Shared) (Q:Value->Shared->Prop) (E:Value->Shared->Prop),C i j->Q (.int (g i j) s.toks) { s with toks:=s.toks+1 }->wpAny (model X.prog X.w) X.A (f (.int i t) (.int j u)) Q E s) :
  OpR X f (rI C fun i j=>.int (g i j)):=by
 intro pins s σ H x y v u Q I rx ry h
 obtain⟨i,j,rfl,rfl,hc,q⟩:=h
 obtain⟨t,rfl⟩:=rx
 obtain⟨t',rfl⟩:=ry
 exact rule i j t t' s _ _ hc ⟨.int (g i j),H,I.tok _,⟨_,U⟩,q⟩
theorem tX {f:Value->Value->Sem Value}{g:Int->Int->Int}
  (rule:∀ (i j:Int) (t u:Tok) (s:Shared) (Q:Value->Shared->Prop) (E:Value->Shared->Prop),Q (.int (g i j) s.toks) { s with toks:=s.toks+1 }->wpAny (model X.prog X.w) X.A (f (.int i t) (.int j u)) Q E s) :
  OpR X f (rI0 fun i j=>.int (g i j)):=by
 intro pins s σ H x y v u Q I rx ry h
 obtain⟨i,j,rfl,rfl,q⟩:=h
 obtain⟨t,rfl⟩:=rx
 obtain⟨t',rfl⟩:=ry
 exact rule i j t t' s _ _ ⟨.int (g i j),H,I.tok _,⟨_,U⟩,q⟩
theorem rQ {f:Value->Value->Sem Value}{g:Int->Int->Bool}
  (rule:∀ (i j:Int) (t u:Tok) (s:Shared) (Q:Value->Shared->Prop) (E:Value->Shared->Prop),Q (.bool (g i j)) s->wpAny (model X.prog X.w) X.A (f (.int i t) (.int j u)) Q E s) :
  OpR X f (rI0 fun i j=>.bl (g i j)):=by
 intro pins s σ H x y v u Q I rx ry h
 obtain⟨i,j,rfl,rfl,q⟩:=h
 obtain⟨t,rfl⟩:=rx
 obtain⟨t',rfl⟩:=ry
 exact rule i j t t' s _ _ ⟨.bl (g i j),H,I,U,q⟩
noncomputable def CDiv (i j:Int):Prop:=0<j/\j<1073741824
noncomputable def CPow (i j:Int):Prop:=0<=j/\j<=1000000/\i.natAbs<2 ^ 64
noncomputable def CMul (i j:Int):Prop:=(-(2 ^ 64)<i/\i<2 ^ 64)∨(-(2 ^ 64)<j/\j<2 ^ 64)
theorem CMul.ok {i j:Int} (h:CMul i j):IntMulOk i j:=by
 rcases h with ⟨h1,h2⟩ | ⟨h1,h2⟩
 ·exact .of_left (intBits_le_64 h1 h2)
 ·exact .of_right (intBits_le_64 h1 h2)
theorem bh:OpR X (binaryOp .Add) (rI0 fun i j=>.int (i+j)):=tX fun _ _ _ _ _ _ _ q=>add_int q
theorem cR:OpR X (binaryOp .Sub) (rI0 fun i j=>.int (i - j)):=tX fun _ _ _ _ _ _ _ q=>sub_int q
theorem eW:OpR X (binaryOp .Mult) (rI CMul fun i j=>.int (i*j)):=opI fun _ _ _ _ _ _ _ hc q=>mul_int q hc.ok
theorem bW:OpR X (binaryOp .FloorDiv) (rI CDiv fun i j=>.int (i / j)):=opI fun i j _ _ _ _ _ hc q=>by
 have h1:(0:Int)<j:=hc.1
 have h2:j<1073741824:=hc.2
 exact floordiv_int (by omega) (by rw[Int.fdiv_eq_ediv_of_nonneg i (by omega)]; exact q) (.inl (PyProof.noPylong_small (by omega)))
theorem aT:OpR X (binaryOp .Mod) (rI (fun _ j=>0<j) fun i j=>.int (i % j)):=opI fun i j _ _ _ _ _ hc q=>by
 have h1:(0:Int)<j:=hc
 exact mod_int' (by omega) (by rw[Int.fmod_eq_emod_of_nonneg i (by omega)]; exact q)
theorem rM:OpR X (binaryOp .Pow) (rI CPow fun i j=>.int (i ^ j.toNat)):=opI fun _ _ _ _ _ _ _ hc q=>pow_int_small hc.1 hc.2.1 hc.2.2 q
theorem unI {f:Value->Sem Value}{g:Int->Int}
  (rule:∀ (i:Int) (t:Tok) (s:Shared) (Q:Value->Shared->Prop) (E:Value->Shared->Prop),Q (.int (g i) s.toks) { s with toks:=s.toks+1 }->wpAny (model X.prog X.w) X.A (f (.int i t)) Q E s) :
  UnR X f (rU fun i=>.int (g i)):=by
 intro pins s σ H x v Q I rx h
 obtain⟨i,rfl,q⟩:=h
 obtain⟨t,rfl⟩:=rx
 exact rule i t s _ _ ⟨.int (g i),H,I.tok _,⟨_,U⟩,q⟩
theorem mB:UnR X (unaryOp .USub) (rU fun i=>.int (-i)):=unI fun _ _ _ _ _ q=>neg_int q
end
noncomputable def sR:V->V->Bool
 | .non,.non=>true | .non,.int _=>true | .int _,.non=>true | .non,.bl _=>true | .bl _,.non=>true | .non,.str _=>true | .str _,.non=>true
 | .int _,.int _=>true | .bl _,.bl _=>true | .str _,.str _=>true | .byt _,.byt _=>true
 | .int _,.str _=>true | .str _,.int _=>true | .bl _,.str _=>true | .str _,.bl _=>true
 | _,_=>false
inductive RE_ (x y:V) (H:Hp) (Q:VK):Prop
 | mk (h:sR x y=true) (q:Q (.bl (decide (x=y))) H):RE_ x y H Q
inductive RN_ (x y:V) (H:Hp) (Q:VK):Prop
 | mk (h:sR x y=true) (q:Q (.bl (!decide (x=y))) H):RN_ x y H Q
noncomputable def rEq:R2:=fun x y H Q=>RE_ x y H Q
noncomputable def rNe:R2:=fun x y H Q=>RN_ x y H Q
theorem kQ {i j:Int}:decide (V.int i=V.int j)=(i == j):=by
 rw[Bool.eq_iff_iff]
 simp
theorem oB {i j:Bool}:decide (V.bl i=V.bl j)=(i == j):=by
 rw[Bool.eq_iff_iff]
 simp
theorem kP {i j:Str}:decide (V.str i=V.str j)=(i == j):=by
 rw[Bool.eq_iff_iff]
 simp
theorem kR {i j:Array UInt8}:decide (V.byt i=V.byt j)=(i.toList == j.toList):=by
 rw[Bool.eq_iff_iff]
 cases i
 cases j
 simp
section
variable {X:Cx}{a b c:Expr}{ta tb tc:TE}{pos:Pos}
theorem aQ {Q:VK}{k k':Bool} (I:Inv X pins σ H s) (q:Q (.bl k) H) (e:k=k'):EP X pins σ Q (.bool k') s:=by
 subst e
 exact⟨.bl k,H,I,U,q⟩
theorem bq:OpR X (compareOp .Eq) rEq:=by
 intro pins s σ H x y v u Q I rx ry h
 obtain⟨hs,q⟩:=h
 cases x with
 | non=>
  cases rx
  cases y with
  | non=>cases ry; exact PySem.EqNone.eq_none_none (aQ I q (by simp))
  | bl j=>cases ry; exact PySem.EqNone.eq_none_bool (aQ I q (by simp))
  | int j=>obtain⟨t',rfl⟩:=ry; exact PySem.EqNone.eq_none_int (aQ I q (by simp))
  | str j=>obtain⟨t',rfl⟩:=ry; exact PySem.EqNone.eq_none_str (aQ I q (by simp))
  | _=>exact absurd (show false=true from hs) Bool.false_ne_true
 | bl i=>
  cases rx
  cases y with
  | non=>cases ry; exact PySem.EqNone.eq_bool_none (aQ I q (by simp))
  | bl j=>cases ry; exact eq_bool (aQ I q oB)
  | str j=>obtain⟨t',rfl⟩:=ry; exact PySem.EqMixed.eq_bool_str (aQ I q (by simp))
  | _=>exact absurd (show false=true from hs) Bool.false_ne_true
 | int i=>
  obtain⟨t,rfl⟩:=rx
  cases y with
  | non=>cases ry; exact PySem.EqNone.eq_int_none (aQ I q (by simp))
  | int j=>obtain⟨t',rfl⟩:=ry; exact eq_int (aQ I q kQ)
  | str j=>obtain⟨t',rfl⟩:=ry; exact PySem.EqMixed.eq_int_str (aQ I q (by simp))
  | _=>exact absurd (show false=true from hs) Bool.false_ne_true
 | str i=>
  obtain⟨t,rfl⟩:=rx
  cases y with
  | non=>cases ry; exact PySem.EqNone.eq_str_none (aQ I q (by simp))
  | bl j=>cases ry; exact PySem.EqMixed.eq_str_bool (aQ I q (by simp))
  | int j=>obtain⟨t',rfl⟩:=ry; exact PySem.EqMixed.eq_str_int (aQ I q (by simp))
  | str j=>obtain⟨t',rfl⟩:=ry; exact eq_str (aQ I q kP)
  | _=>exact absurd (show false=true from hs) Bool.false_ne_true
 | byt i=>
  obtain⟨t,rfl⟩:=rx
  cases y with
  | byt j=>obtain⟨t',rfl⟩:=ry; exact PySem.W.eq_bytes (aQ I q kR)
  | _=>exact absurd (show false=true from hs) Bool.false_ne_true
 | _=>cases y <;> exact absurd (show false=true from hs) Bool.false_ne_true
theorem dF:OpR X (compareOp .NotEq) rNe:=by
 intro pins s σ H x y v u Q I rx ry h
 obtain⟨hs,q⟩:=h
 cases x with
 | non=>
  cases rx
  cases y with
  | non=>cases ry; exact PySem.EqNone.ne_none_none (aQ I q (by simp))
  | bl j=>cases ry; exact PySem.EqNone.ne_none_bool (aQ I q (by simp))
  | int j=>obtain⟨t',rfl⟩:=ry; exact PySem.EqNone.ne_none_int (aQ I q (by simp))
  | str j=>obtain⟨t',rfl⟩:=ry; exact PySem.EqNone.ne_none_str (aQ I q (by simp))
  | _=>exact absurd (show false=true from hs) Bool.false_ne_true
 | bl i=>
  cases rx
  cases y with
  | non=>cases ry; exact PySem.EqNone.ne_bool_none (aQ I q (by simp))
  | bl j=>cases ry; exact ne_bool (aQ I q (congrArg not oB))
  | str j=>obtain⟨t',rfl⟩:=ry; exact PySem.EqMixed.ne_bool_str (aQ I q (by simp))
  | _=>exact absurd (show false=true from hs) Bool.false_ne_true
 | int i=>
  obtain⟨t,rfl⟩:=rx
  cases y with
  | non=>cases ry; exact PySem.EqNone.ne_int_none (aQ I q (by simp))
  | int j=>obtain⟨t',rfl⟩:=ry; exact ne_int (aQ I q (congrArg not kQ))
  | str j=>obtain⟨t',rfl⟩:=ry; exact PySem.EqMixed.ne_int_str (aQ I q (by simp))
  | _=>exact absurd (show false=true from hs) Bool.false_ne_true
 | str i=>
  obtain⟨t,rfl⟩:=rx
  cases y with
  | non=>cases ry; exact PySem.EqNone.ne_str_none (aQ I q (by simp))
  | bl j=>cases ry; exact PySem.EqMixed.ne_str_bool (aQ I q (by simp))
  | int j=>obtain⟨t',rfl⟩:=ry; exact PySem.EqMixed.ne_str_int (aQ I q (by simp))
  | str j=>obtain⟨t',rfl⟩:=ry; exact ne_str (aQ I q (congrArg not kP))
  | _=>exact absurd (show false=true from hs) Bool.false_ne_true
 | byt i=>
  obtain⟨t,rfl⟩:=rx
  cases y with
  | byt j=>obtain⟨t',rfl⟩:=ry; exact PySem.W.ne_bytes (aQ I q (congrArg not kR))
  | _=>exact absurd (show false=true from hs) Bool.false_ne_true
 | _=>cases y <;> exact absurd (show false=true from hs) Bool.false_ne_true
theorem fh:OpR X (compareOp .Lt) (rI0 fun i j=>.bl (decide (i<j))):=rQ fun _ _ _ _ _ _ _ q=>lt_int q
theorem dG:OpR X (compareOp .Gt) (rI0 fun i j=>.bl (decide (j<i))):=rQ fun _ _ _ _ _ _ _ q=>gt_int q
theorem nw:OpR X (compareOp .GtE) (rI0 fun i j=>.bl (decide (j<=i))):=rQ fun _ _ _ _ _ _ _ q=>ge_int q
theorem dq : OpR X (compareOp .Is) (fun x y H Q=>y=.non/\Q (.bl (decide (x=.non))) H) := by
  intro pins s σ H x y v u Q I rx ry h
  obtain⟨rfl, q⟩ := h
  cases ry
  refine is_none_gen (aQ I q ?_)
  cases x <;> first
    | (cases rx; rfl)
    | (obtain ⟨t, rfl⟩ := rx; rfl)
theorem cz : OpR X (compareOp .IsNot) (fun x y H Q=>y=.non/\Q (.bl (!decide (x=.non))) H) := by
  intro pins s σ H x y v u Q I rx ry h
  obtain⟨rfl, q⟩ := h
  cases ry
  refine isnot_none_gen (aQ I q ?_)
  cases x <;> first
    | (cases rx; rfl)
    | (obtain ⟨t, rfl⟩ := rx; rfl)
theorem am (b:Expr) {op:CmpOp} (h:op≠.In:=by decide) (h2:op≠.NotIn:=by decide):behindInMarks op b=false:=by
 have e1:(op == CmpOp.In)=false:=by cases op <;> first | rfl | exact absurd rfl h
 have e2:(op == CmpOp.NotIn)=false:=by cases op <;> first | rfl | exact absurd rfl h2
 cases b <;> simp[behindInMarks,e1,e2]
theorem bO {op:CmpOp}{r:R2} (ho:OpR X (compareOp op) r) (ha:PE X a ta) (hb:PE X b tb) (hm:behindInMarks op b=false):PE X (.Compare a [op] [b] pos) (tOp r ta tb):=by
 intro pins s σ H Q I h
 exact wpAny_Compare1 (sF ha hb I h fun v u s2 x y H2 I2 rx ry q=>ho pins s2 σ H2 x y v u Q I2 rx ry q) hm
noncomputable def tTest (t:TE):TT:=fun σ H Q=>t σ H (TB_ Q)
theorem ai {op:CmpOp}{r:R2} (ho:OpR X (compareOp op) r) (ha:PE X a ta) (hb:PE X b tb) (hm:behindInMarks op b=false):PT X (.Compare a [op] [b] pos) (tTest (tOp r ta tb)):=by
 intro pins s σ H Q I h
 refine wpAny_isTrue_Compare1 (thn (ha pins s σ H _ I h) fun v s1 ⟨x,H1,I1,r1,q1⟩=>thn (hb pins s1 σ H1 _ I1 q1) fun u s2 ⟨y,H2,I2,r2,q2⟩=>
  thn (ho pins s2 σ H2 x y v u _ I2 r1 r2 q2) fun c s3 ⟨z,H3,I3,r3,k,e,q3⟩=>?_) hm
 subst e
 cases r3
 exact wpAny_truthy_bool ⟨H3,I3,q3⟩
noncomputable def uf (K:PySem.W.Frag) (x:V) (H:Hp) (k:Bool):Prop :=
 match x with
 | .non=>k=false
 | .bl b=>k=b
 | .int i=>k=(i != 0)
 | .str y=>y.length<=sizeLine/\k=((y.length:Int) != 0)
 | .byt y=>y.size<=sizeLine/\k=((y.size:Int) != 0)
 | .ref p=>(∃ xs,SqL K H p xs/\k = !xs.isEmpty)∨(∃ xs,SqT K H p xs/\k = !xs.isEmpty)∨∃ kvs,H p=some (.dK kvs)/\k = !kvs.isEmpty
 | _=>False
theorem jT {κ:Type}{kvs:List (κ×V)}{vs:List (κ×Value)} (r:KV kvs vs):(!vs.isEmpty) = !kvs.isEmpty:=by
 cases r <;> rfl
theorem gp {xs:List V}{its:List Value} (r:Vals xs its):(!its.toArray.isEmpty) = !xs.isEmpty:=by
 cases r <;> simp
theorem e8:(sizeLine:Nat)<2 ^ 63:=by rw[sizeLine_eq]; decide
theorem qU:TruR X (fun x H Q=>∃ k,uf X.K x H k/\Q k H):=by
 intro pins s σ H x v Q I rx h
 obtain⟨k,e,q⟩:=h
 have hl:=e8
 have hs:sizeLine=16777216:=sizeLine_eq
 cases x with
 | non=>
  cases rx
  have e':k=false:=e
  subst e'
  exact truthy_none ⟨H,I,q⟩
 | bl b=>
  cases rx
  have e':k=b:=e
  subst e'
  exact wpAny_truthy_bool ⟨H,I,q⟩
 | int i=>
  obtain⟨t,rfl⟩:=rx
  have e':k=(i != 0):=e
  subst e'
  exact PySem.P.truthy_int ⟨H,I,q⟩
 | str y=>
  obtain⟨t,rfl⟩:=rx
  obtain⟨hy,e'⟩:y.length<=sizeLine/\k=((y.length:Int) != 0):=e
  subst e'
  exact PySem.P.truthy_str (by omega) ⟨H,I.tok _,q⟩
 | byt y=>
  obtain⟨t,rfl⟩:=rx
  obtain⟨hy,e'⟩:y.size<=sizeLine/\k=((y.size:Int) != 0):=e
  subst e'
  exact PySem.W.truthy_bytes (by omega) ⟨H,I.tok _,q⟩
 | ref p=>
  cases rx
  have e':(∃ xs,SqL X.K H p xs/\k = !xs.isEmpty)∨(∃ xs,SqT X.K H p xs/\k = !xs.isEmpty)∨∃ kvs,H p=some (.dK kvs)/\k = !kvs.isEmpty:=e
  rcases e' with ⟨xs,hx,e'⟩ | ⟨xs,hx,e'⟩ | ⟨kvs,hx,e'⟩
  ·subst e'
   obtain⟨its,r,pl,hz⟩:=I.list hx
   have hlen:=r.length
   exact wpAny_truthy_list pl.isList (by simp only[uE]; omega) ⟨H,I.tok _,by rw[gp r]; exact q⟩
  ·subst e'
   obtain⟨its,r,pl,hz⟩:=I.tuple hx
   have hlen:=r.length
   exact truthy_tuple pl (by simp only[uE]; omega) ⟨H,I.tok _,by rw[gp r]; exact q⟩
  ·subst e'
   obtain⟨hz,hS,vs,r,m⟩:kvs.length<=sizeLine/\(p == sysModules)=false/\∃ vs,KV kvs vs/\s.heap.DictOf (aS X.prog X.w) p vs:=I.hok p _ hx
   have hlen:kvs.length=vs.length:=Paired.length r
   exact wpAny_truthy_dict hS m (by omega) ⟨H,I.tok _,by rw[jT r]; exact q⟩
 | _=>exact(show False from e).elim
theorem ja (ha:PE X a ta) (he:∀ whole,isTrue a X.env whole=(do let v <- whole; standAt a.pos; holding [v] (truthy v))) :
  PT X a (fun σ H Q=>ta σ H fun x H'=>∃ k,uf X.K x H' k/\Q k H'):=by
 intro pins s σ H Q I h
 exact isTrue_plain (thn (ha pins s σ H _ I h) fun v s1 ⟨x,H1,I1,r1,q1⟩=>qU pins s1 σ H1 x v Q I1 r1 q1) (he _)
theorem cL {x:V} (r:Vals [x] us):∃ u,us=[u]/\RelV x u:=by
 cases r with
 | cons r1 r2=>cases r2; exact⟨_,U,r1⟩
theorem j5 {x y:V} (r:Vals [x,y] us):∃ u w',us=[u,w']/\RelV x u/\RelV y w':=by
 cases r with
 | cons r1 r2=>
  cases r2 with
  | cons r3 r4=>cases r4; exact⟨_,_,U,r1,r3⟩
theorem oF:cy X (.builtin "abs") (fun xs H Q=>∃ i,xs=[.int i]/\Q (.int (if i<0 then -i else i)) H):=by
 intro pins s σ H xs us Q I r h
 obtain⟨i,rfl,q⟩:=h
 obtain⟨u,rfl,t,rfl⟩:=cL r
 exact call_abs_int fun u tk=>⟨.int (if i<0 then -i else i),H,I.tok _,⟨_,U⟩,q⟩
theorem lW (hc:X.calm=true):cy X (.builtin "max") (fun xs H Q=>∃ i j,xs=[.int i,.int j]/\Q (.int (if j > i then j else i)) H):=by
 intro pins s σ H xs us Q I r h
 obtain⟨i,j,rfl,q⟩:=h
 obtain⟨u,w',rfl,⟨t,rfl⟩,⟨t',rfl⟩⟩:=j5 r
 refine max_two_ints (I.ok.hd hc) fun h' tk k=>⟨_,H,I.kept k,?_,q⟩
 by_cases hj:j > i
 ·rw[if_pos hj,if_pos hj]; exact⟨_,U⟩
 ·rw[if_neg hj,if_neg hj]; exact⟨_,U⟩
theorem hW:cy X (.type "int") (fun xs H Q=>(∃ i,xs=[.int i]/\Q (.int i) H)∨∃ k,xs=[.bl k]/\Q (.int (if k then 1 else 0)) H):=by
 intro pins s σ H xs us Q I r h
 rcases h with ⟨i,rfl,q⟩ | ⟨k,rfl,q⟩
 ·obtain⟨u,rfl,t,rfl⟩:=cL r
  exact call_int_int ⟨.int i,H,I,⟨_,U⟩,q⟩
 ·obtain⟨u,rfl,r1⟩:=cL r
  cases r1
  exact call_int_bool ⟨.int (if k then 1 else 0),H,I.tok _,⟨_,U⟩,q⟩
theorem iP:cy X (.type "str") (fun xs H Q=>∃ i,xs=[.int i]/\i.natAbs.log2<1920/\Q (.str (toString i)) H):=by
 intro pins s σ H xs us Q I r h
 obtain⟨i,rfl,hz,q⟩:=h
 obtain⟨u,rfl,t,rfl⟩:=cL r
 exact PySem.P.str_of_int hz ⟨.str _,H,I.tok _,⟨_,U⟩,q⟩
end
structure ObjM (h:Heap) (x dx C:Addr) (mA:Str->Option Value):Prop where
 obj:h.get? x=some (PySem.W.instObj C dx)
 ns:h.Ns1 dx mA
 ne:dx≠x
theorem ly {dx:Addr}{mA:Str->Option Value} (n:h.Ns1 dx mA):∃ od,h.get? dx=some od/\∀ name,PySem.W.lookIn name od=some (mA name):=by
 obtain⟨o,es,ep,ho,hd,hk,_,hm⟩:=n
 refine⟨o,ho,fun name=>?_⟩
 have e:=hm name
 unfold nsFind findBy at e
 rw[<- Array.find?_toList] at e
 unfold PySem.W.lookIn
 rw[hd]
 dsimp only
 split
 ·rename_i y q
  rw[q] at e
  exact congrArg some e
 ·rename_i q
  rw[q] at e
  have a:es.toList.any (·.refKey)=false:=by
   rw[List.any_eq_false]
   intro y hy
   obtain⟨z,t,hkey⟩:=hk y (Array.mem_toList_iff.mp hy)
   simp[DictEntry.refKey,hkey]
  have a':¬ es.toList.any (·.refKey)=true:=by rw[a]; exact Bool.false_ne_true
  rw[if_neg a']
  exact congrArg some e
theorem ObjM.look {x dx C:Addr}{mA:Str->Option Value} (I:ObjM h x dx C mA):∃ od,PySem.W.InstAt h x (PySem.W.instObj C dx) C (some od)/\∀ name,PySem.W.lookIn name od=some (mA name) :=
 let ⟨od,ho,hl⟩:=ly I.ns
 ⟨od,⟨I.obj,U,U,ho⟩,hl⟩
variable{kw:List (Str×Value)}{pl:Sem Bool}
section
variable {prog:Program}{w:World}{A:Around}{E:Value->Shared->Prop}{s:Shared}{K:PySem.W.Frag}{x dx C f:Addr}{mA:Str->Option Value}{name:Str}{v:Value}
theorem pL {expr:Bool} (X:K.In s.heap) (I:ObjM s.heap x dx C mA) (hg:W.plainGet K C name=true) (hh:W.hasDictIn K C=true)
  (ha:W.findIn K (.ref C) name=some none) (hv:mA name=some v) (hv':PySem.W.handedIn v=true) (h:Q v { s with toks:=s.toks+1 }) :
  wpAny (model prog w) A (getAttr (.ref x) name expr) Q E s:=by
 obtain⟨od,J,hl⟩:=I.look
 exact PySem.W.get_value X J (PySem.W.plainGet_of hg).1 (PySem.W.findObj_own hh ha rfl (by rw[hl,hv])) hv' h
theorem om {Q:Value×List Value->Shared->Prop} (X:K.In s.heap) (I:ObjM s.heap x dx C mA) (hg:W.plainGet K C name=true)
  (hf:W.findIn K (.ref C) name=some (some (.ref f))) (ht:W.isFn K (.ref f)=true) (hv:mA name=none) (h:Q (.ref f,[.ref x]) s) :
  wpAny (model prog w) A (getMethod (.ref x) name pl) Q E s:=by
 obtain⟨od,J,hl⟩:=I.look
 exact PySem.W.method_fn X J (PySem.W.plainGet_of hg).1 (PySem.W.plainGet_of hg).2 hf (beq_iff_eq.mp ht) (by show(PySem.W.lookIn name od).map (·.isSome)=some false; rw[hl,hv]; rfl) h
theorem oZ {ns:List Str}{Q:Unit->Shared->Prop} (X:K.In s.heap) (I:ObjM s.heap x dx C mA)
  (hs:W.findIn K (.ref C) "__setattr__" = some (some (.builtin "object.__setattr__"))) (hp:W.plainOver K C=true) (ht:PySem.W.takerIn K C name=some none) (hh:W.hasDictIn K C=true)
  (hw:PySem.Within mA ns) (hsz:ns.length<=sizeLine)
  (h:∀ h',ObjM h' x dx C (fun y=>if y=name then some v else mA y)->Heap.SameBut dx s.heap h'->Q () { s with heap:=h',toks:=s.toks+2 }) :
  wpAny (model prog w) A (setAttr (.ref x) name v) Q E s:=by
 obtain⟨od,J,hl⟩:=I.look
 refine PySem.W.set_plain X J hs (PySem.W.osa_open (s:={ s with toks:=s.toks+1 }) (r:=none) X J hp ht fun b=>?_)
 obtain⟨cd,hc,hd'⟩:=PySem.W.any_some hh
 have hx:s.heap.get? x=some ⟨.ref C,some dx,.plain,#[]⟩:=I.obj
 refine wpAny_bind (wpAny_pure (wpAny_bind (wpAny_bind (wpAny_loadPart hx (wpAny_bind (PySem.W.Looks.here (s:={ s with toks:=s.toks+1 }) (PySem.W.looks_clsIn X hc) ?_))))))
 rw[hd']
 refine wpAny_pure (a:=some dx) (wpAny_bind (wpAny_pure (wpAny_bind ?_)))
 refine wpAny_nsSet1 (s:={ s with toks:=s.toks+1 }) I.ns fun h' hn2 hs2=>?_
 obtain⟨oD,esD,epD,hoD,hdD,hcD⟩:=hn2.count (PySem.Within.cons name v hw)
 refine wpAny_bind (wpAny_lookBehind hoD (by rw[hdD]; exact pastItsLine_dict (Nat.le_trans hcD (by rw[uv]; omega))) ?_)
 exact wpAny_pure (h _ ⟨(hs2.2 _ (Ne.symm I.ne)).trans I.obj,hn2,I.ne⟩ hs2)
theorem nP {R:Result->Shared->Prop}{vs:List Value} (X:K.In s.heap) (hm:W.makesIn K C=true)
  (hi:W.findIn K (.ref C) "__init__" = some (some (.ref f))) (hf:PySem.W.typeIn K (.ref f)=some (.type "function"))
  (h:codeAny (model prog w) (A.under (.builtin "type.__call__" ⟨.ref C::vs,kw⟩)) (.call (.ref f) ⟨.ref (s.heap.objs.size+1)::vs,kw⟩) (PySem.W.InitBack (s.heap.objs.size+1) R)
   { s with heap:=(s.heap.push PySem.W.emptyDict).push (PySem.W.instObj C s.heap.objs.size) }) :
  codeAny (model prog w) A (.call (.ref C) ⟨vs,kw⟩) R s:=by
 obtain⟨hh,g,d,t,os⟩:=s
 exact PySem.W.make_core (PySem.W.makes_of X hm) (PySem.W.looks_findIn X hi) (fun self=>PySem.W.bind_fn X self hf) (.inl rfl) h
end
noncomputable def bg (f : Str) (v : V) : List (Str×V)->List (Str×V)
  | []=>[(f, v)]
  | (g, x) :: r => if g = f then (g, v) :: r else (g, x) :: bg f v r
theorem fq (f g : Str) (v : V) : ∀ fs : List (Str×V), (bg f v fs).lookup g=if g=f then some v else fs.lookup g
  | []=>by
    show List.lookup g [(f, v)]=_
    by_cases h : g=f
    · have hb : (g == f)=true := beq_iff_eq.mpr h
      simp only[List.lookup, hb, if_pos h]
    · have hb : (g == f)=false := beq_eq_false_iff_ne.mpr h
      simp only[List.lookup, hb, if_neg h]
  | (k, x) :: r => by
    have ih := fq f g v r
    rw[show bg f v ((k, x)::r)=(if k=f then(k, v)::r else(k, x)::bg f v r) from rfl]
    by_cases hk : k=f
    · rw[if_pos hk]
      by_cases h : g=k
      · have hb : (g == k)=true := beq_iff_eq.mpr h
        simp only[List.lookup, hb, if_pos (h.trans hk)]
      · have hb : (g == k)=false := beq_eq_false_iff_ne.mpr h
        simp only[List.lookup, hb, if_neg (fun e : g=f=>h (e.trans hk.symm))]
    · rw[if_neg hk]
      by_cases h : g=k
      · have hb : (g == k)=true := beq_iff_eq.mpr h
        simp only[List.lookup, hb, if_neg (fun e : g=f=>hk (h.symm.trans e))]
      · have hb : (g == k)=false := beq_eq_false_iff_ne.mpr h
        simp only[List.lookup, hb]
        exact ih
theorem ff (f : Str) (v : V) : ∀ fs : List (Str×V), f ∈ (bg f v fs).map (·.1)/\∀ g, g ∈ fs.map (·.1)->g ∈ (bg f v fs).map (·.1)
  | []=>⟨by simp[bg], fun g h=>by simp at h⟩
  | (k, x) :: r => by
    obtain⟨i1, i2⟩ := ff f v r
    rw[show bg f v ((k, x)::r)=(if k=f then(k, v)::r else(k, x)::bg f v r) from rfl]
    by_cases hk : k=f
    · rw[if_pos hk]
      subst hk
      exact⟨by simp, fun g h=>by simpa using h⟩
    · rw[if_neg hk]
      refine⟨?_, fun g h=>?_⟩
      · rw[uH]
        exact uj _ i1
      · rw[uH] at h ⊢
        rcases uz.mp h with e | e
        · exact uz.mpr (.inl e)
        · exact uj _ (i2 g e)
theorem ft (f : Str) (v : V) : ∀ fs : List (Str×V), (bg f v fs).length<=fs.length+1
  | []=>by simp[bg]
  | (k, x) :: r => by
    have ih := ft f v r
    rw[show bg f v ((k, x)::r)=(if k=f then(k, v)::r else(k, x)::bg f v r) from rfl]
    by_cases hk : k=f
    · rw[if_pos hk, uv, uv]; omega
    · rw[if_neg hk, uv, uv]; omega
theorem RelO.some_of {v:V}{o:Option Value} (r:RelO (some v) o):∃ u,o=some u/\RelV v u:=by
 cases o with
 | none=>exact(show False from r).elim
 | some u=>exact⟨u,U,r⟩
theorem RelO.none_of {o:Option Value} (r:RelO none o):o=none:=by
 cases o with
 | none=>rfl
 | some u=>exact(show False from r).elim
theorem lP {v:V} (r:RelV v u):PySem.W.handedIn u=true:=by
 cases v with
 | non=>cases (show u=Value.none from r); rfl
 | bl b=>cases (show u=Value.bool b from r); rfl
 | int i=>obtain⟨t,e⟩:=(show ∃ t,u=Value.int i t from r); cases e; rfl
 | str x=>obtain⟨t,e⟩:=(show ∃ t,u=Value.str x t from r); cases e; rfl
 | byt b=>obtain⟨t,e⟩:=(show ∃ t,u=Value.bytes b t from r); cases e; rfl
 | flt b=>obtain⟨t,e⟩:=(show ∃ t,u=Value.float b t from r); cases e; rfl
 | ref a=>cases (show u=Value.ref a from r); rfl
 | ty n=>cases (show u=Value.type n from r); rfl
section
variable {P:Program}{w:World}{H H':Hp}{h h':Heap}{a C dx:Addr}{fs fs':List (Str×V)}
theorem fM (hok:HOk P w H h) (e:H a=some (.ins C dx fs)):∃ mA,ObjM h a dx C mA/\(∀ f,RelO (fs.lookup f) (mA f))/\PySem.Within mA (fs.map (·.1))/\fs.length<=1000/\H dx=some (.own a):=by
 obtain⟨d,z,ne,ob,mA,n,r,q⟩:=(show ObjOk P w H h a (.ins C dx fs) from hok a _ e)
 exact⟨mA,⟨ob,n,ne⟩,r,q,z,d⟩
end
structure Cls (K:PySem.W.Frag) (C:Addr):Prop where
 pg:W.plainGet K C Str.empty=true
 hd:W.hasDictIn K C=true
 po:W.plainOver K C=true
 sa:W.findIn K (.ref C) "__setattr__" = some (some (.builtin "object.__setattr__"))
theorem Cls.get {C:Addr} (c:Cls K C) (f:Str):W.plainGet K C f=true:=c.pg
noncomputable def NoAttr (K:PySem.W.Frag) (C:Addr) (f:Str):Prop:=W.findIn K (.ref C) f=some none
theorem NoAttr.taker {C:Addr}{f:Str} (n:NoAttr K C f):PySem.W.takerIn K C f=some none:=by
 unfold PySem.W.takerIn
 rw[show W.findIn K (.ref C) f=some none from n]
 rfl
structure Con (K:PySem.W.Frag) (C:Addr) (f:Str) (v:V) (u:Value):Prop where
 at_:W.findIn K (.ref C) f=some (some u)
 rel:RelV v u
 get:PySem.W.specialIn K u "__get__" = some none
 cp:PySem.W.copiedNames.contains f=false
structure Meth (K:PySem.W.Frag) (C:Addr) (m:Str) (f:Addr):Prop where
 at_:W.findIn K (.ref C) m=some (some (.ref f))
 fn:W.isFn K (.ref f)=true
 kp:W.keepIn K (.ref f)=true
section
variable {X:Cx}{pins:List (Addr×Obj)}{σ:St}{H:Hp}{s:Shared}{a C dx:Addr}{fs:List (Str×V)}{f:Str}{v:V}{A:Around}{E:Value->Shared->Prop}
theorem gq {b:Bool} (I:Inv X pins σ H s) (e:H a=some (.ins C dx fs)) (c:Cls X.K C) (n:NoAttr X.K C f) (l:fs.lookup f=some v)
  (h:∀ u s',Inv X pins σ H s'->RelV v u->Q u s'):wpAny (model X.prog X.w) A (getAttr (.ref a) f b) Q E s:=by
 obtain⟨mA,O,r,_,_,_⟩:=fM I.hok e
 obtain⟨u,hu,ru⟩:=RelO.some_of (v:=v) (o:=mA f) (by rw[<- l]; exact r f)
 exact pL I.kIn O (c.get f) c.hd n hu (lP ru) (h u _ (I.tok _) ru)
theorem dR {m:Str}{g:Addr}{Q:Value×List Value->Shared->Prop} (I:Inv X pins σ H s) (e:H a=some (.ins C dx fs)) (c:Cls X.K C) (k:Meth X.K C m g) (l:fs.lookup m=none)
  (h:Q (.ref g,[.ref a]) s):wpAny (model X.prog X.w) A (getMethod (.ref a) m pl) Q E s:=by
 obtain⟨mA,O,r,_,_,_⟩:=fM I.hok e
 have hn:mA m=none:=RelO.none_of (by rw[<- l]; exact r m)
 exact om I.kIn O (c.get m) k.at_ k.fn hn h
theorem fV {y:V}{Q:Unit->Shared->Prop} (I:Inv X pins σ H s) (e:H a=some (.ins C dx fs)) (c:Cls X.K C) (n:NoAttr X.K C f) (hl:fs.length<1000) (ry:RelV y u)
  (h:∀ s',Inv X pins σ (upd H a (.ins C dx (bg f y fs))) s'->Q () s'):wpAny (model X.prog X.w) A (setAttr (.ref a) f u) Q E s:=by
 obtain⟨mA,O,r,wi,_,ho⟩:=fM I.hok e
 have hz:(fs.map (·.1)).length<=sizeLine:=by rw[um,sizeLine_eq]; omega
 refine oZ I.kIn O c.sa c.po n.taker c.hd wi hz fun h' O' sb=>h _ ?_
 have hd:∃ o,h'.get? dx=some o:=let ⟨o,_,_,e',_⟩:=O'.ns; ⟨o,e'⟩
 refine I.write (x:=a) (e:=dx) (by rw[e]; exact True.intro) (.inr ho) (fun b q hb z=>(sb.2 b hb).trans z) hd ?_
 refine⟨by rw[aM O.ne]; exact ho,?_,O.ne,O'.obj,_,O'.ns,fun g=>?_,fun g hg=>?_⟩
 ·have:=ft f y fs; omega
 ·show RelO ((bg f y fs).lookup g) (if g=f then some u else mA g)
  rw[fq]
  by_cases q:g=f
  ·rw[if_pos q,if_pos q]; exact ry
  ·rw[if_neg q,if_neg q]; exact r g
 ·by_cases q:g=f
  ·rw[q]; exact(ff f y fs).1
  ·refine(ff f y fs).2 g (wi g fun z=>hg ?_)
   show(if g=f then some u else mA g)=none
   rw[if_neg q]; exact z
theorem Inv.made (I:Inv X pins σ H s):Inv X pins σ (upd (upd H s.heap.objs.size (.own (s.heap.objs.size+1))) (s.heap.objs.size+1) (.ins C s.heap.objs.size []))
  { s with heap:=(s.heap.push PySem.W.emptyDict).push (PySem.W.instObj C s.heap.objs.size) }:=by
 have e1:(s.heap.push PySem.W.emptyDict).get? s.heap.objs.size=some PySem.W.emptyDict:=Heap.get?_push_size s.heap rfl
 have e2:((s.heap.push PySem.W.emptyDict).push (PySem.W.instObj C s.heap.objs.size)).get? (s.heap.objs.size+1)=some (PySem.W.instObj C s.heap.objs.size):=by
  have:=Heap.get?_push_size (s.heap.push PySem.W.emptyDict) (o:=PySem.W.instObj C s.heap.objs.size) rfl
  rwa [Heap.size_push] at this
 have e3:(s.heap.push PySem.W.emptyDict).Ns s.heap.objs.size (fun _=>none):=⟨PySem.W.emptyDict,#[],_,e1,U,(fun e he=>absurd he (by simp)),fun _=>rfl⟩
 have I1:=I.laid (a:=s.heap.objs.size) (o:=.own (s.heap.objs.size+1)) (h':=s.heap.push PySem.W.emptyDict) (t':=s.toks) (fun b u q=>Heap.get?_push_of_some _ q) (Nat.le_refl _) ⟨_,e1⟩
 refine I1.laid (a:=s.heap.objs.size+1) (o:=.ins C s.heap.objs.size []) (t':=s.toks) (fun b u q=>Heap.get?_push_of_some _ q) (Nat.le_of_eq (Heap.size_push _ _)) ?_
 have ne:s.heap.objs.size≠s.heap.objs.size+1:=Nat.ne_of_lt (Nat.lt_succ_self _)
 refine⟨by rw[aM ne,cD],Nat.zero_le _,ne,e2,fun _=>none,(Heap.Ns1.of_empty e3).at fun o q=>Heap.get?_push_of_some _ q,fun _=>True.intro,fun y hy=>absurd rfl hy⟩
theorem p4 {prog:Program}{env:Env}{f:Str}{s:Shared} (hb:attributeBase e f env (eval e env)=eval e env)
  (h:wpAny (model prog w) A (eval e env) (fun o s₁=>wpAny (model prog w) A (getAttr o f true) Q E s₁) E s):wpAny (model prog w) A (eval (.Attribute e f pos) env) Q E s :=
 Attribute_any_ h (by rw[arm_eval_Attribute,hb])
end
inductive TF_ (K:PySem.W.Frag) (f:Str) (Q:VK) (x:V) (H:Hp):Prop
 | mk (a C dx:Addr) (fs:List (Str×V)) (v:V) (h1:x=.ref a) (h2:H a=some (.ins C dx fs)) (h3:Cls K C) (h4:NoAttr K C f) (h5:fs.lookup f=some v) (q:Q v H):TF_ K f Q x H
noncomputable def tFld (K:PySem.W.Frag) (ta:TE) (f:Str):TE:=fun σ H Q=>ta σ H (TF_ K f Q)
noncomputable def sFld (K:PySem.W.Frag) (ta tv:TE) (f:Str):TS:=fun D σ H=>tv σ H fun y H1=>ta σ H1 fun x H2=>∃ a C dx fs,x=.ref a/\H2 a=some (.ins C dx fs)/\Cls K C/\NoAttr K C f/\fs.length<1000 /\
 D.nx σ (upd H2 a (.ins C dx (bg f y fs)))
noncomputable def ui (X:Cx) (op:Operator) (rd:V->V->Hp->VK->Prop):Prop :=
 ∀ (pins:List (Addr×Obj)) (s:Shared) (σ:St) (H:Hp) (x y:V) (u v:Value) (Q:VK),Inv X pins σ H s->RelV x u->RelV y v->rd x y H Q->wpAny (model X.prog X.w) X.A (inplaceOp op u v) (EP X pins σ Q) X.xe s
noncomputable def o8 (K:PySem.W.Frag) (ta tv:TE) (rd:V->V->Hp->VK->Prop) (f:Str):TS:=fun D σ H=>ta σ H fun x H1=>∃ a C dx fs v,x=.ref a/\H1 a=some (.ins C dx fs)/\Cls K C/\NoAttr K C f/\fs.lookup f=some v /\
 tv σ H1 fun y H2=>rd v y H2 fun z H3=>∃ dx' fs',H3 a=some (.ins C dx' fs')/\fs'.length<1000/\D.nx σ (upd H3 a (.ins C dx' (bg f z fs')))
section
variable {X:Cx}{o e value:Expr}{f:Str}{pos pos' tpos:Pos}{ta tv:TE}
theorem aB (he:PE X e ta) (hb:attributeBase e f X.env (eval e X.env)=eval e X.env):PE X (.Attribute e f pos) (tFld X.K ta f):=by
 intro pins s σ H Q I h
 refine p4 hb (thn (he pins s σ H _ I h) fun u s1 ⟨x,H1,I1,rx,a,C,dx,fs,v,ex,ea,c,n,l,q⟩=>?_)
 subst ex
 obtain rfl:u=Value.ref a:=rx
 exact gq I1 ea c n l fun u' s2 I2 ru=>⟨v,H1,I2,ru,q⟩
theorem ba (ha:PE X o ta) (hv:PE X value tv) (hs:swapsWith value (some (.Attribute o f pos')) pos.line X.env=pure false):PS X (.Assign [.Attribute o f pos'] value pos) (sFld X.K ta tv f):=by
 intro pins s σ H D I h
 refine plainObj_wpAny_Assign_Attribute (thn (hv pins s σ H _ I h) fun u s1 ⟨y,H1,I1,ry,q⟩=>thn (ha pins s1 σ H1 _ I1 q) fun ov s2 ⟨x,H2,I2,rx,a,C,dx,fs,ex,ea,c,n,l,q2⟩=>?_) hs
 subst ex
 obtain rfl:ov=Value.ref a:=rx
 exact fV I2 ea c n l ry fun s3 I3=>⟨σ,_,I3,q2⟩
theorem gU {op:Operator}{rd:V->V->Hp->VK->Prop} (ha:PE X o ta) (hv:PE X value tv) (hop:ui X op rd):PS X (.AugAssign (.Attribute o f tpos) op value pos) (o8 X.K ta tv rd f):=by
 intro pins s σ H D I h
 refine wpAny_AugAssign_AttributeAny (thn (ha pins s σ H _ I h) fun ov s1 ⟨x,H1,I1,rx,a,C,dx,fs,v,ex,ea,c,n,l,q⟩=>?_)
 subst ex
 obtain rfl:ov=Value.ref a:=rx
 refine gq I1 ea c n l fun u s2 I2 ru=>thn (hv pins s2 σ H1 _ I2 q) fun w3 s3 ⟨y,H2,I3,ry,q3⟩=>thn (hop pins s3 σ H2 v y u w3 _ I3 ru ry q3) fun w4 s4 ⟨z,H3,I4,rz,dx',fs',ea',l',q4⟩=>?_
 exact fV I4 ea' c n l' rz fun s5 I5=>⟨σ,_,I5,q4⟩
noncomputable def rAdd:V->V->Hp->VK->Prop:=fun x y H Q=>∃ i j,x=.int i/\y=.int j/\Q (.int (i+j)) H
theorem og:ui X .Add rAdd:=by
 rintro pins s σ H x y u v Q I rx ry ⟨i,j,rfl,rfl,q⟩
 obtain⟨t,rfl⟩:=(show ∃ t,u=Value.int i t from rx)
 obtain⟨t',rfl⟩:=(show ∃ t',v=Value.int j t' from ry)
 exact PyProof.Rows.iadd_int ⟨.int (i+j),H,I.tok _,⟨_,U⟩,q⟩
end
section
variable {X:Cx}{pins:List (Addr×Obj)}{σ:St}{H:Hp}{s:Shared}{A:Around}{E:Value->Shared->Prop}{Q:Value->Shared->Prop}{c:Value}{b:Bool}
inductive TyOf (K:PySem.W.Frag) (H:Hp):V->Value->Prop where
 | non:TyOf K H .non (.type "NoneType")
 | bl (x:Bool):TyOf K H (.bl x) (.type "bool")
 | int (i:Int):TyOf K H (.int i) (.type "int")
 | str (x:Str):TyOf K H (.str x) (.type "str")
 | flt (x:UInt64):TyOf K H (.flt x) (.type "float")
 | lst {a:Addr}{xs:List V} (e:H a=some (.lst xs)):TyOf K H (.ref a) (.type "list")
 | frz {a:Addr}{o:Obj}{xs:List V} (e:H a=some (.frz o (.lst xs))):TyOf K H (.ref a) (.type "list")
 | tup {a:Addr}{xs:List V} (e:H a=some (.tup xs)):TyOf K H (.ref a) (.type "tuple")
 | dK {a:Addr}{kvs:List (Key×V)} (e:H a=some (.dK kvs)):TyOf K H (.ref a) (.type "dict")
 | dT {a:Addr}{kvs:List (List Key×V)} (e:H a=some (.dT kvs)):TyOf K H (.ref a) (.type "dict")
 | ins {a C dx:Addr}{fs:List (Str×V)} (e:H a=some (.ins C dx fs)) (cl:Cls K C) (ha:W.findIn K (.ref C) "__class__" = some (some (.builtin "object.__class__")))
   (hn:PySem.W.specialIn K (.builtin "object.__class__") "__get__" = some (some (.builtin "getset_descriptor.__get__"))) (htk:PySem.W.takesIn K (.builtin "object.__class__")=some true)
   (hm:PySem.W.mroIn K C (.type "object")=some true):TyOf K H (.ref a) (.ref C)
theorem lH {x:V}{u t:Value} (I:Inv X pins σ H s) (rx:RelV x u) (ty:TyOf X.K H x t) (e:PySem.W.kitOne X.K t c=some b) (h:∀ tk,Q (.bool b) { s with toks:=tk }) :
  wpAny (model X.prog X.w) A (call (.builtin "isinstance") [u,c]) Q E s:=by
 cases ty with
 | non=>cases (show u=Value.none from rx); exact PySem.W.kia_one PySem.W.kitx_none I.kIn True.intro e (fun z=>nomatch z) h
 | bl y=>cases (show u=Value.bool y from rx); exact PySem.W.kia_one PySem.W.kitx_bool I.kIn True.intro e (fun z=>nomatch z) h
 | int i=>obtain⟨t,q⟩:=(show ∃ t,u=Value.int i t from rx); cases q; exact PySem.W.kia_one PySem.W.kitx_int I.kIn True.intro e (fun z=>nomatch z) h
 | str y=>obtain⟨t,q⟩:=(show ∃ t,u=Value.str y t from rx); cases q; exact PySem.W.kia_one PySem.W.kitx_str I.kIn True.intro e (fun z=>nomatch z) h
 | flt y=>obtain⟨t,q⟩:=(show ∃ t,u=Value.float y t from rx); cases q; exact PySem.W.kia_one PySem.W.kitx_float I.kIn True.intro e (fun z=>nomatch z) h
 | @lst a xs ea=>
  cases (show u=Value.ref a from rx)
  obtain⟨_,_,n,_,h1⟩:=(show ObjOk X.prog X.w H s.heap a (.lst xs) from I.hok a _ ea)
  exact PySem.W.kia_one PySem.W.kitx_list I.kIn ⟨_,h1,U⟩ e (fun z=>nomatch z) h
 | @frz a ob xs ea=>
  cases (show u=Value.ref a from rx)
  obtain⟨_,_,_,n,_,h1⟩:=(show ObjOk X.prog X.w H s.heap a (.frz ob (.lst xs)) from I.hok a _ ea)
  exact PySem.W.kia_one PySem.W.kitx_list I.kIn ⟨_,h1,U⟩ e (fun z=>nomatch z) h
 | @tup a xs ea=>
  cases (show u=Value.ref a from rx)
  obtain⟨_,_,_,p⟩:=(show ObjOk X.prog X.w H s.heap a (.tup xs) from I.hok a _ ea)
  obtain⟨o,h1,h2,_⟩:=p
  exact PySem.W.kia_one PySem.W.kitx_tuple I.kIn ⟨o,h1,h2⟩ e (fun z=>nomatch z) h
 | @dK a kvs ea=>
  cases (show u=Value.ref a from rx)
  obtain⟨_,_,vs,_,p⟩:=(show ObjOk X.prog X.w H s.heap a (.dK kvs) from I.hok a _ ea)
  obtain⟨o,es,ep,h1,h2,_⟩:=p
  exact PySem.W.kia_one PySem.W.kitx_dict I.kIn ⟨o,h1,h2.1⟩ e (fun z=>nomatch z) h
 | @dT a kvs ea=>
  cases (show u=Value.ref a from rx)
  obtain⟨_,_,xs,_,o,es,ep,h1,h2,_⟩:=(show ObjOk X.prog X.w H s.heap a (.dT kvs) from I.hok a _ ea)
  exact PySem.W.kia_one PySem.W.kitx_dict I.kIn ⟨o,h1,h2.1⟩ e (fun z=>nomatch z) h
 | @ins a C dx fs ea cl ha hn htk hm=>
  cases (show u=Value.ref a from rx)
  obtain⟨mA,O,_⟩:=fM I.hok ea
  obtain⟨od,J,_⟩:=O.look
  exact PySem.W.kia_one (PySem.W.kitx_own (cl.get _) cl.hd ha hn htk hm) I.kIn J e (fun z=>nomatch z) h
end
structure Room (k:Nat) (A:Around):Prop where
 hd:A.handled=none
 dp:A.depth+3*k+5<recursionLimit
 un:A.units+16*k+200<cLine
 gd:A.guards=some []
theorem Room.mono {j k:Nat} (r:Room k A) (h:j<=k):Room j A:=⟨r.hd,by have:=r.dp; omega,by have:=r.un; omega,r.gd⟩
theorem Room.deeper {k:Nat} (r:Room (k+1) A) (env:Env):Room k (A.deeper env) :=
 ⟨r.hd,by have:=r.dp; show A.depth+1+3*k+5<_; omega,by have:=r.un; show A.units+3+16*k+200<_; omega,r.gd⟩
theorem jS {C:Addr}:(A.under (.builtin "type.__call__" ⟨.ref C::us,kw⟩)).depth=A.depth+1:=by
 first | rfl | simp[Around.under,Code.weight,Code.isCreation,Code.isGuard,Code.isCaller,Code.frames,Code.isFrame,guardIds]
theorem jR {C:Addr}:(A.under (.builtin "type.__call__" ⟨.ref C::us,kw⟩)).units=A.units+1:=by
 first | rfl | simp[Around.under,Code.cUnits,Code.frames,Code.isFrame]
theorem jj {C:Addr}:(A.under (.builtin "type.__call__" ⟨.ref C::us,kw⟩)).guards=A.guards:=by
 cases h:A.guards with
 | none=>simp[Around.under,Code.guards,Code.isGuard,guardIds,pushGuards,h]
 | some l=>simp[Around.under,Code.guards,Code.isGuard,guardIds,pushGuards,h]
theorem Room.make {k:Nat} (r:Room (k+1) A) (C:Addr) (us:List Value) (kw:List (Str×Value)):Room k (A.under (.builtin "type.__call__" ⟨.ref C::us,kw⟩)) :=
 ⟨r.hd,by have:=r.dp; rw[jS]; omega,by have:=r.un; rw[jR]; omega,by rw[jj]; exact r.gd⟩
theorem Room.depth {k:Nat} (r:Room k A):A.depth<recursionLimit:=by have:=r.dp; omega
theorem Room.units {k:Nat} (r:Room k A):A.units+64<cLine:=by have:=r.un; omega
noncomputable def jG:TA:=fun _ H Q=>Q [] H
noncomputable def mJ (ta:TE) (tr:TA):TA:=fun σ H Q=>ta σ H fun x H1=>tr σ H1 fun xs H2=>Q (x::xs) H2
section
variable {X:Cx}{e:Expr}{es:List Expr}{te:TE}{t:TA}{pos:Pos}
theorem ae:PA X [] jG:=fun _ _ _ _ H Q I h=>Calls.spliced_nil ⟨[],H,I,.nil,h⟩
theorem aa (ha:PE X e te) (hr:PA X es t) (hs:starEach (e::es) X.env=(false,eval e X.env)::starEach es X.env:=by rfl):PA X (e::es) (mJ te t):=by
 intro pos pins s σ H Q I h
 rw[hs]
 show wpAny _ _ (spliced ((false,eval e X.env)::backTo pos (starEach es X.env))) _ _ s
 refine Calls.spliced_cons (thn (ha pins s σ H _ I h) fun u s1 ⟨x,H1,I1,r1,q1⟩=>?_)
 exact thn (hr pos pins s1 σ H1 _ I1 q1) fun us s2 ⟨xs,H2,I2,r2,q2⟩=>⟨x::xs,H2,I2,.cons r1 r2,q2⟩
noncomputable def tTup (t:TA):TE:=fun σ H Q=>t σ H fun xs H1=>xs.length<=sizeLine/\∀ p,H1 p=none->Q (.ref p) (upd H1 p (.tup xs))
noncomputable def tLst (t:TA):TE:=fun σ H Q=>t σ H fun xs H1=>xs.length<=sizeLine/\∀ p,H1 p=none->Q (.ref p) (upd H1 p (.lst xs))
theorem aI {x1} (h:PA X es t):PE X (.Tuple es x1 pos) (tTup t):=by
 intro pins s σ H Q I hq
 refine wpAny_Tuple_spliced (thn (h pos pins s σ H _ I hq) fun us s1 ⟨xs,H1,I1,r,z,q⟩=>⟨by rw[<- r.length]; exact z,?_⟩)
 have hf:H1 s1.heap.objs.size=none:=I1.hok.fresh (Nat.le_refl _)
 refine⟨.ref s1.heap.objs.size,upd H1 s1.heap.objs.size (.tup xs),I1.laid (t':=s1.toks) (fun b u e=>Heap.get?_push_of_some _ e) (Nat.le_refl _) ?_,U,q _ hf⟩
 exact⟨z,us,r,⟨_,Heap.get?_push_size _ rfl,U,_,U⟩⟩
theorem bb (h:PA X es t):PE X (.List es pos) (tLst t):=by
 intro pins s σ H Q I hq
 refine wpAny_List_spliced (thn (h pos pins s σ H _ I hq) fun us s1 ⟨xs,H1,I1,r,z,q⟩=>⟨by rw[<- r.length]; exact z,?_⟩)
 have hf:H1 s1.heap.objs.size=none:=I1.hok.fresh (Nat.le_refl _)
 refine⟨.ref s1.heap.objs.size,upd H1 s1.heap.objs.size (.lst xs),I1.laid (t':=s1.toks) (fun b u e=>Heap.get?_push_of_some _ e) (Nat.le_refl _) ?_,U,q _ hf⟩
 exact⟨z,us,0,r,Heap.get?_push_size _ rfl⟩
end
noncomputable abbrev Sp:=List V->Hp->VK->XK->Prop
noncomputable abbrev CXT:=List Env->Hp->Shared->XK->Value->Shared->Prop
structure Env0 (P:Program) (w:World) (K:PySem.W.Frag) (mg:Str->Option Value) (base:Heap) (A:Around) (outer:List Env) (s:Shared) (H:Hp):Prop where
 frames:A.frames=some outer
 mod:Mod K mg base
 bs:∀ b o,base.get? b=some o->s.heap.get? b=some o/\H b=none
 bsz:base.objs.size<=s.heap.objs.size
 funs:s.heap.FunFrames base outer
 frf:∀ b ∈ frs outer,H b=none
 hok:HOk P w H s.heap
 bare:AllBare s.gens
noncomputable def CE (outer:List Env) (P:Program) (w:World) (H:Hp) (s:Shared) (Q:VK) (u:Value) (s':Shared):Prop :=
 ∃ v H',s'.os=s.os/\AllBare s'.gens/\Un (frs outer) [] H H' s.heap s'.heap/\HOk P w H' s'.heap/\RelV v u/\Q v H'
noncomputable def CR (CX:CXT) (outer:List Env) (P:Program) (w:World) (H:Hp) (s:Shared) (Q:VK) (E:XK) (r:Result) (s':Shared):Prop :=
 match r with
 | .ok (.ret u)=>CE outer P w H s Q u s'
 | .ok _=>False
 | .error e=>CX outer H s E e s'
structure FnOk (P:Program) (w:World) (K:PySem.W.Frag) (mg:Str->Option Value) (base:Heap) (CX:CXT) (k:Nat) (f:Addr) (fd:FuncData) (ps:List Str) (sp:Sp):Prop where
 len:∀ vs H Q E,sp vs H Q E->vs.length=ps.length
 run:∀ (A:Around) (outer:List Env) (s:Shared) (H:Hp) (args:Args) (us:List Value) (vs:List V) (Q:VK) (E:XK),Room k A->Env0 P w K mg base A outer s H->BindsTo s fd args (ps.zip us)->Vals vs us->sp vs H Q E ->
  codeAny (model P w) A (.call (.ref f) args) (CR CX outer P w H s Q E) s
variable{mg:Str->Option Value}
theorem Env0.make {base:Heap}{outer:List Env} (e:Env0 P w K mg base A outer s H) (C:Addr) (us:List Value) (kw:List (Str×Value)) :
  Env0 P w K mg base (A.under (.builtin "type.__call__" ⟨.ref C :: us,kw⟩)) outer s H:=⟨by first | exact e.frames | (simpa [Around.under,Code.envs,Code.isFrame,pushEnvs] using e.frames),e.mod,e.bs,e.bsz,e.funs,e.frf,e.hok,e.bare⟩
section
variable {X:Cx}{pins:List (Addr×Obj)}{σ:St}{H:Hp}{s s':Shared}
theorem Inv.env0 (I:Inv X pins σ H s):Env0 X.prog X.w X.K X.mg X.base X.A X.stack s H :=
 ⟨I.ok.frames,I.ok.mod,I.bs,Nat.le_trans I.ok.bsz I.sz,I.stack,I.stkFree,I.hok,I.bare⟩
theorem Inv.after {Q:VK} (I:Inv X pins σ H s) (h:CE X.stack X.prog X.w H s Q u s'):EP X pins σ Q u s':=by
 obtain⟨v,H',os,bare,un,hok,r,q⟩:=h
 obtain⟨hh,g,d,t,os'⟩:=s'
 obtain rfl:os'=s.os:=os
 exact⟨v,H',I.call (h':=hh) (g':=g) (d':=d) (t':=t) (ch:=[]) un hok bare (fun b z=>absurd z (by simp)),r,q⟩
end
noncomputable def qc (sp:Sp) (dvs:List V) (E:XK) (t:TA):TE:=fun σ H Q=>t σ H fun vs H1=>sp (vs++dvs) H1 Q E
inductive TM_ (C:Addr) (m:Str) (x:V) (H:Hp) (R:Prop):Prop
 | mk (a dx:Addr) (fs:List (Str×V)) (h1:x=.ref a) (h2:H a=some (.ins C dx fs)) (h3:fs.lookup m=none) (q:R):TM_ C m x H R
noncomputable def mI (C:Addr) (m:Str) (sp:Sp) (dvs:List V) (E:XK) (ta:TE) (t:TA):TE:=fun σ H Q=>ta σ H fun x H1=>TM_ C m x H1 (t σ H1 fun vs H2=>sp (x::(vs++dvs)) H2 Q E)
noncomputable def tMake (C:Addr) (sp:Sp) (dvs:List V) (E:XK) (t:TA):TE:=fun σ H Q=>t σ H fun vs H1=>∀ x dx,H1 x=none->H1 dx=none->dx≠x ->
 sp (.ref x::(vs++dvs)) (upd (upd H1 dx (.own x)) x (.ins C dx [])) (fun v H2=>v=.non/\Q (.ref x) H2) E
noncomputable def Binds (K:PySem.W.Frag) (fd:FuncData) (ps:List Str) (ds:List Value):Prop :=
 ∀ (s:Shared) (us:List Value),K.In s.heap->(us++ds).length=ps.length->BindsTo s fd ⟨us,[]⟩ (ps.zip (us++ds))
theorem Binds.all {fd:FuncData}{ps:List Str} (h:∀ us:List Value,us.length=ps.length->bindArgs fd ⟨us,[]⟩=pure (ps.zip us)):Binds K fd ps []:=fun s us _ hl=>by
 rw[uN] at hl ⊢
 exact .of_eq (h us hl)
noncomputable def dj (CX:CXT) (X:Cx) (E:XK):Prop:=∀ (pins:List (Addr×Obj)) (σ:St) (H:Hp) (s:Shared) (e:Value) (s':Shared),Inv X pins σ H s->CX X.stack H s E e s'->X.xe e s'
section
variable {X:Cx}{CX:CXT}{k:Nat}{f C:Addr}{fd:FuncData}{ps:List Str}{sp:Sp}{dvs:List V}{ds:List Value}{E:XK}{x m:Str}{p pos apos:Pos}{e o:Expr}{es:List Expr}{ta:TE}{t:TA}
theorem jJ {Q:VK}{us:List Value}{vs:List V} (F:FnOk X.prog X.w X.K X.mg X.base CX k f fd ps sp) (hr:Room k X.A) (hb:Binds X.K fd ps ds) (hd:Vals dvs ds) (hx:dj CX X E)
  (I:Inv X pins σ H s) (r:Vals vs us) (h:sp (vs++dvs) H Q E):wpAny (model X.prog X.w) X.A (call (.ref f) us) (EP X pins σ Q) X.xe s:=by
 have r2:Vals (vs++dvs) (us++ds):=r.append hd
 have hl:(us++ds).length=ps.length:=by rw[<- r2.length]; exact F.len _ _ _ _ h
 refine wpAny_call (codeAny_mono (F.run X.A X.stack s H ⟨us,[]⟩ (us++ds) (vs++dvs) Q E hr I.env0 (hb s us I.kIn hl) r2 h) fun r s' hq=>?_)
 cases r with
 | error e=>exact hx pins σ H s e s' I hq
 | ok fl=>
  cases fl with
  | ret u=>exact I.after hq
  | next=>exact False.elim hq
  | brk=>exact False.elim hq
  | cont=>exact False.elim hq
theorem py (F:FnOk X.prog X.w X.K X.mg X.base CX k f fd ps sp) (hr:Room k X.A) (hg:Gl X x) (hm:X.mg x=some (.ref f)) (hk:W.keepIn X.K (.ref f)=true) (hb:Binds X.K fd ps ds) (hd:Vals dvs ds) (hx:dj CX X E)
  (ha:PA X (e::es) t) (hdb:(x == ("__debug__" : Str))=false:=by decide) (he:starEach (e::es) X.env=(false,eval e X.env)::starEach es X.env:=by rfl) (hpl:(backTo pos (starEach es X.env)).any (·.1)=false:=by rfl) :
  PE X (.Call (.Name x p) (e::es) [] pos) (qc sp dvs E t):=by
 intro pins s σ H Q I h
 refine wpAny_Call_Name_kw (iE I hg hm ?_ hdb)
 refine PySem.W.callWith_K (h₀:=X.base) I.ok.mod.kin hk (thn (ha pos pins s σ H _ I h) fun us s1 ⟨vs,H1,I1,r,q⟩=>⟨I1.kIn,?_⟩) he hpl
 exact jJ F hr hb hd hx I1 r q
theorem ao {nr:Nat} (he:PE X o ta) (c:Cls X.K C) (hm:Meth X.K C m f) (F:FnOk X.prog X.w X.K X.mg X.base CX k f fd ps sp) (hr:Room nr X.A) (hb:Binds X.K fd ps ds) (hd:Vals dvs ds) (hx:dj CX X E) (ha:PA X (e::es) t)
  (hst:starEach (e::es) X.env=(false,eval e X.env)::starEach es X.env:=by rfl) (hpl:(backTo pos (starEach es X.env)).any (·.1)=false:=by rfl)
  (ht:eval (.Call (.Attribute o m apos) (e::es) [] pos) X.env=(do
   let ov <- eval o X.env
   standAt apos.atName
   let (f,first) <- holding [ov] (getMethod ov m pl)
   callWith pos f first (backTo pos (starEach (e::es) X.env)) (backToKw pos (keywordEach [] X.env))):=by rfl) (hj:k<=nr:=by decide) :
  PE X (.Call (.Attribute o m apos) (e::es) [] pos) (mI C m sp dvs E ta t):=by
 intro pins s σ H Q I h
 refine PySem.W.methodCall_KW (pl:=pl) (thn (he pins s σ H _ I h) fun u s1 ⟨x,H1,I1,rx,a,dx,fs,ex,ea,l,q⟩=>?_) ht
 subst ex
 obtain rfl:u=Value.ref a:=rx
 refine dR I1 ea c hm l ?_
 refine PySem.W.callWith_K (first:=[.ref a]) (h₀:=X.base) I.ok.mod.kin hm.kp (thn (ha pos pins s1 σ H1 _ I1 q) fun us s2 ⟨vs,H2,I2,r,q2⟩=>⟨I2.kIn,?_⟩) hst hpl
 exact jJ (us:=.ref a::us) (vs:=.ref a::vs) F (hr.mono hj) hb hd hx I2 (.cons rfl r) q2
theorem aC {nr:Nat} (he:PE X o ta) (c:Cls X.K C) (hm:Meth X.K C m f) (F:FnOk X.prog X.w X.K X.mg X.base CX k f fd ps sp) (hr:Room nr X.A) (hb:Binds X.K fd ps ds) (hd:Vals dvs ds) (hx:dj CX X E)
  (ht:eval (.Call (.Attribute o m apos) [] [] pos) X.env=(do
   let ov <- eval o X.env
   standAt apos.atName
   let (f,first) <- holding [ov] (getMethod ov m pl)
   callWith pos f first (backTo pos (starEach [] X.env)) (backToKw pos (keywordEach [] X.env))):=by rfl) (hj:k<=nr:=by decide) :
  PE X (.Call (.Attribute o m apos) [] [] pos) (mI C m sp dvs E ta jG):=by
 intro pins s σ H Q I h
 refine PySem.W.methodCall_KW (pl:=pl) (thn (he pins s σ H _ I h) fun u s1 ⟨x,H1,I1,rx,a,dx,fs,ex,ea,l,q⟩=>?_) ht
 subst ex
 obtain rfl:u=Value.ref a:=rx
 refine dR I1 ea c hm l ?_
 exact PySem.W.callWith_K0 (first:=[.ref a]) I1.kIn hm.kp (jJ (us:=[.ref a]) (vs:=[.ref a]) F (hr.mono hj) hb hd hx I1 (.cons rfl .nil) q)
structure Mk (K:PySem.W.Frag) (C f:Addr):Prop where
 makes:W.makesIn K C=true
 init:W.findIn K (.ref C) "__init__" = some (some (.ref f))
 fn:W.isFn K (.ref f)=true
 kp:W.keepIn K (.ref C)=true
theorem m5 {Q:VK}{us:List Value}{vs:List V} (M:Mk X.K C f) (F:FnOk X.prog X.w X.K X.mg X.base CX k f fd ps sp) (hr:Room (k+1) X.A) (hb:Binds X.K fd ps ds) (hd:Vals dvs ds)
  (hx:dj CX X E) (I:Inv X pins σ H s) (r:Vals vs us)
  (h:∀ x dx,H x=none->H dx=none->dx≠x->sp (.ref x::(vs++dvs)) (upd (upd H dx (.own x)) x (.ins C dx [])) (fun v H2=>v=.non/\Q (.ref x) H2) E) :
  wpAny (model X.prog X.w) X.A (call (.ref C) us) (EP X pins σ Q) X.xe s:=by
 have hq:=h (s.heap.objs.size+1) s.heap.objs.size (I.hok.fresh (Nat.le_succ _)) (I.hok.fresh (Nat.le_refl _)) (Nat.ne_of_lt (Nat.lt_succ_self _))
 have I2:=Inv.made (C:=C) I
 have r2:Vals (V.ref (s.heap.objs.size+1)::(vs++dvs)) (Value.ref (s.heap.objs.size+1)::(us++ds)):=.cons rfl (r.append hd)
 have hl:(Value.ref (s.heap.objs.size+1)::us++ds).length=ps.length:=by
  have e:=r2.length
  rw[F.len _ _ _ _ hq] at e
  exact e.symm
 refine wpAny_call (nP (f:=f) I.kIn M.makes M.init (beq_iff_eq.mp M.fn) (codeAny_mono (F.run _ X.stack _ _ ⟨Value.ref (s.heap.objs.size+1)::us,[]⟩ (Value.ref (s.heap.objs.size+1)::(us++ds)) _ _ E (hr.make C us [])
  (I2.env0.make C us []) (hb _ (Value.ref (s.heap.objs.size+1)::us) I2.kIn hl) r2 hq) fun r s' hq'=>?_))
 cases r with
 | error e=>exact hx pins σ _ _ e s' I2 hq'
 | ok fl=>
  cases fl with
  | ret u=>
   obtain⟨v,H',I3,rv,ev,q3⟩:=I2.after hq'
   subst ev
   exact⟨rv,⟨V.ref (s.heap.objs.size+1),H',I3,U,q3⟩⟩
  | next=>exact False.elim hq'
  | brk=>exact False.elim hq'
  | cont=>exact False.elim hq'
theorem d5 (M:Mk X.K C f) (F:FnOk X.prog X.w X.K X.mg X.base CX k f fd ps sp) (hr:Room (k+1) X.A) (hg:Gl X x) (hm:X.mg x=some (.ref C)) (hb:Binds X.K fd ps ds) (hd:Vals dvs ds) (hx:dj CX X E)
  (hdb:(x == ("__debug__" : Str))=false:=by decide):PE X (.Call (.Name x p) [] [] pos) (tMake C sp dvs E jG):=by
 intro pins s σ H Q I h
 refine wpAny_Call_Name_kw (iE I hg hm ?_ hdb)
 exact PySem.W.callWith_K0 I.kIn M.kp (m5 (us:=[]) M F hr hb hd hx I .nil h)
end
noncomputable def PK (X:Cx) (kws:List Keyword) (t:TA):Prop :=
 ∀ (pos:Pos) (pins:List (Addr×Obj)) (s:Shared) (σ:St) (H:Hp) (Q:List V->Hp->Prop),Inv X pins σ H s->t σ H Q->wpAny (model X.prog X.w) X.A (evalAll ((backToKw pos (keywordEach kws X.env)).map (·.2))) (AP X pins σ Q) X.xe s
section
variable {X:Cx}{CX:CXT}{k:Nat}{f C:Addr}{fd:FuncData}{ps ks:List Str}{sp:Sp}{E:XK}{x m:Str}{p pos apos kpos:Pos}{e o:Expr}{es:List Expr}{kws:List Keyword}{te ta:TE}{t tk:TA}{nm:Option Str}
theorem rE:PK X [] jG:=fun _ _ _ _ H Q I h=>wpAny_evalAll_nil ⟨[],H,I,.nil,h⟩
theorem ku (ha:PE X e te) (hr:PK X kws t):PK X (⟨nm,e,kpos⟩::kws) (mJ te t):=by
 intro pos pins s σ H Q I h
 show wpAny _ _ (evalAll ((do let v <- eval e X.env; standAt pos; pure v)::(backToKw pos (keywordEach kws X.env)).map (·.2))) _ _ s
 refine wpAny_evalAll_cons (wpAny_bind (thn (ha pins s σ H _ I h) fun u s1 ⟨x,H1,I1,r1,q1⟩=>wpAny_bind (wpAny_standAt (wpAny_pure ?_))))
 exact thn (hr pos pins s1 σ H1 _ I1 q1) fun us s2 ⟨xs,H2,I2,r2,q2⟩=>⟨x::xs,H2,I2,.cons r1 r2,q2⟩
structure KBinds (K:PySem.W.Frag) (fd:FuncData) (ps ks:List Str) (g:List Value->List Value->List Value) (gV:List V->List V->List V):Prop where
 to:∀ (s:Shared) (us ws:List Value),K.In s.heap->(g us ws).length=ps.length->BindsTo s fd ⟨us,ks.zip ws⟩ (ps.zip (g us ws))
 rel:∀ {vs:List V}{us:List Value}{zs:List V}{ws:List Value},Vals vs us->Vals zs ws->Vals (gV vs zs) (g us ws)
variable {g:List Value->List Value->List Value}{gV:List V->List V->List V}
theorem o9 {Q:VK}{us ws:List Value}{vs zs:List V} (F:FnOk X.prog X.w X.K X.mg X.base CX k f fd ps sp) (hr:Room k X.A) (hb:KBinds X.K fd ps ks g gV) (hx:dj CX X E)
  (I:Inv X pins σ H s) (r:Vals vs us) (rz:Vals zs ws) (h:sp (gV vs zs) H Q E):wpAny (model X.prog X.w) X.A (call (.ref f) us (ks.zip ws)) (EP X pins σ Q) X.xe s:=by
 have r2:=hb.rel r rz
 have hl:(g us ws).length=ps.length:=by rw[<- r2.length]; exact F.len _ _ _ _ h
 refine wpAny_call (codeAny_mono (F.run X.A X.stack s H ⟨us,ks.zip ws⟩ (g us ws) (gV vs zs) Q E hr I.env0 (hb.to s us ws I.kIn hl) r2 h) fun r s' hq=>?_)
 cases r with
 | error e=>exact hx pins σ H s e s' I hq
 | ok fl=>
  cases fl with
  | ret u=>exact I.after hq
  | next=>exact False.elim hq
  | brk=>exact False.elim hq
  | cont=>exact False.elim hq
end
structure FnScope (N P:List Str) (sc:Scope):Prop where
 kind:sc.kind=.function:=by rfl
 co:sc.isCoroutine=false:=by rfl
 gen:sc.isGenerator=false:=by rfl
 nd:N.Nodup:=by decide +kernel
 pre:N.take P.length=P:=by rfl
 par:∀ x ∈ P,sc.names.lookup x=some .local∨sc.names.lookup x=some .cell:=by decide +kernel
 nofree:∀ y ∈ sc.names,y.2≠.free:=by decide +kernel
theorem hZ {kindOf : Str->Option NameKind}{x : Str} : ∀ {binds : List (Str×Value)}{m : Str->Option Value}, (∀ v, (x, v) ∉ binds)->bindL kindOf binds m x=m x
  | [], _, _=>rfl
  | (n, v) :: r, m, h => by
    unfold bindL
    rw[hZ fun w hw=>h w (uj _ hw)]
    split
    · have : x≠n := by rintro rfl; exact h v uk
      simp[this]
    · rfl
theorem ie {kindOf : Str->Option NameKind}{x : Str} : ∀ {binds : List (Str×Value)}{m : Str->Option Value}, (∀ v, (x, v) ∉ binds)->bindC kindOf binds m x=m x
  | [], _, _=>rfl
  | (n, v) :: r, m, h => by
    unfold bindC
    rw[ie fun w hw=>h w (uj _ hw)]
    split
    · rfl
    · have : x≠n := by rintro rfl; exact h v uk
      simp[this]
theorem ic {kindOf:Str->Option NameKind}{x:Str}{v:Value}:∀ {P:List Str}{vs:List Value}{i:Nat}{m:Str->Option Value},P.Nodup->P[i]?=some x->vs[i]?=some v->kindOf x=some .local ->
  bindL kindOf (P.zip vs) m x=some v
 | [],_,_,_,_,h,_,_=>by simp at h
 | _::_,[],_,_,_,_,h,_=>by simp at h
 | p::P,w::vs,0,m,nd,h1,h2,hk=>by
  simp at h1 h2; subst h1; subst h2
  show bindL kindOf ((p,w)::P.zip vs) m p=_
  unfold bindL
  rw[hZ fun v hv=>(List.nodup_cons.mp nd).1 (List.of_mem_zip hv).1,if_pos hk]
  simp
 | p::P,w::vs,i+1,m,nd,h1,h2,hk=>by
  show bindL kindOf ((p,w)::P.zip vs) m x=_
  unfold bindL
  exact ic (i:=i) (List.nodup_cons.mp nd).2 (by simpa using h1) (by simpa using h2) hk
theorem ig {kindOf:Str->Option NameKind}{x:Str}{v:Value}:∀ {P:List Str}{vs:List Value}{i:Nat}{m:Str->Option Value},P.Nodup->P[i]?=some x->vs[i]?=some v->kindOf x≠some .local ->
  bindC kindOf (P.zip vs) m x=some v
 | [],_,_,_,_,h,_,_=>by simp at h
 | _::_,[],_,_,_,_,h,_=>by simp at h
 | p::P,w::vs,0,m,nd,h1,h2,hk=>by
  simp at h1 h2; subst h1; subst h2
  show bindC kindOf ((p,w)::P.zip vs) m p=_
  unfold bindC
  rw[ie fun v hv=>(List.nodup_cons.mp nd).1 (List.of_mem_zip hv).1,if_neg hk]
  simp
 | p::P,w::vs,i+1,m,nd,h1,h2,hk=>by
  show bindC kindOf ((p,w)::P.zip vs) m x=_
  unfold bindC
  exact ig (i:=i) (List.nodup_cons.mp nd).2 (by simpa using h1) (by simpa using h2) hk
noncomputable def start (N:List Str) (vs:List V):St:=vs.map some++List.replicate (N.length - vs.length) none
noncomputable def lV (CX:CXT) (P:Program) (w:World) (K:PySem.W.Frag) (mg:Str->Option Value) (base:Heap) (N:List Str) (qual:Str) (scope:Scope) (f:Addr) (cd:Value) (A:Around) (outer:List Env) (s:Shared) (H:Hp) (E:XK):Cx where
 prog:=P
 w:=w
 K:=K
 mg:=mg
 base:=base
 A:=A.deeper (envOfC qual scope s.heap.objs.size f cd)
 N:=N
 s₀:=s
 H₀:=H
 env:=envOfC qual scope s.heap.objs.size f cd
 outer:=outer
 stack:=envOfC qual scope s.heap.objs.size f cd::outer
 ex:=[]
 calm:=true
 fn:=fun _=>true
 pn:=[]
 xe:=fun e s'=>wpAny (model P w) (A.deeper (envOfC qual scope s.heap.objs.size f cd)) (leaving (envOfC qual scope s.heap.objs.size f cd) e) (fun _ s''=>CX outer H s E e s'') (fun e' s''=>CX outer H s E e' s'') s'
theorem jx {sc:Scope}{n:Nat}{x:Str} (h:sc.names.lookup x=some .cell):∃ c,(cellsFrom n sc.names []).lookup x=some c:=by
 have q:=PySem.W.cellsFrom_some sc.names n [] (.inl h)
 exact Option.isSome_iff_exists.mp q
theorem lJ {CX:CXT}{base:Heap}{N ps:List Str}{qual:Str}{scope:Scope}{f:Addr}{cd:Value}{outer:List Env}{s s1:Shared}{E:XK}{vs:List V}
  (S:FnScope N ps scope) (hd:A.handled=none) (e0:Env0 P w K mg base A outer s H) (hl:vs.length=ps.length) (r:Vals vs us)
  (x:InCallC s s.heap.objs.size (bindL (envOfC qual scope s.heap.objs.size f cd).kindOf (ps.zip us) fun _=>none) (cellsFrom (s.heap.objs.size+1) scope.names []) (bindC (envOfC qual scope s.heap.objs.size f cd).kindOf (ps.zip us) fun _=>none) s1) :
  Inv (lV CX P w K mg base N qual scope f cd A outer s H E) [] (start N vs) H s1:=by
 have hpl:ps.length<=N.length:=by have:=congrArg List.length S.pre; rw[uI] at this; omega
 obtain⟨h1,tk,rfl,hk⟩:=x.done
 have noA:∀ b:Addr,b ∉ (lV CX P w K mg base N qual scope f cd A outer s H E).ex:=fun b z=>absurd (show b ∈ ([]:List Addr) from z) (by simp)
 refine⟨⟨e0.mod,S.kind,U,U,Nat.le_refl _,fun y z c h1 h2=>?_,fun y hy=>?_,fun y c _ h=>?_,fun _=>hd,Around.frames_deeper e0.frames,.inr ⟨U,U⟩,fun b z=>absurd z (noA b),e0.bs,e0.bsz,fun b _ _=>noA b,fun b z=>absurd z (noA b),e0.funs,e0.frf⟩,
  rfl,e0.bare,Un.kept hk,⟨_,x.toInCall.ns,fun i y v h1 h2 h3=>?_⟩,fun y c h=>⟨_,x.cell y c h⟩,e0.hok.fresh (Nat.le_refl _),fun y c h=>?_,fun p hp=>absurd (show p ∈ ([]:List (Addr×Obj)) from hp) (by simp),e0.hok.kept hk,?_⟩
 ·exact name_of_addr x.apart (PySem.mem_of_lookup h1) (PySem.mem_of_lookup h2)
 ·have hy:scope.names.lookup y=some .cell∨scope.names.lookup y=some .free:=hy
  rcases hy with hy | hy
  ·exact jx hy
  ·exact absurd rfl (S.nofree _ (PySem.mem_of_lookup hy))
 ·exact Nat.le_of_lt (x.above y c (PySem.mem_of_lookup h))
 ·have hi:i<vs.length:=by
   unfold start at h2
   by_cases hi:i<vs.length
   ·exact hi
   ·rw[uG (by simpa using hi)] at h2
    rw[List.getElem?_replicate] at h2
    split at h2 <;> cases h2
  have ha:vs[i]?=some v:=by
   unfold start at h2
   rw[uF (by simpa using hi),ur] at h2
   cases e:vs[i]? with
   | none=>rw[e] at h2; cases h2
   | some a=>rw[e] at h2; cases h2; rfl
  obtain⟨u,hu,rv⟩:=r.get ha
  have hp:ps[i]?=some y:=by
   rw[<- S.pre,List.getElem?_take_of_lt (by omega)]; exact h1
  have ndP:ps.Nodup:=by rw[<- S.pre]; exact S.nd.sublist (List.take_sublist _ _)
  refine⟨u,rv,?_⟩
  rcases S.par y (ut hp) with k | k
  ·exact .inl ⟨k,ic ndP hp hu k⟩
  ·obtain⟨c,e⟩:=jx (n:=s.heap.objs.size+1) k
   refine .inr ⟨.inl k,c,e,?_⟩
   have q:=x.cell y c e
   rw[ig ndP hp hu (by show scope.names.lookup y≠_; rw[k]; decide)] at q
   exact q
 ·exact e0.hok.fresh (Nat.le_of_lt (x.above y c (PySem.mem_of_lookup h)))
 ·unfold start
  show _=N.length
  rw[uq,um,uD]
  omega
theorem fn_of {CX:CXT}{base:Heap}{k:Nat}{f:Addr}{name qual:Str}{params:Arguments}{body:List Stmt}{scope:Scope}{dV kV doc pm cdv ct oc:Value}{an od:Option Addr}
  {osl:Array (Option Value)}{N ps:List Str}{sp:Sp} (lk:K.lookup f=some ⟨oc,od,.func (W.fnOf name qual params body scope dV kV doc pm an cdv ct),osl⟩) (hcd:W.codeIn K cdv qual=true) (S:FnScope N ps scope)
  (len:∀ vs H Q E,sp vs H Q E->vs.length=ps.length)
  (hbody:∀ (A:Around) (outer:List Env) (s:Shared) (H:Hp) (vs:List V) (Q:VK) (E:XK),Room k (A.deeper (envOfC qual scope s.heap.objs.size f cdv))->sp vs H Q E ->
   ∃ t,PSs (lV CX P w K mg base N qual scope f cdv A outer s H E) body t/\t { nx:=fun _ H'=>Q .non H',rt:=Q } (start N vs) H) :
  FnOk P w K mg base CX (k+1) f (W.fnOf name qual params body scope dV kV doc pm an cdv ct) ps sp:=by
 refine⟨len,fun A outer s H args us vs Q E hr e0 hb r hsp=>?_⟩
 have hl:=len _ _ _ _ hsp
 have KX:K.In s.heap:=e0.mod.kin.keeps fun b o e=>(e0.bs b o e).1
 have lim:s.heap.NoLimit:=e0.mod.nolimit.keeps fun b o e=>(e0.bs b o e).1
 have hkind:∀ y ∈ ps.zip us,scope.names.lookup y.1=some .local∨(scope.names.lookup y.1=some .cell/\((cellsFrom (s.heap.objs.size+1) scope.names []).lookup y.1).isSome=true):=fun⟨n,v⟩ hy=>by
  rcases S.par n (List.of_mem_zip hy).1 with q | q
  ·exact .inl q
  ·exact .inr ⟨q,PySem.W.cellsFrom_some _ _ _ (.inl q)⟩
 refine codeAny_call_function hr.depth (KX _ _ lk) rfl S.co S.gen rfl (PySem.W.codeRec_of KX hcd) (hb _ _ _ _ ?_)
 refine wpAny_newFunctionEnv_cells S.kind hkind fun env he s1 x=>?_
 subst he
 refine⟨lim.keeps x.toInCall.keep,codeAny_func ?_⟩
 obtain⟨t,ht,hq⟩:=hbody A outer s H vs Q E (hr.deeper _) hsp
 have I:Inv (lV CX P w K mg base N qual scope f cdv A outer s H E) [] (start N vs) H s1:=lJ S hr.hd e0 hl r x
 refine wpAny_mono (ht [] s1 (start N vs) H _ I hq) (fun fl s' hs=>?_) fun e s' hs=>hs
 have fin:∀ {σ':St}{H':Hp}{v:V}{u:Value},Inv (lV CX P w K mg base N qual scope f cdv A outer s H E) [] σ' H' s'->RelV v u->Q v H'->CE outer P w H s Q u s' :=
  fun {σ' H' v u} J rv q=>⟨v,H',J.os,J.bare,J.base,J.hok,rv,q⟩
 cases fl with
 | ret u=>
  obtain⟨v,σ',H',J,rv,q⟩:=hs
  exact fin J rv q
 | next=>
  obtain⟨σ',H',J,q⟩:=hs
  exact fin (v:=V.non) (u:=Value.none) J rfl q
 | brk=>
  obtain⟨_,_,_,q⟩:=hs
  exact False.elim q
 | cont=>
  obtain⟨_,_,_,q⟩:=hs
  exact False.elim q
section
variable {X:Cx}{x:Str}{p pos:Pos}{e:Expr}{es:List Expr}{t:TA}{id T:String}{r:List V->Hp->VK->Prop}
noncomputable def tCB (r:List V->Hp->VK->Prop) (t:TA):TE:=fun σ H Q=>t σ H fun vs H1=>r vs H1 Q
theorem aG (hc:cy X (.builtin id) r) (hg:Gl X x) (hm:X.mg x=none) (hv:bootBuiltins x=some (.builtin id)) (ha:PA X (e::es) t) (hn:x ≠ "__name__":=by decide) (hdb:(x == ("__debug__" : Str))=false:=by decide)
  (he:starEach (e::es) X.env=(false,eval e X.env)::starEach es X.env:=by rfl) (hpl:(backTo pos (starEach es X.env)).any (·.1)=false:=by rfl):PE X (.Call (.Name x p) (e::es) [] pos) (tCB r t):=by
 intro pins s σ H Q I h
 refine wpAny_Call_Name_kw (dP I hg hm hv ?_ hn hdb)
 exact PyProof.Rows.callWith_builtin1 (thn (ha pos pins s σ H _ I h) fun us s1 ⟨vs,H1,I1,r1,q1⟩=>hc pins s1 σ H1 vs us Q I1 r1 q1) he hpl
theorem aU (hc:cy X (.type T) r) (hg:Gl X x) (hm:X.mg x=none) (hv:bootBuiltins x=some (.type T)) (ha:PA X (e::es) t) (hn:x ≠ "__name__":=by decide) (hdb:(x == ("__debug__" : Str))=false:=by decide)
  (he:starEach (e::es) X.env=(false,eval e X.env)::starEach es X.env:=by rfl) (hpl:(backTo pos (starEach es X.env)).any (·.1)=false:=by rfl):PE X (.Call (.Name x p) (e::es) [] pos) (tCB r t):=by
 intro pins s σ H Q I h
 refine wpAny_Call_Name_kw (dP I hg hm hv ?_ hn hdb)
 exact PyProof.Rows.callWith_type1 (thn (ha pos pins s σ H _ I h) fun us s1 ⟨vs,H1,I1,r1,q1⟩=>hc pins s1 σ H1 vs us Q I1 r1 q1) he hpl
end
end L2
namespace L2
open PySem PySem.Spec PyProof.Rows
variable{u:Value}
section
variable {κ:Type} [DecidableEq κ]
noncomputable def ak (kvs:List (κ×V)) (k:κ):Option V:=(kvs.find? fun kv=>decide (kv.1=k)).map (·.2)
noncomputable def aH (kvs:List (κ×V)) (k:κ) (v:V):List (κ×V) :=
 if (kvs.any fun kv=>decide (kv.1=k))=true then kvs.map (fun kv=>if kv.1=k then(kv.1,v) else kv) else kvs++[(k,v)]
noncomputable def ax (kvs:List (κ×V)) (k:κ):List (κ×V):=kvs.filter fun kv=>decide (kv.1≠k)
theorem bc {p:κ×V}{r:List (κ×V)}{k:κ} (e:p.1=k):ak (p::r) k=some p.2:=by simp[ak,uS,e]
theorem aW {p:κ×V}{r:List (κ×V)}{k:κ} (e:¬ p.1=k):ak (p::r) k=ak r k:=by simp[ak,uS,e]
theorem dk (k:κ):∀ kvs:List (κ×V),(kvs.any fun kv=>decide (kv.1=k))=(ak kvs k).isSome
 | []=>rfl
 | p::r=>by
  rw[List.any_cons]
  by_cases e:p.1=k
  ·simp only[bc e,decide_eq_true e,Bool.true_or,Option.isSome_some]
  ·rw[aW e,decide_eq_false e,Bool.false_or]; exact dk k r
theorem iY (k j:κ) (y:V):∀ kvs:List (κ×V),ak (kvs.map fun kv=>if kv.1=k then(kv.1,y) else kv) j=(ak kvs j).map fun x=>if j=k then y else x
 | []=>rfl
 | p::r=>by
  have ih:=iY k j y r
  rw[uH]
  by_cases h:p.1=k
  ·rw[if_pos h]
   by_cases e:p.1=j
   ·rw[bc (p:=(p.1,y)) e,bc e,Option.map_some,if_pos (e.symm.trans h)]
   ·rw[aW (p:=(p.1,y)) e,aW e,ih]
  ·rw[if_neg h]
   by_cases e:p.1=j
   ·rw[bc (p:=p) e,bc e,Option.map_some,if_neg (fun z=>h (e.trans z))]
   ·rw[aW (p:=p) e,aW e,ih]
theorem gQ (k j:κ) (y:V):∀ kvs:List (κ×V),ak kvs k=none->ak (kvs++[(k,y)]) j=if j=k then some y else ak kvs j
 | [],_=>by
  by_cases e:k=j
  ·rw[if_pos e.symm]; exact bc (p:=(k,y)) e
  ·rw[if_neg (fun z=>e z.symm)]; exact aW (p:=(k,y)) e
 | p::r,hn=>by
  rw[List.cons_append]
  have hk:¬ p.1=k:=fun z=>by rw[bc z] at hn; cases hn
  rw[aW hk] at hn
  have ih:=gQ k j y r hn
  by_cases e:p.1=j
  ·rw[bc e,bc e,if_neg (fun z=>hk (e.trans z))]
  ·rw[aW e,aW e,ih]
theorem av (kvs:List (κ×V)) (k j:κ) (y:V):ak (aH kvs k y) j=if j=k then some y else ak kvs j:=by
 unfold aH
 by_cases a:(kvs.any fun kv=>decide (kv.1=k))=true
 ·rw[if_pos a,iY]
  rw[dk] at a
  by_cases e:j=k
  ·obtain⟨x,hx⟩:=Option.isSome_iff_exists.mp a
   rw[if_pos e,e,hx,Option.map_some,if_pos rfl]
  ·rw[if_neg e]
   cases ak kvs j with
   | none=>rfl
   | some x=>rw[Option.map_some,if_neg e]
 ·rw[if_neg a]
  refine gQ k j y kvs ?_
  rw[dk] at a
  cases q:ak kvs k with
  | none=>rfl
  | some x=>rw[q] at a; exact(a rfl).elim
theorem bv (kvs:List (κ×V)) (k:κ) (v:V):(aH kvs k v).length<=kvs.length+1:=by
 unfold aH
 split
 ·rw[um]; omega
 ·rw[uq,uv,List.length_nil]; omega
theorem putK_new {kvs:List (κ×V)}{k:κ} (v:V) (h:ak kvs k=none):aH kvs k v=kvs++[(k,v)]:=by
 unfold aH
 rw[dk,h]
 exact if_neg (by decide)
theorem RelO.isSome_eq {o:Option V}{u:Option Value} (r:RelO o u):o.isSome=u.isSome:=by
 cases o with
 | none=>cases u with
  | none=>rfl
  | some _=>exact(show False from r).elim
 | some _=>cases u with
  | none=>exact(show False from r).elim
  | some _=>rfl
theorem RelO.getD {o:Option V}{u:Option Value}{d:V}{d':Value} (r:RelO o u) (rd:RelV d d'):RelV (o.getD d) (u.getD d'):=by
 cases o with
 | none=>cases u with
  | none=>exact rd
  | some _=>exact(show False from r).elim
 | some _=>cases u with
  | none=>exact(show False from r).elim
  | some _=>exact r
theorem KV.val {kvs:List (κ×V)}{vs:List (κ×Value)} (r:KV kvs vs) (k:κ):RelO (ak kvs k) (valueAt vs k):=by
 unfold KV at r
 induction r with
 | nil=>exact True.intro
 | @cons p q ps qs h t ih=>
  obtain⟨h1,h2⟩:=h
  by_cases e:p.1=k
  ·have e':q.1=k:=h1.symm.trans e
   have b:valueAt (q::qs) k=some q.2:=by simp[valueAt,uS,e']
   rw[bc e,b]; exact h2
  ·have e':¬ q.1=k:=fun z=>e (h1.trans z)
   have b:valueAt (q::qs) k=valueAt qs k:=by simp[valueAt,uS,e']
   rw[aW e,b]; exact ih
theorem KV.any {kvs:List (κ×V)}{vs:List (κ×Value)} (r:KV kvs vs) (k:κ):(kvs.any fun kv=>decide (kv.1=k))=vs.any fun kv=>decide (kv.1=k):=by
 unfold KV at r
 induction r with
 | nil=>rfl
 | cons h t ih=>rw[List.any_cons,List.any_cons,ih,h.1]
theorem KV.repl {kvs:List (κ×V)}{vs:List (κ×Value)} (r:KV kvs vs) (k:κ) {y:V} (ry:RelV y u) :
  KV (kvs.map fun kv=>if kv.1=k then(kv.1,y) else kv) (vs.map fun kv=>if kv.1=k then(kv.1,u) else kv):=by
 unfold KV at r ⊢
 induction r with
 | nil=>exact .nil
 | @cons p q ps qs h t ih=>
  rw[uH,uH]
  refine .cons ?_ ih
  obtain⟨h1,h2⟩:=h
  by_cases e:p.1=k
  ·rw[if_pos e,if_pos (h1.symm.trans e)]; exact⟨h1,ry⟩
  ·rw[if_neg e,if_neg (fun z=>e (h1.trans z))]; exact⟨h1,h2⟩
theorem KV.put {kvs:List (κ×V)}{vs:List (κ×Value)} (r:KV kvs vs) (k:κ) {y:V} (ry:RelV y u):KV (aH kvs k y) (stored vs k u):=by
 unfold aH stored
 rw[r.any k]
 by_cases e:(vs.any fun kv=>decide (kv.1=k))=true
 ·rw[if_pos e,if_pos e]; exact r.repl k ry
 ·rw[if_neg e,if_neg e]; exact Paired.snoc r ⟨U,ry⟩
theorem KV.drop {kvs:List (κ×V)}{vs:List (κ×Value)} (r:KV kvs vs) (k:κ):KV (ax kvs k) (without vs k):=by
 unfold KV at r ⊢
 unfold ax without
 induction r with
 | nil=>exact .nil
 | @cons p q ps qs h t ih=>
  obtain⟨h1,h2⟩:=h
  rw[List.filter_cons,List.filter_cons]
  by_cases e:p.1=k
  ·have a:¬ decide (p.1≠k)=true:=by simp[e]
   have b:¬ decide (q.1≠k)=true:=by simp[h1.symm.trans e]
   rw[if_neg a,if_neg b]; exact ih
  ·have e':¬ q.1=k:=fun z=>e (h1.trans z)
   have a:decide (p.1≠k)=true:=by simp[e]
   have b:decide (q.1≠k)=true:=by simp[e']
   rw[if_pos a,if_pos b]; exact .cons ⟨h1,h2⟩ ih
theorem KV.keys {kvs:List (κ×V)}{vs:List (κ×Value)} (r:KV kvs vs):kvs.map (·.1)=vs.map (·.1):=by
 unfold KV at r
 induction r with
 | nil=>rfl
 | cons h t ih=>rw[uH,uH,ih,h.1]
theorem KV.length {kvs:List (κ×V)}{vs:List (κ×Value)} (r:KV kvs vs):kvs.length=vs.length:=Paired.length r
theorem dropK_le (kvs:List (κ×V)) (k:κ):(ax kvs k).length<=kvs.length:=List.length_filter_le _ _
end
variable{P:Program}{w:World}
theorem eB {k:Key} (r:RelV (kV k) u):(aS P w).is k u=true:=by
 cases k with
 | inl i=>obtain⟨t,e⟩:=(show ∃ t,u=Value.int i t from r); subst e; exact ji P w i t
 | inr x=>obtain⟨t,e⟩:=(show ∃ t,u=Value.str x t from r); subst e; exact jh P w x t
theorem hJ :∀ {ks:List Key}{us:List Value},Vals (ks.map kV) us->ItemsAre (aS P w) ks us
 | [],_,r=>by rw[List.map_nil] at r; cases r; exact .nil
 | k::ks,_,r=>by
  rw[uH] at r
  cases r with
  | cons h t=>exact .cons (eB h) (hJ t)
noncomputable abbrev KT (H:Hp):List (List Key×V)->List (List Key×Addr×Value)->Prop:=Paired fun p q=>p.1=q.1/\H q.2.1=some (.tup (p.1.map kV))/\RelV p.2 q.2.2
variable{kvs:List (List Key×V)}{xs:List (List Key×Addr×Value)}{H:Hp}
theorem KT.val (r:KT H kvs xs) (k:List Key):RelO (ak kvs k) ((atKey xs k).map (·.2)):=by
 induction r with
 | nil=>exact True.intro
 | @cons p q ps qs h t ih=>
  obtain⟨h1,_,h2⟩:=h
  by_cases e:p.1=k
  ·have e':q.1=k:=h1.symm.trans e
   have b:atKey (q::qs) k=some q.2:=by simp[atKey,uS,e']
   rw[bc e,b]; exact h2
  ·have e':¬ q.1=k:=fun z=>e (h1.trans z)
   have b:atKey (q::qs) k=atKey qs k:=by simp[atKey,uS,e']
   rw[aW e,b]; exact ih
theorem KT.repl (r:KT H kvs xs) (k:List Key) {y:V} (ry:RelV y u) :
  KT H (kvs.map fun kv=>if kv.1=k then(kv.1,y) else kv) (xs.map (putAt k u)):=by
 induction r with
 | nil=>exact .nil
 | @cons p q ps qs h t ih=>
  rw[uH,uH]
  refine .cons ?_ ih
  obtain⟨h1,h2,h3⟩:=h
  unfold putAt
  by_cases e:p.1=k
  ·rw[if_pos e,if_pos (h1.symm.trans e)]; exact⟨h1,h2,ry⟩
  ·rw[if_neg e,if_neg (fun z=>e (h1.trans z))]; exact⟨h1,h2,h3⟩
theorem KT.put (r:KT H kvs xs) (k:List Key) {b:Addr}{y:V} (hb:H b=some (.tup (k.map kV))) (ry:RelV y u) :
  KT H (aH kvs k y) (storedH xs k b u):=by
 have e:(kvs.any fun kv=>decide (kv.1=k))=(atKey xs k).isSome:=by
  rw[dk,(r.val k).isSome_eq,Option.isSome_map]
 unfold aH storedH
 rw[e]
 by_cases q:(atKey xs k).isSome=true
 ·rw[if_pos q,if_pos q]; exact r.repl k ry
 ·rw[if_neg q,if_neg q]; exact Paired.snoc r ⟨U,hb,ry⟩
theorem KT.keeps {H H':Hp} (r:KT H kvs xs) (ht:∀ b ys,H b=some (.tup ys)->H' b=some (.tup ys)):KT H' kvs xs :=
 Paired.mapP r fun _ _ z=>⟨z.1,ht _ _ z.2.1,z.2.2⟩
section
variable {P:Program}{w:World}{H:Hp}{h:Heap}{a:Addr}
theorem qz {u:HO} (ok:HOk P w H h) (e:Rd H a u):ObjOk P w H h a u:=e.ok ok
theorem eO {kvs:List (Key×V)} (ok:HOk P w H h) (e:Rd H a (.dK kvs)):kvs.length<=sizeLine/\(a == sysModules)=false/\∃ vs,KV kvs vs/\h.DictOf (aS P w) a vs :=
 show ObjOk P w H h a (.dK kvs) from qz ok e
theorem kO {kvs:List (Key×V)} (ok:HOk P w H h) (e:H a=some (.dK kvs)):kvs.length<=sizeLine/\(a == sysModules)=false/\∃ vs,KV kvs vs/\h.DictOf (aS P w) a vs:=eO ok (.inl e)
theorem fg {ks:List Key} (ok:HOk P w H h) (e:H a=some (.tup (ks.map kV))):(tupleKind (aS P w)).is h ks a:=by
 obtain⟨_,its,r,o,h1,h2,n,h3⟩:=(show ObjOk P w H h a (.tup (ks.map kV)) from ok a _ e)
 exact⟨o,its.toArray,n,h1,h2,h3,by simpa using hJ r⟩
theorem fB (ok:HOk P w H h) (e:Rd H a (.dT kvs)):kvs.length<=sizeLine/\(a == sysModules)=false /\
  ∃ xs,KT H kvs xs/\h.DictOfH (tupleKind (aS P w)) a xs:=by
 obtain⟨z,y,xs,r,o,es,ep,h1,h2,h3,h4,h5⟩:=(show ObjOk P w H h a (.dT kvs) from qz ok e)
 refine⟨z,y,xs,r,o,es,ep,h1,h2,h3,h4,fun x hx=>?_,h5⟩
 have all:∀ {l:List (List Key×V)}{m:List (List Key×Addr×Value)},KT H l m->∀ x ∈ m,(tupleKind (aS P w)).is h x.1 x.2.1:=by
  intro l m q
  induction q with
  | nil=>intro x hx; exact nomatch hx
  | @cons p q ps qs hq t ih=>
   intro x hx
   rcases uz.mp hx with e | hx
   ·subst e
    exact fg ok (by rw[<- hq.1]; exact hq.2.1)
   ·exact ih x hx
 exact all r x hx
theorem dt_of (ok:HOk P w H h) (e:H a=some (.dT kvs)):kvs.length<=sizeLine/\(a == sysModules)=false /\
  ∃ xs,KT H kvs xs/\h.DictOfH (tupleKind (aS P w)) a xs:=fB ok (.inl e)
end
noncomputable def DGet (H:Hp) (a:Addr) (y:V) (r:Option V):Prop :=
 (∃ kvs k,Rd H a (.dK kvs)/\y=kV k/\r=ak kvs k)∨∃ kvs k b,Rd H a (.dT kvs)/\y=.ref b/\H b=some (.tup (k.map kV))/\r=ak kvs k
noncomputable def DPut (H:Hp) (a:Addr) (y v:V) (H':Hp):Prop :=
 (∃ kvs k,H a=some (.dK kvs)/\y=kV k/\kvs.length<sizeLine/\H'=upd H a (.dK (aH kvs k v))) ∨
 ∃ kvs k b,H a=some (.dT kvs)/\y=.ref b/\H b=some (.tup (k.map kV))/\kvs.length<sizeLine/\H'=upd H a (.dT (aH kvs k v))
theorem DGet.k {a:Addr}{kvs:List (Key×V)}{k:Key} (e:H a=some (.dK kvs)):DGet H a (kV k) (ak kvs k):=.inl ⟨kvs,k,.inl e,U,U⟩
theorem DGet.t {a b:Addr}{k:List Key} (e:H a=some (.dT kvs)) (eb:H b=some (.tup (k.map kV))):DGet H a (.ref b) (ak kvs k):=.inr ⟨kvs,k,b,.inl e,U,eb,U⟩
theorem DPut.k {a:Addr}{kvs:List (Key×V)}{k:Key}{v:V} (e:H a=some (.dK kvs)) (hl:kvs.length<sizeLine):DPut H a (kV k) v (upd H a (.dK (aH kvs k v))):=.inl ⟨kvs,k,e,U,hl,U⟩
theorem DPut.t {a b:Addr}{k:List Key}{v:V} (e:H a=some (.dT kvs)) (eb:H b=some (.tup (k.map kV))) (hl:kvs.length<sizeLine) :
  DPut H a (.ref b) v (upd H a (.dT (aH kvs k v))):=.inr ⟨kvs,k,b,e,U,eb,hl,U⟩
variable{Q:Value->Shared->Prop}
section
variable {X:Cx}{pins:List (Addr×Obj)}{σ:St}{H:Hp}{s:Shared}{a:Addr}{y v:V}{u r:Value}{o:Option V}{A:Around}{E:Value->Shared->Prop}
theorem Inv.big (I:Inv X pins σ H s):sysModules<s.heap.objs.size:=by
 have h:mainGlobals<s.heap.objs.size:=(I.mod.glob.keeps I.bk).lt
 exact Nat.lt_trans (by decide) h
theorem lT (hu:A.units+1<cLine) (I:Inv X pins σ H s) (g:DGet H a y (some v)) (ry:RelV y u) (h:∀ w' s',Inv X pins σ H s'->RelV v w'->Q w' s') :
  wpAny (model X.prog X.w) A (getItem (.ref a) u) Q E s:=by
 rcases g with ⟨kvs,k,e,ey,l⟩ | ⟨kvs,k,b,e,ey,eb,l⟩
 ·subst ey
  obtain⟨z,hd,vs,rel,dd⟩:=eO I.hok e
  obtain⟨w',hw,rw'⟩:=RelO.some_of (v:=v) (o:=valueAt vs k) (by rw[l]; exact rel.val k)
  exact wpAny_getItem_of (eB ry) dd.mapOf hw (h w' _ (I.tok _) rw')
 ·subst ey
  cases (show u=Value.ref b from ry)
  obtain⟨z,hd,xs,rel,dd⟩:=fB I.hok e
  obtain⟨w',hw,rw'⟩:=RelO.some_of (v:=v) (o:=(atKey xs k).map (·.2)) (by rw[l]; exact rel.val k)
  obtain⟨p,hp,hp2⟩:=Option.map_eq_some_iff.mp hw
  refine wpAny_getItem_heap (tupleKind_room_in1 hu) (fg I.hok eb) dd hp ?_
  rw[hp2]
  exact h w' _ (I.tok _) rw'
theorem d_in (hu:A.units+1<cLine) (I:Inv X pins σ H s) (g:DGet H a y o) (ry:RelV y u) (h:∀ s',Inv X pins σ H s'->Q (.bool o.isSome) s') :
  wpAny (model X.prog X.w) A (compareOp .In u (.ref a)) Q E s:=by
 rcases g with ⟨kvs,k,e,ey,l⟩ | ⟨kvs,k,b,e,ey,eb,l⟩
 ·subst ey
  obtain⟨z,hd,vs,rel,dd⟩:=eO I.hok e
  refine wpAny_in_of (eB ry) hd dd.mapOf ?_
  rw[<- (rel.val k).isSome_eq,<- l]
  exact h _ (I.tok _)
 ·subst ey
  cases (show u=Value.ref b from ry)
  obtain⟨z,hd,xs,rel,dd⟩:=fB I.hok e
  refine wpAny_in_heap (tupleKind_room_in1 hu) (fg I.hok eb) hd dd ?_
  have q:=(rel.val k).isSome_eq
  rw[Option.isSome_map] at q
  rw[<- q,<- l]
  exact h _ (I.tok _)
theorem pP (hu:A.units+1<cLine) (I:Inv X pins σ H s) (g:DGet H a y o) (ry:RelV y u) (h:∀ s',Inv X pins σ H s'->Q (.bool (!o.isSome)) s') :
  wpAny (model X.prog X.w) A (compareOp .NotIn u (.ref a)) Q E s:=by
 rcases g with ⟨kvs,k,e,ey,l⟩ | ⟨kvs,k,b,e,ey,eb,l⟩
 ·subst ey
  obtain⟨z,hd,vs,rel,dd⟩:=eO I.hok e
  refine wpAny_notIn_of (eB ry) hd dd.mapOf ?_
  rw[<- (rel.val k).isSome_eq,<- l]
  exact h _ (I.tok _)
 ·subst ey
  cases (show u=Value.ref b from ry)
  obtain⟨z,hd,xs,rel,dd⟩:=fB I.hok e
  refine wpAny_notIn_heap (tupleKind_room_in1 hu) (fg I.hok eb) hd dd ?_
  have q:=(rel.val k).isSome_eq
  rw[Option.isSome_map] at q
  rw[<- q,<- l]
  exact h _ (I.tok _)
theorem fO {h':Heap}{t':Nat}{ob:HO} (I:Inv X pins σ H s) (mu:Mut (H a)) (hs:Heap.SameBut a s.heap h') (he:∃ q,h'.get? a=some q) (new:ObjOk X.prog X.w (upd H a ob) h' a ob) :
  Inv X pins σ (upd H a ob) { s with heap:=h',toks:=t' } :=
 I.write (x:=a) (e:=a) mu (.inl rfl) (fun b q hb z=>(hs.2 b hb).trans z) he new
theorem iO {H':Hp}{h':Heap}{kvs:List (Key×V)}{vs:List (Key×Value)} (z:kvs.length<=sizeLine) (hd:(a == sysModules)=false) (rel:KV kvs vs) (dd:h'.DictOf (aS P w) a vs) :
  ObjOk P w H' h' a (.dK kvs):=⟨z,hd,vs,rel,dd⟩
theorem lS {H':Hp}{Q:Unit->Shared->Prop} (hu:A.units+1<cLine) (I:Inv X pins σ H s) (g:DPut H a y v H') (ry:RelV y u) (rv:RelV v r) (h:∀ s',Inv X pins σ H' s'->Q () s') :
  wpAny (model X.prog X.w) A (setItem (.ref a) u r) Q E s:=by
 rcases g with ⟨kvs,k,e,ey,l,eH⟩ | ⟨kvs,k,b,e,ey,eb,l,eH⟩
 ·subst ey eH
  obtain⟨z,hd,vs,rel,dd⟩:=kO I.hok e
  have hz:vs.length<=sizeLine:=by rw[<- rel.length]; exact z
  have hl:(aH kvs k v).length<=sizeLine:=by have:=bv kvs k v; omega
  refine wpAny_setItem_pairs (hsz:=hz) (eB ry) dd fun h' dd' hs=>h _ ?_
  have he:∃ q,h'.get? a=some q:=let ⟨q,_,_,hq,_⟩:=dd'; ⟨q,hq⟩
  exact fO I (by rw[e]; exact True.intro) hs he (iO hl hd (rel.put k rv) dd')
 ·subst ey eH
  cases (show u=Value.ref b from ry)
  obtain⟨z,hd,xs,rel,dd⟩:=dt_of I.hok e
  have hz:xs.length<=sizeLine:=by rw[<- Paired.length rel]; exact z
  have hl:(aH kvs k v).length<=sizeLine:=by have:=bv kvs k v; omega
  refine wpAny_setItem_heap (hsz:=hz) (tupleKind_room_in1 hu) (fg I.hok eb) dd fun h' dd' hs=>h _ ?_
  obtain⟨q,es,ep,hq,h2,h3,h4,_,h5⟩:=dd'
  refine fO I (by rw[e]; exact True.intro) hs ⟨q,hq⟩ ⟨hl,hd,_,(rel.put k eb rv).keeps fun c ys ec=>?_,q,es,ep,hq,h2,h3,h4,h5⟩
  rw[aM (ne_of ec e (fun z=>nomatch z))]
  exact ec
end
section
variable {X:Cx}{pins:List (Addr×Obj)}{σ:St}{H:Hp}{s:Shared}{a:Addr}{kvs:List (Key×V)}{k:Key}{u:Value}{A:Around}{E:Value->Shared->Prop}
theorem lU {Q:Unit->Shared->Prop} (I:Inv X pins σ H s) (e:H a=some (.dK kvs)) (ry:RelV (kV k) u) (l:(ak kvs k).isSome=true) (h:∀ s',Inv X pins σ (upd H a (.dK (ax kvs k))) s'->Q () s') :
  wpAny (model X.prog X.w) A (delItem (.ref a) u) Q E s:=by
 obtain⟨z,hd,vs,rel,dd⟩:=kO I.hok e
 refine wpAny_delItem_slot dd.typeIs (by decide) PySem.F.slot_dict_delitem
  (call_meetsIn PySem.F.slot_dict_delitem dd.typeIs PySem.F.entry_dict_delitem (PySem.F.args_dict_delitem_2 _ _) (meets_dict_delitem_pairs (aS X.prog X.w) a (eB ry)) ⟨vs,dd,by rw[<- rel.length]; exact z,by rw[<- (rel.val k).isSome_eq]; exact l,fun h' dd' hs=>h _ ?_⟩)
 have he:∃ q,h'.get? a=some q:=let ⟨q,_,_,hq,_⟩:=dd'; ⟨q,hq⟩
 exact fO I (by rw[e]; exact True.intro) hs he (iO (Nat.le_trans (dropK_le kvs k) z) hd (rel.drop k) dd')
theorem d_pop {v:V}{more:List Value} (I:Inv X pins σ H s) (e:H a=some (.dK kvs)) (ry:RelV (kV k) u) (l:ak kvs k=some v) (hm:more=[]∨∃ x,more=[x])
  (h:∀ w' s',Inv X pins σ (upd H a (.dK (ax kvs k))) s'->RelV v w'->Q w' s'):wpAny (model X.prog X.w) A (call (.builtin "dict.pop") (.ref a::u::more)) Q E s:=by
 obtain⟨z,hd,vs,rel,dd⟩:=kO I.hok e
 obtain⟨w',hw,rw'⟩:=RelO.some_of (v:=v) (o:=valueAt vs k) (by rw[<- l]; exact rel.val k)
 have hp:(keyPart u).isSome=true:=by
  cases k with
  | inl i=>obtain⟨t,q⟩:=(show ∃ t,u=Value.int i t from ry); subst q; rfl
  | inr x=>obtain⟨t,q⟩:=(show ∃ t,u=Value.str x t from ry); subst q; rfl
 have ha:argsOk "dict.pop" ⟨.ref a::u::more,[]⟩:=by
  rcases hm with q | ⟨x,q⟩
  ·subst q; exact PySem.F.args_dict_pop_2 _ _
  ·subst q; exact PySem.F.args_dict_pop_3 _ _ _
 refine call_meetsIn PySem.F.slot_dict_pop dd.typeIs PySem.F.entry_dict_pop ha (meets_dict_pop_there (aS X.prog X.w) a (eB ry) more hm hp)
  ⟨vs,w',dd,by rw[<- rel.length]; exact z,hw,fun h' dd' hs=>h w' _ ?_ rw'⟩
 have he:∃ q,h'.get? a=some q:=let ⟨q,_,_,hq,_⟩:=dd'; ⟨q,hq⟩
 exact fO I (by rw[e]; exact True.intro) hs he (iO (Nat.le_trans (dropK_le kvs k) z) hd (rel.drop k) dd')
theorem sD {r:Value} (I:Inv X pins σ H s) (e:H a=some (.dK kvs)) (ry:RelV (kV k) u) (l:ak kvs k=none) (h:∀ s',Inv X pins σ H s'->Q r s') :
  wpAny (model X.prog X.w) A (call (.builtin "dict.pop") [.ref a,u,r]) Q E s:=by
 obtain⟨z,hd,vs,rel,dd⟩:=kO I.hok e
 have hn:valueAt vs k=none:=RelO.none_of (by rw[<- l]; exact rel.val k)
 have hp:(keyPart u).isSome=true:=by
  cases k with
  | inl i=>obtain⟨t,q⟩:=(show ∃ t,u=Value.int i t from ry); subst q; rfl
  | inr x=>obtain⟨t,q⟩:=(show ∃ t,u=Value.str x t from ry); subst q; rfl
 exact call_meetsIn PySem.F.slot_dict_pop dd.typeIs PySem.F.entry_dict_pop (PySem.F.args_dict_pop_3 _ _ _) (meets_dict_pop_default (aS X.prog X.w) a (eB ry) hd hp r) ⟨vs,dd,hn,h _ (I.tok _)⟩
end
noncomputable def uh (i:Expr):Prop:=∀ ov iv,subscripted i false ov iv=operate [ov,iv] (getItem ov iv)
theorem oX {prog:Program}{A:Around}{E:Value->Shared->Prop}{s:Shared}{env:Env}{value slice:Expr}{pos:Pos}{T id:String}
  (hl:typeLookup (.type T) "__getitem__" = pure (some (.builtin id))) (hs:uh slice)
  (h:wpAny (model prog w) A (eval value env) (fun o s₁=>wpAny (model prog w) A (eval slice env) (fun i s₂=>s₂.TypeIs o T/\wpAny (model prog w) A (getItem o i) Q E s₂) E s₁) E s) :
  wpAny (model prog w) A (eval (.Subscript value slice pos) env) Q E s:=by
 refine Subscript_ (wpAny_mono h (fun o s₁ h₁=>wpAny_mono h₁ (fun i s₂ h₂=>?_) fun _ _ x=>x) fun _ _ x=>x)
 obtain⟨hT,h₂⟩:=h₂
 unfold subscriptTail
 refine wpAny_bind ?_
 rw[getitemInPython_of_ne hT.not_modules]
 refine wpAny_bind (wpAny_specialOf hT hl ?_)
 have fin:wpAny (model prog w) A (subscripted slice false o i) (fun r s₃=>wpAny (model prog w) A (letTemporaryGo value o r >>= fun _=>pure r) Q E s₃) E s₂:=by
  rw[hs o i]
  exact wpAny_operating (wpAny_mono h₂ (fun r s₃ h₃=>wpAny_bind (wpAny_letTemporaryGo (wpAny_pure h₃))) fun _ _ x=>x)
 first
  | exact wpAny_pure (wpAny_bind fin)
  | exact wpAny_bind (wpAny_pure (wpAny_bind fin))
  | exact wpAny_bind fin
theorem js {X:Cx}{pins:List (Addr×Obj)}{σ:St}{s:Shared}{a:Addr}{y:V}{o:Option V} (I:Inv X pins σ H s) (g:DGet H a y o):s.TypeIs (.ref a) "dict":=by
 rcases g with ⟨kvs,k,e,_,_⟩ | ⟨kvs,k,b,e,_,_,_⟩
 ·obtain⟨_,_,vs,_,dd⟩:=eO I.hok e
  exact dd.typeIs
 ·obtain⟨_,_,xs,_,dd⟩:=fB I.hok e
  exact dd.typeIs
inductive TD_ (x y:V) (H:Hp) (Q:VK):Prop
 | mk (a:Addr) (v:V) (h1:x=.ref a) (h2:DGet H a y (some v)) (q:Q v H):TD_ x y H Q
noncomputable def tDGet (td ty:TE):TE:=fun σ H Q=>td σ H fun x H1=>ty σ H1 fun y H2=>TD_ x y H2 Q
noncomputable def tDIn (ty td:TE):TE:=fun σ H Q=>ty σ H fun y H1=>td σ H1 fun x H2=>∃ a o,x=.ref a/\DGet H2 a y o/\Q (.bl o.isSome) H2
noncomputable def oW (ty td:TE):TE:=fun σ H Q=>ty σ H fun y H1=>td σ H1 fun x H2=>∃ a o,x=.ref a/\DGet H2 a y o/\Q (.bl (!o.isSome)) H2
noncomputable def sDPut (td ty tv:TE):TS:=fun D σ H=>tv σ H fun v H1=>td σ H1 fun x H2=>ty σ H2 fun y H3=>∃ a H4,x=.ref a/\DPut H3 a y v H4/\D.nx σ H4
noncomputable def sDDel (td ty:TE):TS:=fun D σ H=>td σ H fun x H1=>ty σ H1 fun y H2=>∃ a kvs k,x=.ref a/\H2 a=some (.dK kvs)/\y=kV k/\(ak kvs k).isSome=true/\D.nx σ (upd H2 a (.dK (ax kvs k)))
section
variable {X:Cx}{o i e value:Expr}{pos pos' tpos:Pos}{td ty tv:TE}
theorem db (hu:X.A.units+1<cLine) (ho:PE X o td) (hi:PE X i ty) (hs:uh i:=by exact fun _ _=>rfl):PE X (.Subscript o i pos) (tDGet td ty):=by
 intro pins s σ H Q I h
 refine oX PySem.F.slot_dict_getitem.lookup hs (thn (ho pins s σ H _ I h) fun u s1 ⟨x,H1,I1,rx,q1⟩=>thn (hi pins s1 σ H1 _ I1 q1) fun iv s2 ⟨y,H2,I2,ry,a,v,ex,g,q2⟩=>?_)
 subst ex
 obtain rfl:u=Value.ref a:=rx
 exact⟨js I2 g,lT hu I2 g ry fun w' s3 I3 rw'=>⟨v,H2,I3,rw',q2⟩⟩
theorem jL (hu:X.A.units+1<cLine) (hi:PE X i ty) (ho:PE X o td):PC X .In i o (tDIn ty td):=by
 intro pins s σ H Q I h
 refine thn (hi pins s σ H _ I h) fun iv s1 ⟨y,H1,I1,ry,q1⟩=>thn (ho pins s1 σ H1 _ I1 q1) fun u s2 ⟨x,H2,I2,rx,a,ov,ex,g,q2⟩=>?_
 subst ex
 obtain rfl:u=Value.ref a:=rx
 exact d_in hu I2 g ry fun s3 I3=>⟨.bl ov.isSome,H2,I3,U,q2⟩
theorem dD (hu:X.A.units+1<cLine) (hi:PE X i ty) (ho:PE X o td):PC X .NotIn i o (oW ty td):=by
 intro pins s σ H Q I h
 refine thn (hi pins s σ H _ I h) fun iv s1 ⟨y,H1,I1,ry,q1⟩=>thn (ho pins s1 σ H1 _ I1 q1) fun u s2 ⟨x,H2,I2,rx,a,ov,ex,g,q2⟩=>?_
 subst ex
 obtain rfl:u=Value.ref a:=rx
 exact pP hu I2 g ry fun s3 I3=>⟨.bl (!ov.isSome),H2,I3,U,q2⟩
theorem dA (hu:X.A.units+1<cLine) (ho:PE X o td) (hi:PE X i ty) (hv:PE X value tv) (hs:swapsWith value (some (.Subscript o i pos')) pos.line X.env=pure false) :
  PS X (.Assign [.Subscript o i pos'] value pos) (sDPut td ty tv):=by
 intro pins s σ H D I h
 refine wpAny_Assign_Subscript (thn (hv pins s σ H _ I h) fun r s1 ⟨v,H1,I1,rv,q1⟩=>thn (ho pins s1 σ H1 _ I1 q1) fun u s2 ⟨x,H2,I2,rx,q2⟩=>thn (hi pins s2 σ H2 _ I2 q2) fun iv s3 ⟨y,H3,I3,ry,a,H4,ex,g,q3⟩=>?_) hs
 subst ex
 obtain rfl:u=Value.ref a:=rx
 exact lS hu I3 g ry rv fun s4 I4=>⟨σ,H4,I4,q3⟩
theorem pj (ho:PE X o td) (hi:PE X i ty):PS X (.Delete [.Subscript o i tpos] pos) (sDDel td ty):=by
 intro pins s σ H D I h
 refine wpAny_Delete (wpAny_deleteEach_cons (wpAny_delete_Subscript (thn (ho pins s σ H _ I h) fun u s1 ⟨x,H1,I1,rx,q1⟩=>thn (hi pins s1 σ H1 _ I1 q1) fun iv s2 ⟨y,H2,I2,ry,a,kvs,k,ex,e,ey,l,q2⟩=>?_)))
 subst ex ey
 obtain rfl:u=Value.ref a:=rx
 exact lU I2 e ry l fun s3 I3=>wpAny_deleteEach_nil ⟨σ,_,I3,q2⟩
end
theorem ox (h:Heap) (hb:sysModules<h.objs.size):ObjOk P w H (h.push { cls:=.type "dict",data:=.dict #[] }) h.objs.size (.dK []) :=
 ⟨Nat.zero_le _,beq_eq_false_iff_ne.mpr (Ne.symm (Nat.ne_of_lt hb)),[],.nil,Heap.DictOf.new h⟩
theorem ou (h:Heap) (hb:sysModules<h.objs.size):ObjOk P w H (h.push { cls:=.type "dict",data:=.dict #[] }) h.objs.size (.dT []) :=
 ⟨Nat.zero_le _,beq_eq_false_iff_ne.mpr (Ne.symm (Nat.ne_of_lt hb)),[],.nil,_,#[],0,Heap.get?_push_size _ rfl,⟨U,U,U⟩,U,U,List.nodup_nil⟩
noncomputable def q0:TE:=fun _ H Q=>∀ p,H p=none->Q (.ref p) (upd H p (.dK []))
noncomputable def qZ:TE:=fun _ H Q=>∀ p,H p=none->Q (.ref p) (upd H p (.dT []))
section
variable {X:Cx}{pos:Pos}
theorem d7:PE X (.Dict [] [] pos) q0:=fun pins s σ H Q I h=>
 wpAny_Dict_empty ⟨.ref s.heap.objs.size,_,I.laid (a:=s.heap.objs.size) (o:=.dK []) (t':=s.toks) (fun _ _ q=>Heap.get?_push_of_some _ q) (Nat.le_refl _) (ox s.heap I.big),U,h _ (I.hok.fresh (Nat.le_refl _))⟩
theorem np:PE X (.Dict [] [] pos) qZ:=fun pins s σ H Q I h=>
 wpAny_Dict_empty ⟨.ref s.heap.objs.size,_,I.laid (a:=s.heap.objs.size) (o:=.dT []) (t':=s.toks) (fun _ _ q=>Heap.get?_push_of_some _ q) (Nat.le_refl _) (ou s.heap I.big),U,h _ (I.hok.fresh (Nat.le_refl _))⟩
end
noncomputable def mergeK (kvs more:List (Key×V)):List (Key×V):=more.foldl (fun acc kv=>aH acc kv.1 kv.2) kvs
structure M1 (X:Cx) (o:Expr) (m:Str) (apos:Pos) (e:Expr) (cpos:Pos):Prop where
 base:attributeBase o m X.env (eval o X.env)=eval o X.env
 few:((backTo cpos (starEach [e] X.env)).all (fun x=>!x.1) && (backToKw cpos (keywordEach [] X.env)).all (fun x=>x.1.isSome)
  && decide (([e]:List Expr).length+([]:List Keyword).length+(if ([]:List Keyword).isEmpty then 0 else 1)<30))=true
 line:(apos.endLine == cpos.line)=true
 trees:backTo cpos (starEach [e] X.env)=[(false,eval e X.env)]
structure M2 (X:Cx) (o:Expr) (m:Str) (apos:Pos) (e f:Expr) (cpos:Pos):Prop where
 base:attributeBase o m X.env (eval o X.env)=eval o X.env
 few:((backTo cpos (starEach [e,f] X.env)).all (fun x=>!x.1) && (backToKw cpos (keywordEach [] X.env)).all (fun x=>x.1.isSome)
  && decide (([e,f]:List Expr).length+([]:List Keyword).length+(if ([]:List Keyword).isEmpty then 0 else 1)<30))=true
 line:(apos.endLine == cpos.line)=true
 trees:backTo cpos (starEach [e,f] X.env)=[(false,eval e X.env),(false,eval f X.env)]
noncomputable def IsD (H:Hp) (a:Addr):Prop:=(∃ kvs,Rd H a (.dK kvs))∨∃ kvs,Rd H a (.dT kvs)
theorem nZ {X:Cx}{pins:List (Addr×Obj)}{σ:St}{s:Shared}{a:Addr} (I:Inv X pins σ H s) (d:IsD H a) :
  s.TypeIs (.ref a) "dict" /\ (∀ b,Value.ref a=.ref b->∃ ob,s.heap.get? b=some ob/\ob.dict=none)/\(a == sysModules)=false:=by
 rcases d with ⟨kvs,e⟩ | ⟨kvs,e⟩
 ·obtain⟨_,hd,vs,_,dd⟩:=eO I.hok e
  refine⟨dd.typeIs,fun b q=>?_,hd⟩
  cases q
  obtain⟨ob,_,_,h1,h2,_⟩:=dd
  exact⟨ob,h1,h2.2.1⟩
 ·obtain⟨_,hd,xs,_,dd⟩:=fB I.hok e
  refine⟨dd.typeIs,fun b q=>?_,hd⟩
  cases q
  obtain⟨ob,_,_,h1,h2,_⟩:=dd
  exact⟨ob,h1,h2.2.1⟩
section
variable {X:Cx}{pins:List (Addr×Obj)}{σ:St}{H:Hp}{s:Shared}{a:Addr}{y d:V}{u r:Value}{o:Option V}{A:Around}{E:Value->Shared->Prop}
theorem sE (hu:A.units+1<cLine) (I:Inv X pins σ H s) (g:DGet H a y o) (ry:RelV y u) (h:∀ w' s',Inv X pins σ H s'->RelV (o.getD .non) w'->Q w' s') :
  wpAny (model X.prog X.w) A (call (.builtin "dict.get") [.ref a,u]) Q E s:=by
 rcases g with ⟨kvs,k,e,ey,l⟩ | ⟨kvs,k,b,e,ey,eb,l⟩
 ·subst ey
  obtain⟨z,hd,vs,rel,dd⟩:=eO I.hok e
  refine call_meetsIn PySem.F.slot_dict_get dd.typeIs PySem.F.entry_dict_get (PySem.F.args_dict_get_2 _ _) (meets_dict_get (aS X.prog X.w) a (eB ry) hd) ⟨_,dd.mapOf,h _ _ (I.tok _) ?_⟩
  rw[l]
  exact(rel.val k).getD rfl
 ·subst ey
  cases (show u=Value.ref b from ry)
  obtain⟨z,hd,xs,rel,dd⟩:=fB I.hok e
  refine call_meetsIn PySem.F.slot_dict_get dd.typeIs PySem.F.entry_dict_get (PySem.F.args_dict_get_2 _ _) (meetsH_dict_get (tupleKind (aS X.prog X.w)) a b hd) ⟨tupleKind_room_in1 hu,k,xs,fg I.hok eb,dd,h _ _ (I.tok _) ?_⟩
  rw[l]
  exact(rel.val k).getD rfl
end
noncomputable def q5 (td ty:TE):TE:=fun σ H Q=>td σ H fun x H1=>∃ a,x=.ref a/\IsD H1 a/\ty σ H1 fun y H2=>∃ o,DGet H2 a y o/\Q (o.getD .non) H2
noncomputable def qY (td ty tx:TE):TE:=fun σ H Q=>td σ H fun x H1=>∃ a,x=.ref a/\IsD H1 a/\ty σ H1 fun y H2=>tx σ H2 fun z H3=>∃ kvs k,H3 a=some (.dK kvs)/\y=kV k /\
 (∀ v,ak kvs k=some v->Q v (upd H3 a (.dK (ax kvs k))))/\(ak kvs k=none->Q z H3)
section
variable {X:Cx}{o e f:Expr}{apos cpos:Pos}{td ty tx:TE}
theorem je (hu:X.A.units+1<cLine) (ho:PE X o td) (he:PE X e ty) (m:M1 X o "get" apos e cpos):PE X (.Call (.Attribute o "get" apos) [e] [] cpos) (q5 td ty):=by
 intro pins s σ H Q I h
 refine wpAny_Call_method m.base m.few m.line PySem.F.plainAttrs_dict PySem.F.slot_dict_get PySem.F.type_dict_get (thn (ho pins s σ H _ I h) fun u s1 ⟨x,H1,I1,rx,a,ex,d,q1⟩=>?_)
 subst ex
 obtain rfl:u=Value.ref a:=rx
 obtain⟨t1,t2,_⟩:=nZ I1 d
 refine⟨t1,t2,?_⟩
 rw[m.trees]
 refine Calls.callWith_builtin rfl (Calls.evalArgs_plain (Calls.spliced_cons (thn (he pins s1 σ H1 _ I1 q1) fun iv s2 ⟨y,H2,I2,ry,ov,g,q2⟩=>Calls.spliced_nil ?_)))
 exact sE hu I2 g ry fun w' s3 I3 rw'=>⟨_,H2,I3,rw',q2⟩
theorem jd (ho:PE X o td) (he:PE X e ty) (hf:PE X f tx) (m:M2 X o "pop" apos e f cpos):PE X (.Call (.Attribute o "pop" apos) [e,f] [] cpos) (qY td ty tx):=by
 intro pins s σ H Q I h
 refine wpAny_Call_method m.base m.few m.line PySem.F.plainAttrs_dict PySem.F.slot_dict_pop PySem.F.type_dict_pop (thn (ho pins s σ H _ I h) fun u s1 ⟨x,H1,I1,rx,a,ex,d,q1⟩=>?_)
 subst ex
 obtain rfl:u=Value.ref a:=rx
 obtain⟨t1,t2,_⟩:=nZ I1 d
 refine⟨t1,t2,?_⟩
 rw[m.trees]
 refine Calls.callWith_builtin rfl (Calls.evalArgs_plain (Calls.spliced_cons (thn (he pins s1 σ H1 _ I1 q1) fun iv s2 ⟨y,H2,I2,ry,q2⟩=>
  Calls.spliced_cons (thn (hf pins s2 σ H2 _ I2 q2) fun fv s3 ⟨z,H3,I3,rz,kvs,k,ea,ey,q3,q4⟩=>Calls.spliced_nil ?_))))
 subst ey
 cases l:ak kvs k with
 | some v=>exact d_pop I3 ea ry l (.inr ⟨fv,U⟩) fun w' s4 I4 rw'=>⟨v,_,I4,rw',q3 v l⟩
 | none=>exact sD I3 ea ry l fun s4 I4=>⟨z,H3,I4,rz,q4 l⟩
end
section
variable {X:Cx}{pins:List (Addr×Obj)}{σ:St}{H:Hp}{s:Shared}{a:Addr}{kvs:List (Key×V)}{A:Around}{E:Value->Shared->Prop}
theorem oE (I:Inv X pins σ H s) (e:Rd H a (.dK kvs)) (h:∀ p s',H p=none->Inv X pins σ (upd H p (.dK kvs)) s'->Q (.ref p) s'):wpAny (model X.prog X.w) A (call (.type "dict") [.ref a]) Q E s:=by
 obtain⟨z,hd,vs,rel,dd⟩:=eO I.hok e
 refine kt_call_dict hd dd (by rw[<- rel.length]; exact z) fun h' dd' hs=>?_
 refine h _ _ (I.hok.fresh (Nat.le_refl _)) (I.laid (a:=s.heap.objs.size) (o:=.dK kvs) (t':=s.toks) (fun b q hq=>?_) (Nat.le_refl _) (iO z (beq_eq_false_iff_ne.mpr (Ne.symm (Nat.ne_of_lt I.big))) rel dd'))
 exact(hs.2 b (Nat.ne_of_lt (Heap.lt_size hq))).trans (Heap.get?_push_of_some _ hq)
end
end L2
namespace HT
open PySem PyProof.Rows
noncomputable def lexLt:List Int->List Int->Bool
 | [],[]=>false
 | [],_::_=>true
 | _::_,[]=>false
 | x::xs,y::ys=>if x=y then lexLt xs ys else decide (x<y)
theorem lexLt_cons (x y:Int) (xs ys:List Int):lexLt (x::xs) (y::ys)=if x=y then lexLt xs ys else decide (x<y):=rfl
theorem gL:lexLt [] []=false:=rfl
theorem gg (y:Int) (ys:List Int):lexLt [] (y::ys)=true:=rfl
theorem gi (x:Int) (xs:List Int):lexLt (x::xs) []=false:=rfl
theorem jr (A:Around) (s:Shared) (a:Int) (t:Tok) (c:Int) (u:Tok):∃ e,SeqAt.EqAt A s (.int a t) (.int c u) e/\(e=true↔a=c) :=
 ⟨(a == c),SeqAt.EqAt.int_int a t c u,by simp⟩
theorem m8 (A:Around) (s:Shared) (a:Int) (t:Tok) (c:Int) (u:Tok) (prog:Program) (w:World) (E:Value->Shared->Prop) (Q:Value->Shared->Prop) (h:Q (.bool (decide (a<c))) s) :
  wpAny (model prog w) A (richCompare .Lt (.int a t) (.int c u)) Q E s :=
 (PyProof.Rows.lt_int h:wpAny (model prog w) A (compareOp .Lt (.int a t) (.int c u)) Q E s)
section
open PySem.SeqAt
open PySem.AutoSeq1 (wpAny_loadPart')
open PySem.MeetsSeq PySem.MeetsSeq2 PySem.MeetsSeq3
theorem gH (l b:Addr) (items items2:Array Value) (n n2:Nat) (dd dd2:Option Addr) (sl sl2:Array (Option Value)) (ns ms:List Int) (hi:IntsAre items.toList ns) (hj:IntsAre items2.toList ms) :
  Meets (Builtin.«tuple.__lt__» ⟨[.ref l,.ref b],[]⟩)
   (fun _ R s=>s.heap.get? l=some { cls:=.type "tuple",dict:=dd,data:=.seq items n,slots:=sl }/\s.heap.get? b=some { cls:=.type "tuple",dict:=dd2,data:=.seq items2 n2,slots:=sl2 } /\
    R (.ok (.ret (.bool (lexLt ns ms)))) s) :=
 .of_wp fun prog w A R s h=>by
  obtain⟨hp,g,d,tk,os⟩:=s; obtain⟨hl,hb,h⟩:=h
  have f2:=AutoSeq1.sub_tuple_tuple
  have z1:items.size=ns.length:=by rw[<- hi.length]; simp
  have z2:items2.size=ms.length:=by rw[<- hj.length]; simp
  wp_walk using wpAny_loadPart' hl,wpAny_loadPart' hb,wpAny_forIn_list _ (fun rest b s'=>b.1=none/\s'=⟨hp,g,d,tk,os⟩/\∃ (vs ws:List Value) (ns' ms':List Int),rest=vs.zip ws /\
   IntsAre vs ns'/\IntsAre ws ms'/\ns'.length+items2.size=ms'.length+items.size/\R (.ok (.ret (.bool (lexLt ns' ms')))) ⟨hp,g,d,tk,os⟩) _
  case turn=>
   rintro⟨y,x⟩ rest b s' ⟨hb',rfl,vs,ws,ns',ms',hz,hvi,hwi,hlen,hR⟩
   cases hvi with
   | nil=>rw[List.zip_nil_left] at hz; cases hz
   | cons a t hvi'=>
    cases hwi with
    | nil=>rw[List.zip_nil_right] at hz; cases hz
    | cons c u hwi'=>
     rw[List.zip_cons_cons] at hz
     injection hz with hyx hrest
     injection hyx with hy hx
     subst hy hx
     rw[lexLt_cons] at hR
     simp only[uv] at hlen
     obtain⟨e,he,hiff⟩:=jr A.in1 ⟨hp,g,d,tk,os⟩ a t c u
     refine wpAny_bind (he prog w _ _ ?_)
     cases e with
     | true=>
      rw[if_pos (hiff.mp rfl)] at hR
      wp_walk
      exact⟨rfl,rfl,_,_,_,_,hrest,hvi',hwi',by omega,hR⟩
     | false=>
      rw[if_neg (fun q=>absurd (hiff.mpr q) Bool.false_ne_true)] at hR
      have hri:=m8 A.in1 ⟨hp,g,d,tk,os⟩ a t c u prog w
      wp_walk using hri
      exact⟨_,rfl,by simpa using hR⟩
  case fin=>
   rintro⟨b1,b2⟩ s' ⟨hb',rfl,vs,ws,ns',ms',hz,hvi,hwi,hlen,hR⟩
   simp only at hb'
   subst hb'
   have hv:lexLt ns' ms'=decide (items.size<items2.size):=by
    cases hvi with
    | nil=>
     cases hwi with
     | nil=>
      simp only[List.length_nil] at hlen
      rw[gL]
      exact(decide_eq_false (by omega)).symm
     | cons c u hw=>
      simp only[List.length_nil,uv] at hlen
      rw[gg]
      exact(decide_eq_true (by omega)).symm
    | cons a t hv=>
     cases hwi with
     | nil=>
      simp only[List.length_nil,uv] at hlen
      rw[gi]
      exact(decide_eq_false (by omega)).symm
     | cons c u hw=>
      rw[List.zip_cons_cons] at hz
      cases hz
   rw[hv] at hR
   wp_walk
   exact⟨_,rfl,by simpa [Builtin.Tuple.tupleCompareSizes] using hR⟩
  case h=>
   exact⟨rfl,rfl,items.toList,items2.toList,ns,ms,rfl,hi,hj,by omega,h⟩
end
section
variable {prog:Program}{w:World}{A:Around}{E:Value->Shared->Prop}{s:Shared}
theorem lt_tupInts {l b:Addr}{items items2:Array Value}{ns ms:List Int}{Q:Value->Shared->Prop} (hl:IsTup s.heap l items) (hb:IsTup s.heap b items2) (hi:IntsAre items.toList ns) (hj:IntsAre items2.toList ms)
  (hu:A.units<cLine) (h:Q (.bool (lexLt ns ms)) s):wpAny (model prog w) A (compareOp .Lt (.ref l) (.ref b)) Q E s:=by
 obtain⟨⟨cls,dd,data,sl⟩,ho,hc,n,hd⟩:=id hl
 obtain⟨⟨cls2,dd2,data2,sl2⟩,ho2,hc2,n2,hd2⟩:=id hb
 simp only at hc hd hc2 hd2
 subst hc hd hc2 hd2
 exact richCompare_meets_room (op:=.Lt) ⟨_,ho,rfl⟩ ⟨_,ho2,rfl⟩ PySem.F.slot_tuple_lt PySem.F.entry_tuple_lt (PySem.F.args_tuple_lt_2 _ _) (gH l b items items2 n n2 dd dd2 sl sl2 ns ms hi hj)
  ⟨ho,ho2,show Value.bool (lexLt ns ms)≠Value.notImplemented/\Q (.bool (lexLt ns ms)) s from⟨(fun x=>nomatch x),h⟩⟩ hu
noncomputable def sIx (n d:Nat):Option Int->Nat
 | none=>d
 | some v=>if v<0 then(v+(n:Int)).toNat else min v.toNat n
end
end HT
namespace L2
open PySem PySem.Spec PyProof.Rows
noncomputable abbrev TO:=St->Hp->(Option Int->Hp->Prop)->Prop
noncomputable def PO (X:Cx) (e:Option Expr) (t:TO):Prop :=
 ∀ (pins:List (Addr×Obj)) (s:Shared) (σ:St) (H:Hp) (Q:Option Int->Hp->Prop),Inv X pins σ H s->t σ H Q ->
  wpAny (model X.prog X.w) X.A (evalPart e X.env) (fun u s'=>∃ o H',Inv X pins σ H' s'/\IsPart u o/\Q o H') X.xe s
noncomputable def oV:TO:=fun _ H Q=>Q none H
noncomputable def tPart (t:TE):TO:=fun σ H Q=>t σ H fun x H1=>∃ i,x=.int i/\Q (some i) H1
theorem dg {ns:List Int}:∀ {us:List Value},Vals (ns.map V.int) us->IntsAre us ns:=by
 induction ns with
 | nil=>intro us r; rw[List.map_nil] at r; cases r; exact .nil
 | cons n ns ih=>
  intro us r
  rw[uH] at r
  cases r with
  | cons r1 r2=>
   obtain⟨t,e⟩:=r1
   subst e
   exact .cons n t (ih r2)
section
variable {X:Cx}{e:Expr}{te:TE}{lo hi:Option Expr}{tl th:TO}{pos p2:Pos}
theorem d4:PO X none oV:=by
 intro pins s σ H Q I h
 rw[evalPart_none]
 exact wpAny_pure ⟨none,H,I,.none,h⟩
theorem d3 (h:PE X e te):PO X (some e) (tPart te):=by
 intro pins s σ H Q I hw
 rw[evalPart_some]
 refine thn (h pins s σ H _ I hw) fun u s1 ⟨x,H1,I1,r1,q1⟩=>?_
 obtain⟨i,rfl,q⟩:=q1
 obtain⟨t,rfl⟩:=r1
 exact⟨some i,H1,I1,.int i t,q⟩
noncomputable def SlR (X:Cx) (r:V->Option Int->Option Int->Hp->VK->Prop):Prop :=
 ∀ (pins:List (Addr×Obj)) (s:Shared) (σ:St) (H:Hp) (x:V) (v vl vu:Value) (lo hi:Option Int) (sl:Addr) (Q:VK),Inv X pins σ H s->RelV x v->s.heap.IsSliceOf sl vl vu .none->IsPart vl lo->IsPart vu hi->r x lo hi H Q ->
  ∃ T id,typeLookup (.type T) "__getitem__" = pure (some (.builtin id))/\s.TypeIs v T/\wpAny (model X.prog X.w) X.A (getItem v (.ref sl)) (EP X pins σ Q) X.xe s
noncomputable def tSl (r:V->Option Int->Option Int->Hp->VK->Prop) (te:TE) (tl th:TO):TE:=fun σ H Q=>te σ H fun x H1=>tl σ H1 fun l H2=>th σ H2 fun u H3=>r x l u H3 Q
theorem dm {r:V->Option Int->Option Int->Hp->VK->Prop} (hr:SlR X r) (he:PE X e te) (hl:PO X lo tl) (hu:PO X hi th):PE X (.Subscript e (.Slice lo hi none p2) pos) (tSl r te tl th):=by
 intro pins s σ H Q I h
 refine Subscript_ (thn (he pins s σ H _ I h) fun v s1 ⟨x,H1,I1,r1,q1⟩=>?_)
 refine wpAny_Slice (thn (hl pins s1 σ H1 _ I1 q1) fun vl s2 ⟨l,H2,I2,pl,q2⟩=>thn (hu pins s2 σ H2 _ I2 q2) fun vu s3 ⟨u,H3,I3,pu,q3⟩=>?_)
 rw[evalPart_none]
 refine wpAny_pure ?_
 have I4:Inv X pins σ H3 { s3 with heap:=s3.heap.push { cls:=.type "slice",data:=.fields #[vl,vu,.none] } }:=I3.kept (t':=s3.toks) fun b ob q=>Heap.get?_push_of_some _ q
 obtain⟨T,id,hT,ht,hg⟩:=hr pins { s3 with heap:=s3.heap.push { cls:=.type "slice",data:=.fields #[vl,vu,.none] } } σ H3 x v vl vu l u s3.heap.objs.size Q I4 r1 (Heap.IsSliceOf.new ..) pl pu q3
 show wpAny (model X.prog X.w) X.A (subscriptTail e (.Slice lo hi none p2) v (.ref s3.heap.objs.size)) (EP X pins σ Q) X.xe { s3 with heap:=s3.heap.push { cls:=.type "slice",data:=.fields #[vl,vu,.none] } }
 exact tail_any (ops:=[.ref s3.heap.objs.size,v]) ht hT hg (by with_unfolding_all rfl)
noncomputable def di (xs:List V) (lo hi:Option Int):List V:=(xs.drop (HT.sIx xs.length 0 lo)).take (HT.sIx xs.length xs.length hi - HT.sIx xs.length 0 lo)
theorem jw (xs:List V) (lo hi:Option Int):(di xs lo hi).length<=xs.length:=by
 unfold di
 rw[uI,List.length_drop]
 omega
noncomputable def rLtT (K:PySem.W.Frag):R2:=fun x y H Q=>∃ a b ns ms,x=.ref a/\y=.ref b/\SqT K H a (ns.map V.int)/\SqT K H b (ms.map V.int)/\Q (.bl (HT.lexLt ns ms)) H
theorem nu (hu:X.A.units<cLine):OpR X (compareOp .Lt) (rLtT X.K):=by
 intro pins s σ H x y v u Q I rx ry h
 obtain⟨a,b,ns,ms,rfl,rfl,ha,hb,q⟩:=h
 cases rx
 cases ry
 obtain⟨its,r1,p1,_⟩:=I.tuple ha
 obtain⟨its2,r2,p2,_⟩:=I.tuple hb
 have i1:IntsAre its.toArray.toList ns:=dg r1
 have i2:IntsAre its2.toArray.toList ms:=dg r2
 exact HT.lt_tupInts p1 p2 i1 i2 hu ⟨.bl (HT.lexLt ns ms),H,I,U,q⟩
end
noncomputable def ixN (n:Nat) (i:Int):Option Nat:=if 0<=i then(if i<n then some i.toNat else none) else if -(n:Int)<=i then some (i+n).toNat else none
noncomputable def atI {α:Type} (xs:List α) (i:Int):Option α:=(ixN xs.length i).bind fun j=>xs[j]?
theorem kJ {n:Nat}{i:Int}{j:Nat} (h:ixN n i=some j):seqIndex? i n=some j/\j<n/\-(n:Int)<=i/\i<n:=by
 unfold ixN at h
 by_cases h0:0<=i
 ·rw[if_pos h0] at h
  by_cases h1:i<n
  ·rw[if_pos h1] at h
   have e:i.toNat=j:=Option.some.inj h
   exact⟨by rw[seqIndex_of h0 h1,e],by omega,by omega,h1⟩
  ·rw[if_neg h1] at h; cases h
 ·rw[if_neg h0] at h
  by_cases h1:-(n:Int)<=i
  ·rw[if_pos h1] at h
   have e:(i+n).toNat=j:=Option.some.inj h
   exact⟨by rw[seqIndex_neg (by omega) h1,e],by omega,h1,by omega⟩
  ·rw[if_neg h1] at h; cases h
theorem iU {α:Type}{xs:List α}{i:Int}{v:α} (h:atI xs i=some v):∃ j,seqIndex? i xs.length=some j/\xs[j]?=some v/\j<xs.length/\-(xs.length:Int)<=i/\i<xs.length:=by
 unfold atI at h
 cases e:ixN xs.length i with
 | none=>rw[e] at h; cases h
 | some j=>
  rw[e] at h
  obtain⟨h1,h2,h3,h4⟩:=kJ e
  exact⟨j,h1,h,h2,h3,h4⟩
theorem aL {α:Type}{xs:List α}{j:Nat}{v:α} (h:xs[j]?=some v):atI xs (j:Int)=some v:=by
 have hj:j<xs.length:=(List.getElem?_eq_some_iff.mp h).1
 have e:ixN xs.length (j:Int)=some j:=by
  unfold ixN
  rw[if_pos (by omega),if_pos (by omega)]; simp
 unfold atI; rw[e]; exact h
noncomputable def p6 (b:Expr):Prop:=∀ o i,subscripted b false o i=operate [o,i] (getItem o i)
noncomputable def IxR (X:Cx) (r:R2):Prop :=
 ∀ (value slice:Expr) (pins:List (Addr×Obj)) (s:Shared) (σ:St) (H:Hp) (x y:V) (v u:Value) (Q:VK),Inv X pins σ H s->RelV x v->RelV y u->r x y H Q ->
  subscripted slice false v u=operate [v,u] (getItem v u)->wpAny (model X.prog X.w) X.A (subscriptTail value slice v u) (EP X pins σ Q) X.xe s
noncomputable def MtR (X:Cx) (id:String) (r:V->List V->Hp->VK->Prop):Prop :=
 ∀ (pins:List (Addr×Obj)) (s:Shared) (σ:St) (H:Hp) (x:V) (xs:List V) (v:Value) (us:List Value) (Q:VK),Inv X pins σ H s->RelV x v->Vals xs us->r x xs H Q ->
  wpAny (model X.prog X.w) X.A (call (.builtin id) (v::us)) (EP X pins σ Q) X.xe s
section
variable {X:Cx}{a b:Expr}{ta tb:TE}{pos:Pos}
theorem aF {r:R2} (hr:IxR X r) (ha:PE X a ta) (hb:PE X b tb) (hs:p6 b:=by exact fun _ _=>rfl):PE X (.Subscript a b pos) (tOp r ta tb):=by
 intro pins s σ H Q I h
 exact Subscript_ (sF ha hb I h fun v u s2 x y H2 I2 rx ry q=>hr a b pins s2 σ H2 x y v u Q I2 rx ry q (hs _ _))
inductive RL_ (K:PySem.W.Frag) (x y:V) (H:Hp) (Q:VK):Prop
 | mk (p:Addr) (xs:List V) (i:Int) (v:V) (h1:x=.ref p) (h2:y=.int i) (h3:SqL K H p xs) (h4:atI xs i=some v) (q:Q v H):RL_ K x y H Q
noncomputable def tW (K:PySem.W.Frag):R2:=fun x y H Q=>RL_ K x y H Q
inductive RT_ (K:PySem.W.Frag) (x y:V) (H:Hp) (Q:VK):Prop
 | mk (p:Addr) (xs:List V) (i:Int) (v:V) (h1:x=.ref p) (h2:y=.int i) (h3:SqT K H p xs) (h4:atI xs i=some v) (q:Q v H):RT_ K x y H Q
noncomputable def rIxT (K:PySem.W.Frag):R2:=fun x y H Q=>RT_ K x y H Q
noncomputable def rIxS:R2:=fun x y H Q=>∃ z i c,x=.str z/\y=.int i/\z.length<=sizeLine/\atI z.cps.toList i=some c/\Q (.str ⟨#[c]⟩) H
theorem ar:IxR X (tW X.K):=by
 intro value slice pins s σ H x y v u Q I rx ry h hs
 obtain⟨p,xs,i,z,rfl,rfl,hq,he,q⟩:=h
 cases rx
 obtain⟨t,rfl⟩:=ry
 obtain⟨its,r,pl,hz⟩:=I.list hq
 obtain⟨j,h1,h2,h3,h4,h5⟩:=iU he
 obtain⟨w,ew,rw'⟩:=r.get h2
 have hl:=r.length
 have hn:=e8
 have fin:EP X pins σ Q w s:=⟨z,H,I,rw',q⟩
 by_cases h0:0<=i
 ·have hj:i.toNat=j:=by
   rw[seqIndex_of h0 h5] at h1
   exact Option.some.inj h1
  exact item_listR pl.isList h0 (by omega) (by rw[hj]; simpa using ew) fin hs
 ·have hj:(i+(its.toArray.size:Int)).toNat=j:=by
   rw[seqIndex_neg (by omega) h4] at h1
   rw[uE,<- hl]
   exact Option.some.inj h1
  exact subscriptTail_builtinR (x:=w) pl.isList.typeIs slot_list_getitem.lookup
   (wpAny_getItem_list_neg (Q:=fun r s'=>r=w/\EP X pins σ Q r s') pl.isList (by omega) (by rw[uE] <;> omega) (by omega) (by rw[hj]; simpa using ew) ⟨U,fin⟩) hs
theorem cS:IxR X (rIxT X.K):=by
 intro value slice pins s σ H x y v u Q I rx ry h hs
 obtain⟨p,xs,i,z,rfl,rfl,hq,he,q⟩:=h
 cases rx
 obtain⟨t,rfl⟩:=ry
 obtain⟨its,r,pl,hz⟩:=I.tuple hq
 obtain⟨j,h1,h2,h3,h4,h5⟩:=iU he
 obtain⟨w,ew,rw'⟩:=r.get h2
 have hl:=r.length
 have hn:=e8
 have fin:EP X pins σ Q w s:=⟨z,H,I,rw',q⟩
 exact subscriptTail_builtinR (x:=w) pl.typeIs slot_tuple_getitem.lookup
  (getItem_tuple (j:=j) (Q:=fun r s'=>r=w/\EP X pins σ Q r s') pl (by omega) (by omega) (by rw[uE,<- hl]; exact h1) (by simpa using ew) ⟨U,fin⟩) hs
theorem su:IxR X rIxS:=by
 intro value slice pins s σ H x y v u Q I rx ry h hs
 obtain⟨z,i,c,rfl,rfl,hz,he,q⟩:=h
 obtain⟨t,rfl⟩:=rx
 obtain⟨t',rfl⟩:=ry
 obtain⟨j,h1,h2,h3,h4,h5⟩:=iU he
 have hl:z.cps.toList.length=z.length:=by simp[Str.length]
 rw[hl] at h1 h4 h5
 have hn:=e8
 exact tail_any (typeIs_str s z t) slot_str_getitem.lookup (getItem_str (c:=c) (by
  have e1:decide (i < -(2 ^ 63:Int))=false:=decide_eq_false (by omega)
  have e2:decide (i ≥ 2 ^ 63)=false:=decide_eq_false (by omega)
  rw[e1,e2,Bool.or_false]) (by rw[h1]; simpa using h2) ⟨.str ⟨#[c]⟩,H,I.tok _,⟨_,U⟩,q⟩) hs
theorem jQ (its:List Value) (n j:Nat) (u:Value):Obj.mapSeq (·.setIfInBounds j u) { cls:=.type "list",data:=.seq its.toArray n }={ cls:=.type "list",data:=.seq (its.set j u).toArray n }:=by
 simp[Obj.mapSeq]
theorem Inv.lst {pins:List (Addr×Obj)}{σ:St}{H:Hp}{s:Shared}{p:Addr}{xs:List V} (I:Inv X pins σ H s) (h:H p=some (.lst xs)) :
  ∃ (its:List Value) (n:Nat),Vals xs its/\s.heap.get? p=some { cls:=.type "list",data:=.seq its.toArray n }/\xs.length<=sizeLine:=by
 obtain⟨z,its,n,r,e⟩:=I.hok p _ h
 exact⟨its,n,r,e,z⟩
theorem Inv.lstUpd {pins:List (Addr×Obj)}{σ:St}{H:Hp}{s:Shared}{p:Addr}{xs ys:List V}{its its':List Value}{n n':Nat}{f:Obj->Obj} (I:Inv X pins σ H s) (h:H p=some (.lst xs))
  (ho:s.heap.get? p=some { cls:=.type "list",data:=.seq its.toArray n }) (hf:f { cls:=.type "list",data:=.seq its.toArray n }={ cls:=.type "list",data:=.seq its'.toArray n' }) (r:Vals ys its') (hz:ys.length<=sizeLine) (t:Nat) :
  Inv X pins σ (upd H p (.lst ys)) { s with heap:=s.heap.update p f,toks:=t }:=by
 have e:(s.heap.update p f).get? p=some { cls:=.type "list",data:=.seq its'.toArray n' }:=by
  rw[Heap.get?_update_self f ho (by rw[hf] <;> rfl),hf]
 refine I.write (x:=p) (e:=p) (by rw[h]; trivial) (.inl rfl) (fun b u hb q=>(Heap.get?_update_other _ _ (Ne.symm hb)).trans q) ⟨_,e⟩ ?_
 exact⟨hz,its',n',r,e⟩
noncomputable def rSetL:V->V->V->Hp->(Hp->Prop)->Prop:=fun o i v H Q=>∃ p xs k j,o=.ref p/\i=.int k/\H p=some (.lst xs)/\ixN xs.length k=some j/\Q (upd H p (.lst (xs.set j v)))
theorem cE:ug X rSetL:=by
 intro pins s σ H o i v ov iv u Q I ro ri rv h
 obtain⟨p,xs,k,j,rfl,rfl,hp,hj,q⟩:=h
 cases ro
 obtain⟨t,rfl⟩:=ri
 obtain⟨its,n,r,ho,hz⟩:=I.lst hp
 obtain⟨h1,h2,h3,h4⟩:=kJ hj
 have hl:=r.length
 have hn:=e8
 have I':Inv X pins σ (upd H p (.lst (xs.set j v))) { s with heap:=s.heap.update p (Obj.mapSeq (·.setIfInBounds j u)) } :=
  I.lstUpd hp ho (jQ its n j u) (r.set rv j) (by rw[List.length_set]; exact hz) s.toks
 by_cases h0:0<=k
 ·have hk:k.toNat=j:=by
   rw[seqIndex_of h0 h4] at h1
   exact Option.some.inj h1
  exact PySem.W.ki_setAt ho h0 (by omega) (by rw[uE,<- hl]; exact h4) (by rw[hk]; exact⟨_,I',q⟩)
 ·have hk:(k+(its.toArray.size:Int)).toNat=j:=by
   rw[seqIndex_neg (by omega) h3] at h1
   rw[uE,<- hl]
   exact Option.some.inj h1
  exact PySem.W.ki_setBack ho (by omega) (by rw[uE,<- hl]; exact h3) (by omega) (by rw[hk]; exact⟨_,I',q⟩)
theorem io (lo hi:Option Int) (n:Nat):(sliceBounds lo hi none n).1=((HT.sIx n 0 lo:Nat):Int)/\(sliceBounds lo hi none n).2.1=((HT.sIx n n hi:Nat):Int)/\(sliceBounds lo hi none n).2.2=1:=by
 refine⟨?_,?_,U⟩
 ·cases lo with
  | none=>simp[sliceBounds,HT.sIx]
  | some i=>
   simp only[sliceBounds,HT.sIx,Option.getD_none,show(1:Int) > 0 by decide,if_true]
   by_cases h:i<0
   ·simp only[h,if_true] <;> omega
   ·simp only[h,if_false] <;> omega
 ·cases hi with
  | none=>simp[sliceBounds,HT.sIx]
  | some i=>
   simp only[sliceBounds,HT.sIx,Option.getD_none,show(1:Int) > 0 by decide,if_true]
   by_cases h:i<0
   ·simp only[h,if_true] <;> omega
   ·simp only[h,if_false] <;> omega
theorem gJ (its:List Value) (lo hi:Option Int):slicePick its.toArray lo hi none=((its.drop (HT.sIx its.length 0 lo)).take (HT.sIx its.length its.length hi - HT.sIx its.length 0 lo)).toArray:=by
 obtain⟨h1,h2,h3⟩:=io lo hi its.toArray.size
 unfold slicePick
 rw[h1,h2,h3]
 simp only[sliceRange_one,pick_run,uE] <;> rfl
noncomputable def rSlL (K:PySem.W.Frag):V->Option Int->Option Int->Hp->VK->Prop:=fun x lo hi H Q=>∃ a xs,x=.ref a/\SqL K H a xs/\∀ p,H p=none->Q (.ref p) (upd H p (.lst (di xs lo hi)))
theorem dX:SlR X (rSlL X.K):=by
 intro pins s σ H x v vl vu lo hi sl Q I rx hs pl pu h
 obtain⟨a,xs,rfl,hx,q⟩:=h
 cases rx
 obtain⟨its,r,ht,hz⟩:=I.list hx
 have hlen:=r.length
 refine⟨"list",_,slot_list_getitem.lookup,ht.isList.typeIs,?_⟩
 refine wpAny_getItem_list_slice ht.isList hs pl pu .none (by simp) ?_ (by rw[uE] <;> omega)
 rw[gJ,<- hlen]
 refine⟨.ref s.heap.objs.size,_,I.laid (t':=s.toks) (o:=.lst (di xs lo hi)) (fun b ob q=>Heap.get?_push_of_some _ q) (Nat.le_refl _) ?_,U,q _ (I.hok.fresh (Nat.le_refl _))⟩
 exact⟨Nat.le_trans (jw xs lo hi) hz,_,0,(r.drop (HT.sIx xs.length 0 lo)).take (HT.sIx xs.length xs.length hi - HT.sIx xs.length 0 lo),Heap.get?_push_size _ rfl⟩
noncomputable def fu:V->Bool
 | .non=>true
 | .bl _=>true
 | .int _=>true
 | .str _=>true
 | _=>false
noncomputable def eqV:V->V->Bool
 | .non,.non=>true
 | .bl a,.bl b=>a == b
 | .bl a,.int b=>(if a then 1 else 0) == b
 | .int a,.bl b=>a == (if b then 1 else 0)
 | .int a,.int b=>a == b
 | .str a,.str b=>a == b
 | _,_=>false
theorem sC {A:Around}{s:Shared}{y x:V}{u v:Value} (ry:RelV y u) (rx:RelV x v) (fy:fu y=true) (fx:fu x=true):SeqAt.EqAt A s u v (eqV y x):=by
 cases y with
 | non=>
  cases ry
  cases x with
  | non=>cases rx; exact SeqAt.EqAt.same _
  | bl b=>cases rx; exact SeqAt.EqAt.none_bool b
  | int b=>obtain⟨t,rfl⟩:=rx; exact SeqAt.EqAt.none_int b t
  | str b=>obtain⟨t,rfl⟩:=rx; exact SeqAt.EqAt.none_str b t
  | _=>exact absurd (show false=true from fx) Bool.false_ne_true
 | bl a=>
  cases ry
  cases x with
  | non=>cases rx; exact SeqAt.EqAt.bool_none a
  | bl b=>cases rx; exact SeqAt.EqAt.bool_bool a b
  | int b=>obtain⟨t,rfl⟩:=rx; exact SeqAt.EqAt.bool_int a b t
  | str b=>obtain⟨t,rfl⟩:=rx; exact SeqAt.EqAt.bool_str a b t
  | _=>exact absurd (show false=true from fx) Bool.false_ne_true
 | int a=>
  obtain⟨t',rfl⟩:=ry
  cases x with
  | non=>cases rx; exact SeqAt.EqAt.int_none a t'
  | bl b=>cases rx; exact SeqAt.EqAt.int_bool a t' b
  | int b=>obtain⟨t,rfl⟩:=rx; exact SeqAt.EqAt.int_int a t' b t
  | str b=>obtain⟨t,rfl⟩:=rx; exact SeqAt.EqAt.int_str a t' b t
  | _=>exact absurd (show false=true from fx) Bool.false_ne_true
 | str a=>
  obtain⟨t',rfl⟩:=ry
  cases x with
  | non=>cases rx; exact SeqAt.EqAt.str_none a t'
  | bl b=>cases rx; exact SeqAt.EqAt.str_bool a t' b
  | int b=>obtain⟨t,rfl⟩:=rx; exact SeqAt.EqAt.str_int a t' b t
  | str b=>obtain⟨t,rfl⟩:=rx; exact SeqAt.EqAt.str_str a t' b t
  | _=>exact absurd (show false=true from fx) Bool.false_ne_true
 | _=>exact absurd (show false=true from fy) Bool.false_ne_true
noncomputable def eqU (x:V) (u:Value):Bool:=match u with
 | .none=>eqV .non x
 | .bool b=>eqV (.bl b) x
 | .int i _=>eqV (.int i) x
 | .str z _=>eqV (.str z) x
 | _=>false
theorem ot {x y:V}{u:Value} (r:RelV y u) (f:fu y=true):eqU x u=eqV y x:=by
 cases y with
 | non=>cases r; rfl
 | bl b=>cases r; rfl
 | int i=>obtain⟨t,rfl⟩:=r; rfl
 | str z=>obtain⟨t,rfl⟩:=r; rfl
 | _=>exact absurd (show false=true from f) Bool.false_ne_true
theorem iV {x:V}:∀ {xs:List V}{us:List Value},Vals xs us->xs.all fu=true->us.any (eqU x)=xs.any fun y=>eqV y x
 | _,_,.nil,_=>rfl
 | y::xs,u::us,.cons r t,f=>by
  rw[List.all_cons,Bool.and_eq_true] at f
  rw[List.any_cons,List.any_cons,ot r f.1,iV t f.2]
theorem ge {A:Around}{s:Shared}{x:V}{v:Value} (rx:RelV x v) (fx:fu x=true):∀ {xs:List V}{us:List Value},Vals xs us->xs.all fu=true->∀ u ∈ us,SeqAt.EqAt A s u v (eqU x u)
 | _,_,.nil,_=>fun u hu=>by cases hu
 | y::xs,u::us,.cons r t,f=>fun u' hu=>by
  rw[List.all_cons,Bool.and_eq_true] at f
  rcases uz.mp hu with rfl | hu
  ·rw[ot r f.1]; exact sC r rx f.1 fx
  ·exact ge rx fx t f.2 u' hu
noncomputable def inV (x:V) (xs:List V):Bool:=xs.any fun y=>eqV y x
noncomputable def rIn (K:PySem.W.Frag) (neg:Bool):R2:=fun x y H Q=>∃ p xs,y=.ref p/\(SqL K H p xs∨SqT K H p xs)/\fu x=true/\xs.all fu=true/\Q (.bl (if neg then !inV x xs else inV x xs)) H
theorem gY:OpR X (compareOp .In) (rIn X.K false):=by
 intro pins s σ H x y v u Q I rx ry h
 obtain⟨p,xs,rfl,hq,fx,fs,q⟩:=h
 cases ry
 rcases hq with hq | hq
 ·obtain⟨its,r,pl,hz⟩:=I.list hq
  refine SeqAt.in_listAt (eqU x) pl.isList (fun w hw=>ge rx fx r fs w (by simpa using hw)) ⟨.bl _,H,I,U,?_⟩
  rw[show its.toArray.any (eqU x)=its.any (eqU x) by simp,iV r fs]
  exact q
 ·obtain⟨its,r,pl,hz⟩:=I.tuple hq
  refine SeqAt.in_tupleAt (eqU x) pl (fun w hw=>ge rx fx r fs w (by simpa using hw)) ⟨.bl _,H,I,U,?_⟩
  rw[show its.toArray.any (eqU x)=its.any (eqU x) by simp,iV r fs]
  exact q
theorem iw:OpR X (compareOp .NotIn) (fun x y H Q=>∃ i j,x=.str i/\y=.str j/\Q (.bl (!(!(Builtin.Str.occurrences j i 0 j.length 1).isEmpty))) H):=by
 intro pins s σ H x y v u Q I rx ry h
 obtain⟨i,j,rfl,rfl,q⟩:=h
 obtain⟨t,rfl⟩:=rx
 obtain⟨t',rfl⟩:=ry
 exact notIn_str ⟨.bl _,H,I,U,q⟩
theorem ay:cy X (.builtin "len") (fun xs H Q=>∃ p ys,xs=[.ref p]/\(SqL X.K H p ys∨SqT X.K H p ys)/\Q (.int ys.length) H):=by
 intro pins s σ H xs us Q I r h
 obtain⟨p,ys,rfl,hq,q⟩:=h
 obtain⟨u,rfl,rx⟩:=cL r
 cases rx
 have hn:=e8
 rcases hq with hq | hq
 ·obtain⟨its,r',pl,hz⟩:=I.list hq
  have hlen:=r'.length
  exact Calls.call_len_list pl.isList (by simp only[uE] <;> omega) ⟨.int ys.length,H,I.tok _,⟨s.toks+1,by rw[uE,hlen]⟩,q⟩
 ·obtain⟨its,r',pl,hz⟩:=I.tuple hq
  have hlen:=r'.length
  exact len_tuple pl (by simp only[uE] <;> omega) ⟨.int ys.length,H,I.tok _,⟨s.toks+1,by rw[uE,hlen]⟩,q⟩
theorem bI:cy X (.type "list") (fun xs H Q=>∃ p ys,xs=[.ref p]/\(SqL X.K H p ys∨SqT X.K H p ys)/\∀ l,H l=none->Q (.ref l) (upd H l (.lst ys))):=by
 intro pins s σ H xs us Q I r h
 obtain⟨p,ys,rfl,hq,q⟩:=h
 obtain⟨u,rfl,rx⟩:=cL r
 cases rx
 have fin:∀ (its:List Value),Vals ys its->ys.length<=sizeLine->∀ (h':Heap) (c':Nat),(∀ b o',s.heap.get? b=some o'->h'.get? b=some o') ->
   h'.get? s.heap.objs.size=some { cls:=.type "list",dict:=none,data:=.seq its.toArray c',slots:=#[] }->EP X pins σ Q (.ref s.heap.objs.size) { s with heap:=h' }:=fun its r' hz h' c' kp e=>
  ⟨.ref s.heap.objs.size,_,I.laid (t':=s.toks) kp (Nat.le_refl _) (show ObjOk X.prog X.w _ h' _ (.lst ys) from⟨hz,its,c',r',e⟩),U,q _ (I.hok.fresh (Nat.le_refl _))⟩
 rcases hq with hq | hq
 ·obtain⟨its,r',pl,hz⟩:=I.list hq
  have hlen:=r'.length
  obtain⟨o,ho,hc,n,hd⟩:=pl.isList
  exact call_list_seq p (.inl rfl) ho hc hd (fun h' c' kp e=>fin its r' hz h' c' kp e) (by simp only[uE] <;> omega)
 ·obtain⟨its,r',pl,hz⟩:=I.tuple hq
  have hlen:=r'.length
  obtain⟨o,ho,hc,n,hd⟩:=pl
  exact call_list_seq p (.inr rfl) ho hc hd (fun h' c' kp e=>fin its r' hz h' c' kp e) (by simp only[uE] <;> omega)
noncomputable def tyV (K:PySem.W.Frag) (T:String) (x:V) (H:Hp):Prop:=match x with
 | .str _=>T = "str"
 | .int _=>T = "int"
 | .ref p=>(T = "list" /\ ∃ xs,SqL K H p xs)∨(T = "tuple" /\ ∃ o,K.lookup p=some o/\o.cls=.type "tuple" /\ o.dict=none) ∨
   (T = "dict" /\ ((∃ kvs,H p=some (.dK kvs))∨∃ kvs,H p=some (.dT kvs)))∨(T = "set" /\ ∃ S n,H p=some (.set S n))
 | _=>False
theorem qS {pins:List (Addr×Obj)}{σ:St}{H:Hp}{s:Shared}{T:String}{x:V}{v:Value} (I:Inv X pins σ H s) (r:RelV x v) (ty:tyV X.K T x H) :
  s.TypeIs v T/\∀ a,v=.ref a->∃ ob,s.heap.get? a=some ob/\ob.dict=none:=by
 cases x with
 | str z=>
  obtain⟨t,rfl⟩:=r
  cases (show T = "str" from ty)
  exact⟨typeIs_str s z t,fun _ e=>nomatch e⟩
 | int i=>
  obtain⟨t,rfl⟩:=r
  cases (show T = "int" from ty)
  exact⟨typeIs_int s i t,fun _ e=>nomatch e⟩
 | ref p=>
  cases r
  rcases ty with ⟨rfl,xs,hq⟩ | ⟨rfl,o,hk,hc,hd⟩ | ⟨rfl,hk⟩ | ⟨rfl,S,n,hk⟩
  ·obtain⟨its,_,pl,_⟩:=I.list hq
   refine⟨pl.isList.typeIs,fun a e=>?_⟩
   cases e
   obtain⟨o,n,e,c,hd,_⟩:=pl
   exact⟨o,e,hd⟩
  ·refine⟨⟨o,I.kIn p o hk,hc⟩,fun a e=>?_⟩
   cases e
   exact⟨o,I.kIn _ o hk,hd⟩
  ·have z:∃ o,s.heap.get? p=some o/\o.ExactDict:=by
    rcases hk with ⟨kvs,hk⟩ | ⟨kvs,hk⟩
    ·obtain⟨_,_,_,_,o,_,_,e,ex,_⟩:=I.hok p _ hk
     exact⟨o,e,ex⟩
    ·obtain⟨_,_,_,_,o,_,_,e,ex,_⟩:=I.hok p _ hk
     exact⟨o,e,ex⟩
   obtain⟨o,e,ex⟩:=z
   refine⟨⟨o,e,ex.1⟩,fun a e2=>?_⟩
   cases e2
   exact⟨o,e,ex.2.1⟩
  ·obtain⟨o,_,_,_,e,ex,_⟩:=I.hok p _ hk
   refine⟨⟨o,e,ex.1⟩,fun a e2=>?_⟩
   cases e2
   exact⟨o,e,ex.2.1⟩
 | _=>exact False.elim ty
noncomputable def tBM (K:PySem.W.Frag) (T:String) (r:V->List V->Hp->VK->Prop) (to:TE) (t:TA):TE:=fun σ H Q=>to σ H fun x H1=>tyV K T x H1/\t σ H1 fun xs H2=>r x xs H2 Q
variable {o e:Expr}{es:List Expr}{to:TE}{t:TA}{name:Str}{apos cpos:Pos}{T id:String}{r:V->List V->Hp->VK->Prop}
theorem bV (pa:PlainAttrs T) (slot:Slot T name id) (hty:typeOf (.builtin id)=pure (.type "method_descriptor")) (hm:MtR X id r) (ho:PE X o to) (ha:PA X (e::es) t)
  (hbase:attributeBase o name X.env (eval o X.env)=eval o X.env:=by rfl)
  (hfew:((backTo cpos (starEach (e::es) X.env)).all (fun x=>!x.1) && (backToKw cpos (keywordEach [] X.env)).all (fun x=>x.1.isSome)
   && decide ((e::es).length+([]:List Keyword).length+(if ([]:List Keyword).isEmpty then 0 else 1)<30))=true:=by rfl)
  (hline:(apos.endLine == cpos.line)=true:=by rfl) (hs:starEach (e::es) X.env=(false,eval e X.env)::starEach es X.env:=by rfl) (hplain:(backTo cpos (starEach es X.env)).any (·.1)=false:=by rfl) :
  PE X (.Call (.Attribute o name apos) (e::es) [] cpos) (tBM X.K T r to t):=by
 intro pins s σ H Q I h
 refine wpAny_Call_method_late hbase hfew hline rfl (thn (ho pins s σ H _ I h) fun v s1 ⟨x,H1,I1,r1,ty,q1⟩=>?_)
 obtain⟨h1,h2⟩:=qS I1 r1 ty
 refine⟨T,id,pa,slot,hty,h1,h2,?_⟩
 have hA:=ha cpos pins s1 σ H1 _ I1 q1
 rw[hs] at hA ⊢
 refine Calls.callWith_builtin (by show (false || (backTo cpos (starEach es X.env)).any (·.1)) = false; rw [hplain] <;> rfl) (Calls.evalArgs_plain ?_)
 exact thn hA fun us s2 ⟨vs,H2,I2,r2,q2⟩=>hm pins s2 σ H2 x vs v us Q I2 r1 r2 q2
/- xs.append(e),list.index on a module's tuple .. are MtR facts of 06m -/
end
end L2
namespace L2
open PySem PySem.Spec PyProof.Rows
noncomputable def MtM (X:Cx) (id:String) (r:V->List V->Hp->VK->Prop):Prop :=
 ∀ (pins:List (Addr×Obj)) (s:Shared) (σ:St) (H:Hp) (x:V) (xs:List V) (v:Value) (us:List Value) (Q:VK),Inv X pins σ H s->RelV x v->Vals xs us->r x xs H Q ->
  wpAny (model X.prog X.w) X.A (call (.builtin id) (v::us)) (EP X pins σ Q) X.xe s
theorem Vals.one {x:V}{us:List Value} (h:Vals [x] us):∃ u,us=[u]/\RelV x u:=by
 cases h with
 | cons r s=>cases s; exact⟨_,U,r⟩
section
variable {X:Cx}{pins:List (Addr×Obj)}{σ:St}{H:Hp}{s:Shared}{l b:Addr}{xs ys zs:List V}
theorem Inv.lset {its its':List Value}{n:Nat}{f:Array Value->Array Value}{t':Nat} (I:Inv X pins σ H s) (hH:H l=some (.lst xs))
  (e:s.heap.get? l=some { cls:=.type "list",data:=.seq its.toArray n }) (hf:f its.toArray=its'.toArray) (hv:Vals ys its') (hz:ys.length<=sizeLine) :
  Inv X pins σ (upd H l (.lst ys)) { s with heap:=s.heap.update l (Obj.mapSeq f),toks:=t' }:=by
 have q:=PySem.IsL.update e f
 rw[hf] at q
 refine I.write (x:=l) (e:=l) (by rw[hH]; exact trivial) (.inl rfl) (fun b' u hb hu=>(Heap.get?_update_other s.heap (Obj.mapSeq f) (Ne.symm hb)).trans hu) ⟨_,q⟩ ?_
 exact⟨hz,its',_,hv,q⟩
theorem Inv.lstM (I:Inv X pins σ H s) (hH:H l=some (.lst xs)):xs.length<=sizeLine/\∃ (its:List Value) (n:Nat),Vals xs its/\xs.length=its.length/\s.heap.get? l=some { cls:=.type "list",data:=.seq its.toArray n }:=by
 obtain⟨z,its,n,r,e⟩:=I.hok l _ hH
 exact⟨z,its,n,r,r.length,e⟩
theorem nN {n:Nat} (h:n<=sizeLine):Builtin.List.listTooLong n=false:=by
 unfold Builtin.List.listTooLong
 exact decide_eq_false (by omega)
end
section
variable {X:Cx}
noncomputable def pe:V->List V->Hp->VK->Prop:=fun x vs H Q=>∃ l xs y,x=.ref l/\vs=[y]/\H l=some (.lst xs)/\xs.length<sizeLine/\Q .non (upd H l (.lst (xs++[y])))
theorem aZ:MtM X "list.append" pe:=by
 intro pins s σ H x vs v us Q I rx rv h
 obtain⟨l,xs,y,rfl,rfl,hH,hz,q⟩:=h
 cases rx
 obtain⟨u,rfl,ru⟩:=rv.one
 obtain⟨z,its,n,r,hl,e⟩:=I.lstM hH
 refine call_meets F.slot_list_append ⟨_,e,U⟩ F.entry_list_append (F.args_list_append_2 _ _) (PySem.list_append l its.toArray n u (by rw[uE]; omega)) ⟨e,?_⟩
 refine⟨.non,_,I.lset (its':=its++[u]) hH e (by simp) (r.append (.cons ru .nil)) ?_,U,q⟩
 rw[uq,uB]
 omega
noncomputable def pd:V->List V->Hp->VK->Prop:=fun x vs H Q=>∃ l b xs zs,x=.ref l/\vs=[.ref b]/\H l=some (.lst xs)/\H b=some (.lst zs)/\xs.length+zs.length<=sizeLine/\Q .non (upd H l (.lst (xs++zs)))
theorem lv:MtM X "list.extend" pd:=by
 intro pins s σ H x vs v us Q I rx rv h
 obtain⟨l,b,xs,zs,rfl,rfl,hH,hB,hz,q⟩:=h
 cases rx
 obtain⟨u,rfl,ru⟩:=rv.one
 cases ru
 obtain⟨z,its,n,r,hl,e⟩:=I.lstM hH
 obtain⟨z2,its2,n2,r2,hl2,e2⟩:=I.lstM hB
 have hsz:its.toArray.size+its2.toArray.size<=sizeLine:=by rw[uE,uE]; omega
 have hlong:¬ (!its.toArray.isEmpty && Builtin.List.listTooLong (its.toArray.size+its2.toArray.size))=true:=by
  rw[nN hsz,Bool.and_false]
  exact Bool.false_ne_true
 refine call_meets F.slot_list_extend ⟨_,e,U⟩ F.entry_list_extend (F.args_list_extend_2 _ _)
  (AutoSeq1.list_extend_list_list_0 l its.toArray n b its2.toArray n2 hlong (by rw[uE]; omega) (by omega)) ⟨e,e2,?_⟩
 refine⟨.non,_,I.lset (its':=its++its2) hH e (by simp) (r.append r2) ?_,U,q⟩
 rw[uq]
 omega
end
end L2
namespace Att
open PySem PySem.W PySem.Calls PyProof.Rows
theorem fF {P:Params}{h:Heap}:∀ (ns:List Int) (vs:List Value),WellAll P h vs (ns.map WData.int)->IntsAre vs ns:=by
 intro ns
 induction ns with
 | nil=>
  intro vs w
  rw[List.map_nil] at w
  cases w
  exact .nil
 | cons n ns ih=>
  intro vs w
  rw[uH] at w
  cases w with
  | cons a b=>
   cases a
   exact .cons _ _ (ih _ b)
theorem lf {l : OpenLaw}{n : Nat} (hn : l.most=some n) {P : Params}{h : Heap}{args : List WData}{vals : List Value}
    (hpre : l.row.toRowW.claim.pre args=true) (hwl : WellAll P h vals args) :
    ∃ a vs ns, vals=[Value.ref a]/\args=[WData.list (ns.map WData.int)]/\h.get? a=some { cls := .type "list", data := .seq vs.toArray }/\IntsAre vs ns/\ns.length<=n := by
  have hsh : WShape.hasAll [] args [.list .int]=true := (pre_splitW hpre).1
  have hc : l.pre.holds [] { args := args }=true := (pre_splitW hpre).2
  obtain⟨d, r, rfl, h1, h2⟩ := hasAllW_cons hsh
  obtain rfl := hasAllW_nil h2
  obtain⟨xs, rfl, h3⟩ := hasW_list h1
  obtain⟨ns, rfl⟩ := items_int h3
  have hlen : ns.length<=n := by
    unfold OpenLaw.pre at hc
    have h4 : (WTm.not (.lt (.lit (.int (n : Int))) (.len (.arg 0)))).holds [] { args := [.list (ns.map .int)] }=true := by
      have h4 := (holds_andW hc).1
      rw[hn] at h4
      exact h4
    have h5 := condW_of h4 (w_not (w_lt w_lit (w_len_list (w_arg rfl))))
    rw[um] at h5
    refine Nat.le_of_not_lt fun q=>?_
    have q' : (n : Int)<((ns.length : Nat) : Int) := by omega
    first
      | (rw [decide_eq_true q'] at h5; exact absurd h5 (by decide))
      | (simp at h5; omega)
  cases hwl with
  | cons w1 w2=>
    cases w2
    cases w1 with
    | list ho hall=>exact⟨_, _, ns, rfl, rfl, ho, fF ns _ hall, hlen⟩
theorem lg (l:OpenLaw) (args:List WData):l.row.toRowW.claim.post args (.bool true) args=true :=
 postW_of (r:=l.row.toRowW) (X:=(true == true))
  (show WShape.has [] (.bool true) .bool=true by first | rfl | decide | simp[WShape.has,WShape.arms,WShape.armsAll])
  (show(WTm.eq .res (.lit (.bool true))).value [] { args:=args,res:=some (.bool true),after:=args }=some (.bool (true == true)) from w_eq_bool (w_res rfl) w_lit) rfl
theorem attach_call {l:OpenLaw}{n:Nat}{q:Program}{loose:List Str}{XP:(Str->Option Value)->Heap->Prop}{YP:World->Heap->Prop}{d:DefRec}
  (hn:l.most=some n) (hdf:d.params.defaults=[])
  (call:∀ (w:World) (s₀ s₁:Shared) (mg mb:Str->Option Value) (fa:Addr) (o:Obj) (pm cd doc:Value) (a:Addr) (vs:List Value) (ns:List Int),
   Ground q loose [] XP w s₀ mg mb s₁.heap->YP w s₁.heap ->
   s₁.heap.get? fa=some o->o.data=.func (docDef d.name d.params d.body d.scope pm cd doc)->s₁.heap.CodeRec cd d.name->mg d.name=some (.ref fa) ->
   s₁.heap.get? a=some { cls:=.type "list",data:=.seq vs.toArray }->IntsAre vs ns->ns.length<=n->s₁.gens = #[] ->
   codeAny (model l.prog w) callerA (.call (.ref fa) ⟨[.ref a],[]⟩) (fun r s'=>r=.ok (.ret (.bool true))/\OldK s₁.heap s'.heap/\s'.os=s₁.os/\AllBare s'.gens) s₁) :
  WalkO q loose XP YP l.row.toRowW d [] (fun f vs=>PySem.call f vs):=by
 intro w s₀ s₁ mg mb G Y fa o pm cd doc dV kV ho hd hcd hD hmg hg args vals as hpre hlay hrd hwl hlo
 obtain rfl:dV=.none:=Dflts.none hD hdf
 obtain rfl:kV=.none:=Dflts.noKw hD
 obtain⟨a,vs,ns,rfl,rfl,hobj,hints,hlen⟩:=lf hn hpre hwl
 refine enter_call (codeAny_mono (call w s₀ s₁ mg mb fa o pm cd doc a vs ns G Y ho (fd_plain hd) hcd hmg hobj hints hlen hg) fun r s' hq=>?_)
 obtain⟨rfl,h2,h3,h4⟩:=hq
 exact⟨.inl ⟨.bool true,.bool true,[],rfl,fun _=>rfl,.bool true,lg l _,fun _=>⟨List.Pairwise.nil,fun _ hm=>(nomatch hm)⟩⟩,h2,h3,h4⟩
section
variable {prog:Program}{w:World}{A:Around}{E:Value->Shared->Prop}{s:Shared}{K:Frag}
noncomputable def ledger (h:Heap) (L d:Addr):List (Addr×Obj):=(List.range h.objs.size).filterMap fun a=>if a=L∨a=d then none else(h.get? a).map fun o=>(a,o)
end
end Att
namespace L2
open PySem PySem.Spec PyProof.Rows
theorem gP:∀ {vs:List Value}{ns:List Int},IntsAre vs ns->Vals (ns.map V.int) vs
 | _,_,.nil=>.nil
 | _,_,.cons n t h=>.cons ⟨t,U⟩ (gP h)
noncomputable def p7 (H:Hp):Prop:=∀ b,H b=none∨∃ o xs,H b=some (.frz o (.lst xs))
theorem nV {P:Program}{w:World}{K:PySem.W.Frag}{mg mb:Str->Option Value}{CX:CXT}{k:Nat}{fa a:Addr}{fd:FuncData}{x:Str}{sp:Sp}{s₁:Shared}{vs:List Value}{ns:List Int}
  (KX:K.In s₁.heap) (hns:s₁.heap.Ns mainGlobals mg) (hb:s₁.heap.Ns builtinsNs mb) (hbb:∀ x:Str,x ≠ "__name__" -> mb x=bootBuiltins x) (hlim:s₁.heap.NoLimit) (hg:s₁.gens = #[])
  (ha:s₁.heap.get? a=some { cls:=.type "list",data:=.seq vs.toArray }) (hi:IntsAre vs ns) (hl:ns.length<=sizeLine) (hr:Room k callerA)
  (F:∀ base:Heap,K.In base->base.Ns mainGlobals mg->FnOk P w K mg base CX k fa fd [x] sp) (hbind:∀ (s:Shared) (u:Value),BindsTo s fd ⟨[u],[]⟩ [(x,u)])
  (hsp:∀ H:Hp,p7 H->SqL K H a (ns.map V.int)->sp [.ref a] H (fun v _=>v=.bl true) fun _ _ _=>False)
  (hCX:∀ H e s',CX [] H s₁ (fun _ _ _=>False) e s'->False) :
  codeAny (model P w) callerA (.call (.ref fa) ⟨[.ref a],[]⟩) (fun r s'=>r=.ok (.ret (.bool true))/\OldK s₁.heap s'.heap/\s'.os=s₁.os/\AllBare s'.gens) s₁:=by
 have rv:=gP hi
 have lenV:=hi.length
 have core:∀ H:Hp,p7 H->SqL K H a (ns.map V.int)->HOk P w H s₁.heap->(∀ b,H b≠none->b=a)->(H a≠none->K.lookup a=none) ->
   codeAny (model P w) callerA (.call (.ref fa) ⟨[.ref a],[]⟩) (fun r s'=>r=.ok (.ret (.bool true))/\OldK s₁.heap s'.heap/\s'.os=s₁.os/\AllBare s'.gens) s₁:=by
  intro H hO hS hok hA hK
  have base_of:∀ {b:Addr}{o:Obj},s₁.heap.get? b=some o->H b=none->(iG s₁.heap H).get? b=some o:=fun e n=>oh e n
  have noA:∀ {b:Addr}{o:Obj}{es:Array DictEntry}{ep:Nat},s₁.heap.get? b=some o->o.data=.dict es ep->H b=none:=fun {b o es ep} e d=>by
   cases q:H b with
   | none=>rfl
   | some u=>
    have e':b=a:=hA b (by rw[q]; simp)
    subst e'
    rw[ha] at e; cases e
    have d':Data.seq vs.toArray _=Data.dict es ep:=d
    cases d'
  have nsK:∀ {b:Addr}{m:Str->Option Value},s₁.heap.Ns b m->(iG s₁.heap H).Ns b m:=fun {b m} ⟨o,es,ep,e,d,r⟩=>⟨o,es,ep,base_of e (noA e d),d,r⟩
  have hKb:K.In (iG s₁.heap H):=fun b o e=>base_of (KX b o e) (by
   cases q:H b with
   | none=>rfl
   | some u=>
    have e':b=a:=hA b (by rw[q]; simp)
    subst e'
    rw[hK (by rw[q]; simp)] at e; cases e)
  have hM:Mod K mg (iG s₁.heap H):=⟨hKb,nsK hns,⟨mb,nsK hb,hbb⟩,let ⟨mc,h1,h2⟩:=hlim; ⟨mc,nsK h1,h2⟩⟩
  have e0:Env0 P w K mg (iG s₁.heap H) callerA [] s₁ H:=⟨U,hM,fun b o e=>pC e,Nat.le_of_eq (lO _ _),trivial,fun b hb=>absurd (show b ∈ ([]:List Addr) from hb) (by simp),hok,.of_eq hg⟩
  refine codeAny_mono ((F _ hKb (nsK hns)).run callerA [] s₁ H ⟨[.ref a],[]⟩ [.ref a] [.ref a] _ _ hr e0 (hbind s₁ (.ref a)) (.cons rfl .nil) (hsp H hO hS)) fun r s' h=>?_
  cases r with
  | error e=>exact(hCX H e s' h).elim
  | ok fl=>
   cases fl with
   | next=>exact False.elim h
   | brk=>exact False.elim h
   | cont=>exact False.elim h
   | ret u=>
    obtain⟨v,H',os,bare,un,hok',r',q⟩:=h
    have q':v=.bl true:=q
    subst q'
    obtain rfl:u=Value.bool true:=r'
    refine⟨U,OldK.of_keep fun b o e=>?_,os,bare⟩
    cases q:H b with
    | none=>exact un.keep b o e q (by intro z; exact absurd (show b ∈ ([]:List Addr) from z) (by simp)) (by simp)
    | some u=>
     rcases hO b with z | ⟨ob,xs,z⟩
     ·rw[q] at z; cases z
     ·have z2:=un.frzs b ob _ z
      obtain⟨e1,_⟩:=hok b _ z
      obtain⟨e2,_⟩:=hok' b _ z2
      rw[e] at e1; cases e1
      exact e2
 cases hk:K.lookup a with
 | some o=>
  have e:=KX a o hk
  rw[ha] at e
  cases e
  refine core (fun _=>none) (fun _=>.inl rfl) (.inr ⟨_,vs.toArray,_,hk,U,U,U,by rw[uE,lenV]; exact hl,by simpa using rv⟩) (fun b u z=>by have z':(none:Option HO)=some u:=z; cases z') (fun b z=>absurd rfl z) fun z=>absurd rfl z
 | none=>
  refine core (fun b=>if b=a then some (.frz { cls:=.type "list",data:=.seq vs.toArray } (.lst (ns.map V.int))) else none) (fun b=>?_) (.inl (.inr ⟨{ cls:=.type "list",data:=.seq vs.toArray },if_pos rfl⟩)) (fun b u z=>?_) (fun b z=>?_) fun _=>hk
  ·by_cases hb:b=a
   ·exact .inr ⟨_,_,if_pos hb⟩
   ·exact .inl (if_neg hb)
  ·by_cases hb:b=a
   ·have z':=(if_pos hb).symm.trans z
    cases z'
    subst hb
    exact⟨ha,by rw[um]; exact hl,vs,_,rv,ha⟩
   ·have z':=(if_neg hb).symm.trans z
    cases z'
  ·by_cases hb:b=a
   ·exact hb
   ·exact absurd (if_neg hb) z
noncomputable abbrev KOf {K:PySem.W.Frag}{h:Heap} (_:K.In h):PySem.W.Frag:=K
variable{XP:(Str->Option Value)->Heap->Prop}
theorem oT {l:PySem.W.OpenLaw}{n k:Nat}{q:Program}{loose:List Str}{YP:World->Heap->Prop}{d:DefRec}{K:Params->PySem.W.Frag}{CX:World->CXT}{sp:World->Sp}{x:Str}
  (hn:l.most=some n) (hn2:n<=sizeLine) (hdf:d.params.defaults=[]) (hr:Room k callerA)
  (hY:∀ (w:World) (h:Heap),YP w h->(K w.params).In h)
  (F:∀ (w:World) (mg:Str->Option Value) (fa:Addr) (h:Heap),(K w.params).In h->h.Ns mainGlobals mg->mg d.name=some (.ref fa) ->
   ∃ fd:FuncData,(∀ (s:Shared) (u:Value),BindsTo s fd ⟨[u],[]⟩ [(x,u)]) /\
    ∀ base:Heap,(K w.params).In base->base.Ns mainGlobals mg->FnOk l.prog w (K w.params) mg base (CX w) k fa fd [x] (sp w))
  (hsp:∀ (w:World) (H:Hp) (a:Addr) (ns:List Int),ns.length<=n->p7 H->SqL (K w.params) H a (ns.map V.int)->sp w [.ref a] H (fun v _=>v=.bl true) fun _ _ _=>False)
  (hCX:∀ (w:World) (H:Hp) (s:Shared) (e:Value) (s':Shared),CX w [] H s (fun _ _ _=>False) e s'->False) :
  PySem.W.WalkO q loose XP YP l.row.toRowW d [] (fun f vs=>PySem.call f vs):=by
 refine Att.attach_call hn hdf fun w s₀ s₁ mg mb fa o pm cd doc a vs ns G Y ho hd hcd hmg hobj hints hlen hg=>?_
 have KX:=hY w _ Y
 obtain⟨fd,hb,hF⟩:=F w mg fa _ KX G.T.g hmg
 exact nV KX G.T.g G.T.b G.T.builtins G.T.nolimit hg hobj hints (Nat.le_trans hlen hn2) hr hF hb (fun H hO hS=>hsp w H a ns hlen hO hS) fun H e s'=>hCX w H s₁ e s'
theorem walk_ofK {l:PySem.W.OpenLaw}{n k:Nat}{q:Program}{loose:List Str}{YP:World->Heap->Prop}{d:DefRec}{K:Params->PySem.W.Frag}{CX:CXT}{sp:PySem.W.Frag->Sp}{x:Str}
  (hn:l.most=some n) (hn2:n<=sizeLine) (hdf:d.params.defaults=[]) (hr:Room k callerA)
  (hY:∀ (w:World) (h:Heap),YP w h->(K w.params).In h)
  (F:∀ (w:World) (mg:Str->Option Value) (fa:Addr) (h:Heap),(K w.params).In h->h.Ns mainGlobals mg->mg d.name=some (.ref fa) ->
   ∃ fd:FuncData,(∀ (s:Shared) (u:Value),BindsTo s fd ⟨[u],[]⟩ [(x,u)]) /\
    ∀ base:Heap,(K w.params).In base->base.Ns mainGlobals mg->FnOk l.prog w (K w.params) mg base CX k fa fd [x] (sp (K w.params)))
  (hsp:∀ (K:PySem.W.Frag) (H:Hp) (a:Addr) (ns:List Int),ns.length<=n->p7 H->SqL K H a (ns.map V.int)->sp K [.ref a] H (fun v _=>v=.bl true) fun _ _ _=>False)
  (hCX:∀ (H:Hp) (s:Shared) (e:Value) (s':Shared),CX [] H s (fun _ _ _=>False) e s'->False) :
  PySem.W.WalkO q loose XP YP l.row.toRowW d [] (fun f vs=>PySem.call f vs) :=
 oT (K:=K) (CX:=fun _=>CX) (sp:=fun w=>sp (K w.params)) hn hn2 hdf hr hY F (fun w H a ns h1 h2 h3=>hsp (K w.params) H a ns h1 h2 h3) fun _ H s e s'=>hCX H s e s'
noncomputable def aO (s:Stmt) (j:Nat):Stmt:=match s with
 | .ClassDef _ _ _ body _ _ _ _ _ _ _=>body.getD j (.Pass ⟨0,0,0,0⟩)
 | _=>.Pass ⟨0,0,0,0⟩
noncomputable def cA (s:Stmt):Arguments:=match s with
 | .FunctionDef _ a _ _ _ _ _ _ _ _=>a
 | _=>{ posonlyargs:=[],args:=[],vararg:=none,kwonlyargs:=[],kw_defaults:=[],kwarg:=none,defaults:=[] }
noncomputable def cu (s:Stmt):List Stmt:=match s with
 | .FunctionDef _ _ b _ _ _ _ _ _ _=>b
 | _=>[]
noncomputable def ah (s:Stmt):Scope:=match s with
 | .FunctionDef _ _ _ _ _ _ sc _ _ _=>sc
 | _=>{ kind:=.function,names:=[],isGenerator:=false,isCoroutine:=false }
noncomputable abbrev CX0:CXT:=fun _ _ _ _ _ _=>False
noncomputable abbrev E0:XK:=fun _ _ _=>False
theorem ap {X:Cx}:dj CX0 X E0:=fun _ _ _ _ _ _ _ h=>h.elim
theorem pcl {X:Cx}{k n:Nat}{f:Addr}{fd:FuncData}{ps:List Str}{sp:Sp}{x:Str}{p pos:Pos}{e:Expr}{es:List Expr}{t:TA} (F:FnOk X.prog X.w X.K X.mg X.base CX0 k f fd ps sp) (hr:Room n X.A) (hm:X.mg x=some (.ref f)) (hk:PySem.W.keepIn X.K (.ref f)=true) (hb:Binds X.K fd ps []) (ha:PA X (e::es) t) (hg:Gl X x:=by rfl) (hj:k<=n:=by decide) (hdb:(x==("__debug__":Str))=false:=by decide) (he:starEach (e::es) X.env=(false,eval e X.env)::starEach es X.env:=by rfl) (hpl:(backTo pos (starEach es X.env)).any (·.1)=false:=by rfl):PE X (.Call (.Name x p) (e::es) [] pos) (qc sp [] E0 t):=py F (hr.mono hj) hg hm hk hb .nil ap ha hdb he hpl
structure Fun (K:PySem.W.Frag) (x qual:Str) (st:Stmt) (f:Addr) (fd:FuncData):Prop where
 ex:∃ (oc:Value) (od:Option Addr) (kV doc pm:Value) (an:Option Addr) (cdv ct:Value) (osl:Array (Option Value)),
  fd=W.fnOf x qual (cA st) (cu st) (ah st) .none kV doc pm an cdv ct/\K.lookup f=some ⟨oc,od,.func fd,osl⟩/\W.codeIn K cdv qual=true
 kp:W.keepIn K (.ref f)=true
theorem cV {A:Around}{k:Nat} (hr:Room k A):A.units+1<cLine:=Nat.lt_of_le_of_lt (Nat.add_le_add_left (by decide:1<=64) _) hr.units
section
variable {X:Cx}
theorem pv (i:Nat) {x:Str}{pos:Pos} (hN:X.N[i]?=some x:=by rfl) (hv:Vis X.env.scope x:=by first | exact Or.inl rfl | exact Or.inr (Or.inl rfl) | exact Or.inr (Or.inr rfl)) (hd:(x == ("__debug__" : Str))=false:=by decide)
  (hcd:(x == ("__classdict__" : Str))=false:=by decide):PE X (.Name x pos) (oU i):=rK hN hv hd hcd
end
theorem bA {A B:Prop} (h:B):if false=true then A else B:=by
 rw[if_neg Bool.false_ne_true]
 exact h
theorem df {A B:Prop} (h:A):if true=true then A else B:=by
 rw[if_pos rfl]
 exact h
theorem jo {c A B:Prop} [Decidable c] (h1:c->A) (h2:¬ c->B):if c then A else B:=by
 by_cases h:c
 ·rw[if_pos h]
  exact h1 h
 ·rw[if_neg h]
  exact h2 h
noncomputable def Same (H H':Hp):Prop:=∀ b o,H b=some o->H' b=some o
theorem Same.trans {H H1 H2:Hp} (a:Same H H1) (b:Same H1 H2):Same H H2:=fun c o h=>b c o (a c o h)
theorem Same.seq {K:PySem.W.Frag}{H H':Hp}{a:Addr}{xs:List V} (e:Same H H') (h:SqL K H a xs):SqL K H' a xs:=by
 rcases h with (h | ⟨o,h⟩) | h
 ·exact .inl (.inl (e _ _ h))
 ·exact .inl (.inr ⟨o,e _ _ h⟩)
 ·exact .inr h
section
variable {κ:Type} [DecidableEq κ]
theorem cW {p:κ×V}{r:List (κ×V)}{k:κ} (e:p.1=k):ax (p::r) k=ax r k:=by
 unfold ax
 rw[List.filter_cons,if_neg (by simp[e])]
theorem cC {p:κ×V}{r:List (κ×V)}{k:κ} (e:¬ p.1=k):ax (p::r) k=p::ax r k:=by
 unfold ax
 rw[List.filter_cons,if_pos (by simp[e])]
end
noncomputable abbrev Kn:=List (Addr×HO)
structure Has (H:Hp) (L:Kn):Prop where
 nd:(L.map (·.1)).Nodup
 at_:∀ x ∈ L,H x.1=some x.2
namespace Has
variable {H H':Hp}{L L' X Y R:Kn}{a p:Addr}{o o':HO}{x y:Addr×HO}
theorem nil:Has H []:=⟨List.nodup_nil,fun _ h=>nomatch h⟩
theorem get (h:Has H L) (i:Nat) (e:L[i]?=some (a,o)):H a=some o:=h.at_ (a,o) (ut e)
theorem alloc (h:Has H L) (hp:H p=none) (o:HO):Has (upd H p o) ((p,o)::L):=by
 have ne:∀ x ∈ L,x.1≠p:=fun x hx e=>by
  have:=h.at_ x hx
  rw[e,hp] at this; cases this
 refine⟨?_,fun x hx=>?_⟩
 ·rw[uH,List.nodup_cons]
  refine⟨fun m=>?_,h.nd⟩
  obtain⟨x,hx,e⟩:=uK.mp m
  exact ne x hx e
 ·rcases uz.mp hx with rfl | hx
  ·exact cD
  ·rw[aM (ne x hx)]; exact h.at_ x hx
theorem sub (h:Has H L) (s:L'.Sublist L):Has H L':=⟨h.nd.sublist (s.map _),fun x hx=>h.at_ x (s.subset hx)⟩
theorem perm (h:Has H L) (s:L.Perm L'):Has H L':=⟨(s.map _).nodup_iff.mp h.nd,fun x hx=>h.at_ x (s.mem_iff.mpr hx)⟩
theorem tail (h:Has H (x::L)):Has H L:=h.sub (List.sublist_cons_self _ _)
theorem swap2 (h:Has H (x::y::L)):Has H (y::x::L):=h.perm (List.Perm.swap _ _ _)
theorem comm (h:Has H (X++(Y++R))):Has H (Y++(X++R)):=h.perm (by rw[<- uJ,<- uJ]; exact List.perm_append_comm.append_right R)
theorem fj:∀ (L:Kn) (i:Nat),L[i]?=some (a,o)->(L.set i (a,o')).map (·.1)=L.map (·.1)
 | [],i,e=>by simp at e
 | x::L,0,e=>by simp at e; subst e; rfl
 | x::L,i+1,e=>by
  simp only[List.set_cons_succ,uH]
  rw[fj L i (by simpa using e)]
theorem puti (h:Has H L) (i:Nat) (e:L[i]?=some (a,o)) (o':HO):Has (upd H a o') (L.set i (a,o')):=by
 have hi:i<L.length:=(List.getElem?_eq_some_iff.mp e).1
 refine⟨by rw[fj (o':=o') L i e]; exact h.nd,fun x hx=>?_⟩
 obtain⟨j,hj⟩:=List.getElem?_of_mem hx
 by_cases hij:j=i
 ·subst hij
  rw[List.getElem?_set_self hi] at hj
  cases hj
  exact cD
 ·rw[List.getElem?_set_ne (Ne.symm hij)] at hj
  have hx':x ∈ L:=ut hj
  have:x.1≠a:=fun z=>by
   have e1:(L.map (·.1))[i]?=some a:=by rw[ur,e]; rfl
   have e2:(L.map (·.1))[j]?=some a:=by rw[ur,hj,<- z]; rfl
   obtain⟨l1,q1⟩:=List.getElem?_eq_some_iff.mp e1
   obtain⟨l2,q2⟩:=List.getElem?_eq_some_iff.mp e2
   exact hij ((List.getElem_inj h.nd).mp (q2.trans q1.symm))
  rw[aM this]
  exact h.at_ x hx'
end Has
section
variable {X:Cx}
theorem eS:cy X (.builtin "isinstance") (fun xs H Q=>∃ x T t b,xs=[x,.ty T]/\TyOf X.K H x t/\PySem.W.kitOne X.K t (.type T)=some b/\Q (.bl b) H):=by
 intro pins s σ H xs us Q I r h
 obtain⟨x,T,t,b,rfl,ty,e,q⟩:=h
 obtain⟨u1,u2,rfl,r1,r2⟩:=j5 r
 cases (show u2=Value.type T from r2)
 exact lH I r1 ty e fun tk=>⟨.bl b,H,I.tok _,U,q⟩
end
theorem SqL.alloc {K:PySem.W.Frag}{H:Hp}{a p:Addr}{xs:List V}{o:HO} (h:SqL K H a xs) (hp:H p=none):SqL K (upd H p o) a xs :=
 Same.seq (fun b u e=>by rw[aM (bn e hp)]; exact e) h
theorem eQ (xs:List V) (n:Int) (h0:0<=n):di xs none (some n)=xs.take n.toNat:=by
 show((xs.drop 0).take ((if n<0 then(n+(xs.length:Int)).toNat else min n.toNat xs.length) - 0))=_
 rw[if_neg (by omega),List.drop_zero,Nat.sub_zero]
 by_cases hl:n.toNat<=xs.length
 ·rw[Nat.min_eq_left hl]
 ·rw[Nat.min_eq_right (by omega),List.take_of_length_le (Nat.le_refl _),List.take_of_length_le (by omega)]
theorem sizeOk {n:Nat} (h:n<=1000000):n<sizeLine:=Nat.lt_of_le_of_lt h (by decide)
end L2
namespace L2
theorem ifF {b:Bool}{A B:Prop} (e:b=false) (h:B):if b=true then A else B:=by subst e; exact bA h
theorem ifT {b:Bool}{A B:Prop} (e:b=true) (h:A):if b=true then A else B:=by subst e; exact df h
theorem if2 {b:Bool}{A B:Prop} (h1:b=true->A) (h2:b=false->B):if b=true then A else B:=by
 cases b
 ·exact bA (h2 rfl)
 ·exact df (h1 rfl)
theorem ifd {c:Prop} [Decidable c] {A B:Prop} (h1:c->A) (h2:¬ c->B):if decide c=true then A else B:=by
 by_cases h:c
 ·exact ifT (decide_eq_true h) (h1 h)
 ·exact ifF (decide_eq_false h) (h2 h)
theorem tZ {c:Prop} [Decidable c] {A B:Prop} (h1:¬ c->A) (h2:c->B):if (!decide c)=true then A else B:=by
 by_cases h:c
 ·exact ifF (by simp[h]) (h2 h)
 ·exact ifT (by simp[h]) (h1 h)
end L2
set_option Elab.async false
set_option linter.all false
set_option maxRecDepth 100000
namespace L2
open PySem PySem.Spec PyProof.Rows
noncomputable def dw (cells : List (Str×Addr)) : List (Str×NameKind)->List (Str×Addr)->List (Str×Addr)
  | [], acc=>acc
  | (n, k) :: r, acc => if k == .free then dw cells r ((n, (cells.lookup n).getD 0) :: acc) else dw cells r acc
theorem gu (scope : Scope) (env : Env) (h : ∀ y ∈ scope.names, y.2=.free->∃ c, env.cells.lookup y.1=some c) : closureFor scope env=pure (dw env.cells scope.names []) := by
  unfold closureFor
  have all : ∀ (l : List (Str×NameKind)) (acc : List (Str×Addr)), (∀ y ∈ l, y.2=.free->∃ c, env.cells.lookup y.1=some c) ->
      (forIn l acc fun x r=>match x with
        | (name, kind) => if (kind == .free) = true then do let a <- cellOf env name; pure (ForInStep.yield ((name, a) :: r)) else pure (ForInStep.yield r)) = (pure (dw env.cells l acc) : Sem _) := by
    intro l
    induction l with
    | nil=>intro acc _; rfl
    | cons y l ih=>
      obtain⟨n, k⟩ := y
      intro acc hl
      rw[List.forIn_cons]
      by_cases hk : (k == NameKind.free)=true
      · obtain⟨c, hc⟩ := hl (n, k) uk (by simpa using hk)
        have e : cellOf env n=pure c := by unfold cellOf; rw[hc]
        simp only[hk, if_true, e, pure_bind, dw, hc, Option.getD_some]
        exact ih _ fun y hy=>hl y (uj _ hy)
      · simp only[hk, if_false, pure_bind, dw]
        exact ih _ fun y hy=>hl y (uj _ hy)
  have := all scope.names [] h
  simp only[this, pure_bind]
theorem eR {cells : List (Str×Addr)}{x : Str}{c : Addr} : ∀ (l : List (Str×NameKind)) (acc : List (Str×Addr)), (∀ y ∈ l, y.2=.free->∃ c, cells.lookup y.1=some c) ->
    (∀ y d, acc.lookup y=some d->cells.lookup y=some d)->(dw cells l acc).lookup x=some c->cells.lookup x=some c
  | [], acc, _, ha, h=>ha x c h
  | (n, k) :: r, acc, hl, ha, h => by
    unfold dw at h
    split at h
    · rename_i hk
      obtain⟨d, hd⟩ := hl (n, k) uk (by simpa using hk)
      refine eR r _ (fun y hy=>hl y (uj _ hy)) (fun y e he=>?_) h
      rw[uM] at he
      split at he
      · rename_i hyn
        have : y=n := by simpa using hyn
        subst this
        cases he
        rw[hd]; rfl
      · exact ha y e he
    · exact eR r _ (fun y hy=>hl y (uj _ hy)) ha h
theorem gA {cells : List (Str×Addr)}{x : Str} : ∀ (l : List (Str×NameKind)) (acc : List (Str×Addr)), (∃ c, acc.lookup x=some c)->∃ c, (dw cells l acc).lookup x=some c
  | [], acc, h=>h
  | (n, k) :: r, acc, h => by
    unfold dw
    split
    · refine gA r _ ?_
      rw[uM]
      split
      · exact⟨_, rfl⟩
      · exact h
    · exact gA r _ h
theorem cX {cells : List (Str×Addr)}{x : Str} : ∀ (l : List (Str×NameKind)) (acc : List (Str×Addr)), (x, NameKind.free) ∈ l->∃ c, (dw cells l acc).lookup x=some c
  | [], _, h=>nomatch h
  | (n, k) :: r, acc, h => by
    unfold dw
    rcases uz.mp h with e | h
    · cases e
      rw[if_pos (by rfl)]
      exact gA r _ ⟨(cells.lookup x).getD 0, by rw[uM]; simp⟩
    · split
      · exact cX r _ h
      · exact cX r _ h
theorem cF {env : Env}{x : Str} : ∀ (l : List (Str×NameKind)), (∀ y ∈ l, y.2≠.cell) ->
    ((l.map fun(n, k)=>if (k == NameKind.free && env.scope.kind == .function && env.kindOf n == some .cell) then(n, NameKind.cell) else(n, k)).lookup x=some .cell ∨
     (l.map fun(n, k)=>if (k == NameKind.free && env.scope.kind == .function && env.kindOf n == some .cell) then(n, NameKind.cell) else(n, k)).lookup x=some .free)->(x, NameKind.free) ∈ l
  | [], _, h=>by simp at h
  | (n, k) :: r, hl, h => by
    have ih := cF (env := env) (x := x) r fun y hy=>hl y (uj _ hy)
    by_cases hc : (k == NameKind.free && env.scope.kind == .function && env.kindOf n == some .cell)=true
    · have hkf : k=.free := by
        rw[Bool.and_eq_true, Bool.and_eq_true] at hc
        simpa using hc.1.1
      subst hkf
      simp only[uH, hc, if_true, uM] at h
      cases hx : x == n with
      | true=>
        have : x=n := by simpa using hx
        subst this
        exact uk
      | false=>
        simp only[hx] at h
        exact uj _ (ih h)
    · simp only[uH, if_neg hc, uM] at h
      cases hx : x == n with
      | true=>
        have : x=n := by simpa using hx
        subst this
        simp only[hx] at h
        rcases h with h | h
        · cases h
          exact absurd rfl (hl (x, .cell) uk)
        · cases h
          exact uk
      | false=>
        simp only[hx] at h
        exact uj _ (ih h)
noncomputable def PTs (X:Cx) (ifs:List Expr) (t:TT):Prop :=
 ∀ (pins:List (Addr×Obj)) (s:Shared) (σ:St) (H:Hp) (Q:Bool->Hp->Prop),Inv X pins σ H s->t σ H Q ->
  wpAny (model X.prog X.w) X.A (forIn ifs true fun c r=>if r=true then do let ok <- isTrue c X.env (eval c X.env); pure (ForInStep.yield ok) else pure (ForInStep.yield r)) (TP X pins σ Q) X.xe s
noncomputable def qa:TT:=fun _ H Q=>Q true H
theorem bB {X:Cx}:PTs X [] qa:=fun _ _ _ H _ I h=>wpAny_tests_nil ⟨H,I,h⟩
variable{pos:Pos}
theorem fC {prog:Program}{w:World}{A:Around}{R:Result->Shared->Prop}{s:Shared}{elt target iter:Expr}{ifs:List Expr}{scope:Scope}{it acc:Value}{env:Env} (I:Nat->Shared->Prop)
  (turn:∀ n s,I n s->wpAny (model prog w) A (pyNext it) (fun r s₁=>match r with
   | none=>R (.ok .next) s₁
   | some v=>wpAny (model prog w) A (letOwnedTupleGo target it v) (fun _ s₀=>wpAny (model prog w) A (assign target env v) (fun _ s₂=>
     wpAny (model prog w) A (forIn ifs true fun c r=>if r=true then do let ok <- isTrue c env (eval c env); pure (ForInStep.yield ok) else pure (ForInStep.yield r)) (fun ok s₃=>
      if ok=true then wpAny (model prog w) A (eval elt env) (fun x s₄=>
       wpAny (model prog w) A (call (.builtin "list.append") [acc,x]) (fun _ s₅=>∃ m,m<n/\I m s₅) (fun _ _=>False) s₄) (fun _ _=>False) s₃
      else ∃ m,m<n/\I m s₃) (fun _ _=>False) s₂) (fun _ _=>False) s₀) (fun _ _=>False) s₁) (fun _ _=>False) s)
  (n:Nat) (h:I n s) :
  codeAny (model prog w) A (.compLoop (.ListComp elt [⟨target,iter,ifs,0⟩] scope pos) 0 it acc env) R s:=by
 have no:∀ {α:Type}{t:Sem α}{Q:α->Shared->Prop}{s:Shared}{E:Value->Shared->Prop},wpAny (model prog w) A t Q (fun _ _=>False) s->wpAny (model prog w) A t Q E s:=fun h=>wpAny_mono h (fun _ _ q=>q) fun _ _ z=>False.elim z
 refine codeAny_loop rfl I (fun n s hI=>?_) n h
 show wpAny _ A ((compTurn (.ListComp elt [⟨target,iter,ifs,0⟩] scope pos) 0 it acc env).onRaise (fun x=>do noteFrame x env; theTreesLotGoes x)) _ _ s
 refine wpAny_noted ?_
 rw[compTurn_list]
 refine wpAny_bind (wpAny_standAt (wpAny_bind (wpAny_mono (no (turn n s hI)) (fun r s₁ h₁=>?_) fun _ _ h'=>h')))
 cases r with
 | none=>exact wpAny_pure h₁
 | some v=>
  refine wpAny_bind (wpAny_mono (no h₁) (fun _ s₀ h₀=>?_) fun _ _ h'=>h')
  refine wpAny_bind (wpAny_mono (no h₀) (fun _ s₂ h₂=>wpAny_bind (wpAny_mono (no h₂) (fun ok s₃ h₃=>?_) fun _ _ h'=>h')) fun _ _ h'=>h')
  cases ok with
  | false=>exact wpAny_pure ⟨U,h₃⟩
  | true=>
   exact wpAny_bind (wpAny_bind (wpAny_mono (no h₃) (fun x s₄ h₄=>wpAny_bind (wpAny_mono (no h₄) (fun _ s₅ h₅=>wpAny_pure (wpAny_pure ⟨U,h₅⟩)) fun _ _ h'=>h')) fun _ _ h'=>h'))
noncomputable abbrev blk (X:Cx) (scope:Scope) (N':List Str) (C:Addr) (s₀:Shared) (H₀:Hp) (fp:List Addr) (pins:List (Addr×Obj)):Cx :=
 { X with N:=N',s₀:=s₀,H₀:=H₀,env:=compEnvC scope (dw X.env.cells scope.names []) C X.env,outer:=X.stack,stack:=X.stack,ex:=fp,fn:=fun _=>false,pn:=X.pn++pins,xe:=fun _ _=>False }
noncomputable def tLC (wi:TI) (k:Nat) (g:TG) (tc:TT) (te:TE):TE:=fun σ H Q=>wi σ H fun J H1=>∀ D,H1 D=none->∃ W:Nat->Nat->List V->Hp->Prop,(∃ m,W 0 m [] (upd H1 D (.lst [])))/\∀ i m ys H,W i m ys H->H D=some (.lst ys) /\
 ((J.stop i H/\Q (.ref D) H)∨(J.go i H/\∀ x H',J.yld i H x H'->g x (List.replicate k none++σ) H' fun σ2 H2=>σ2.drop k=σ/\tc σ2 H2 fun b H3=>
  if b=true then te σ2 H3 fun y H4=>ys.length<sizeLine/\H4 D=some (.lst ys)/\∃ m',m'<m/\W (i+1) m' (ys++[y]) (upd H4 D (.lst (ys++[y]))) else ∃ m',m'<m/\W (i+1) m' ys H3))
section
variable {X:Cx}
theorem d6 {elt tg iter:Expr}{ifs:List Expr}{scope:Scope}{wi:TI}{k:Nat}{g:TG}{tc:TT}{te:TE} (N':List Str) (hc:X.calm=true) (hi:PI X tg iter wi)
  (hg:∀ C s₀ H₀ fp pins,PG (blk X scope N' C s₀ H₀ fp pins) tg g) (ht:∀ C s₀ H₀ fp pins,PTs (blk X scope N' C s₀ H₀ fp pins) ifs tc) (he:∀ C s₀ H₀ fp pins,PE (blk X scope N' C s₀ H₀ fp pins) elt te)
  (hk:scope.kind=.function) (hcell:∀ y ∈ scope.names,y.2≠.cell) (hnames:∀ y ∈ scope.names,y.2=.local->scope.names.lookup y.1=some .local)
  {esc:Scope} (hsc:X.env.scope=esc) (hfr':∀ y ∈ scope.names,y.2=.free->esc.names.lookup y.1=some .cell∨esc.names.lookup y.1=some .free)
  (hlen:N'.length=k+X.N.length)
  (hN:∀ (i:Nat) (x:Str),N'[i+k]?=some x->(x,NameKind.free) ∈ scope.names->X.N[i]?=some x)
  (hN2:∀ x ∈ N'.drop k,scope.names.lookup x≠some .local)
  (hs:∀ x,foldedSetIterable iter X.env x=pure x:=by intro _; rfl) :
  PE X (.ListComp elt [⟨tg,iter,ifs,0⟩] scope pos) (tLC wi k g tc te):=by
 intro pins s σ H Q I h
 have hfr:∀ y ∈ scope.names,y.2=.free->X.env.kindOf y.1=some .cell∨X.env.kindOf y.1=some .free:=fun y hy hf=>by
  show X.env.scope.names.lookup y.1=_∨X.env.scope.names.lookup y.1=_
  rw[hsc]; exact hfr' y hy hf
 have hcells:∀ y ∈ scope.names,y.2=.free->∃ c,X.env.cells.lookup y.1=some c:=fun y hy hf=>I.ok.has y.1 (hfr y hy hf)
 have hclos:=gu scope X.env hcells
 rw[eval_ListComp]
 refine wpAny_comprehension_free (use:=none) rfl hs hclos hk hnames (thn (hi pins s σ H _ I h) fun v s1 h1=>thn h1 fun itv s2 h2=>?_)
 obtain⟨it,fp,tn,J,H2,e,I2,T,st2,f2,R⟩:=h2
 subst e
 refine wpAny_newObj_type ?_
 have hD:H2 s2.heap.objs.size=none:=I2.hok.fresh (Nat.le_refl _)
 obtain⟨W,⟨m0,w0⟩,turn⟩:=R _ hD
 generalize eD:s2.heap.objs.size=D at *
 have I3:Inv X pins σ (upd H2 D (.lst [])) { s2 with heap:=s2.heap.push { cls:=.type "list",dict:=none,data:=.seq ([]:List Value).toArray } } :=
  I2.laid (a:=D) (o:=.lst []) (t':=s2.toks) (fun b u e=>Heap.get?_push_of_some _ e) (Nat.le_of_eq eD) ⟨Nat.zero_le _,[],0,.nil,by rw[<- eD]; exact Heap.get?_push_size _ rfl⟩
 generalize e3:({ s2 with heap:=s2.heap.push { cls:=.type "list",dict:=none,data:=.seq ([]:List Value).toArray } }:Shared)=s3 at *
 have st3:tn 0 s3.heap:=T.keep _ _ _ st2 fun b _ o e=>by rw[<- e3]; exact Heap.get?_push_of_some _ e
 have lt2:∀ b ∈ fp,b<s2.heap.objs.size:=fun b hb=>by
  obtain⟨o,e,_⟩:=T.obj _ _ st2 b hb
  exact Heap.lt_size e
 have neD:∀ b ∈ fp,b≠D:=fun b hb=>by
  have:=lt2 b hb
  rw[eD] at this
  exact Nat.ne_of_lt this
 have f3:∀ b ∈ fp,eT X pins (upd H2 D (.lst [])) b:=fun b hb=>⟨by rw[aM (neD b hb)]; exact(f2 b hb).1,(f2 b hb).2⟩
 generalize upd H2 D (.lst [])=H3 at *
 refine wpAny_newFunctionEnv hcell (by intro y hy; simp at hy) (fun h₁ hns₁ hsb₁=>?_) hk
 try dsimp only at hns₁ hsb₁ ⊢
 have lt3:∀ b ∈ fp,b<s3.heap.objs.size:=fun b hb=>by
  obtain⟨o,e,_⟩:=T.obj _ _ st3 b hb
  exact Heap.lt_size e
 generalize eC:s3.heap.objs.size=C at *
 have kp:∀ b o,s3.heap.get? b=some o->h₁.get? b=some o:=fun b o e=>(hsb₁.2 b (by rw[<- eC]; exact Nat.ne_of_lt (Heap.lt_size e))).trans (Heap.get?_push_of_some _ e)
 have subC:∀ x c,(dw X.env.cells scope.names []).lookup x=some c->X.env.cells.lookup x=some c:=fun x c e=>eR scope.names [] hcells (fun y d z=>by simp at z) e
 have hCnone:H3 C=none:=I3.hok.fresh (Nat.le_of_eq eC)
 have ok':(blk X scope N' C s3 H3 fp pins).Ok:={
  mod:=I3.ok.mod
  kind:=hk
  glob:=I3.ok.glob
  blt:=I3.ok.blt
  above:=Nat.le_of_eq eC
  inj:=fun x y c a b=>I3.ok.inj x y c (subC x c a) (subC y c b)
  has:=fun x hx=>cX scope.names [] (cF scope.names hcell hx)
  cab:=fun x c a _=>absurd a Bool.false_ne_true
  hd:=I3.ok.hd
  frames:=I3.ok.frames
  stk:=.inl rfl
  exf:=fun b hb=>⟨by have:=lt3 b hb; exact Nat.ne_of_lt this,fun x c e=>(f3 b hb).2.2.2.2.1 x c (subC x c e)⟩
  bs:=I3.bs
  bsz:=Nat.le_trans I3.ok.bsz I3.sz
  noex:=fun b o e hb=>by
   rcases (f3 b hb).2.2.2.1 with z | z
   ·exact I3.ok.noex b o e z
   ·exact absurd (Nat.lt_of_lt_of_le (Heap.lt_size e) (Nat.le_trans I3.ok.bsz z)) (Nat.lt_irrefl _)
  exfs:=fun b hb z=>by
   rcases uz.mp (I3.stkSub b z) with e | e
   ·exact(f3 b hb).2.1 e
   ·exact(f3 b hb).2.2.1 e
  funs:=I3.stack
  frf:=I3.stkFree }
 have s4os:({ s3 with heap:=h₁,toks:=s3.toks+([]:List (Str×Value)).length }:Shared).os=s3.os:=rfl
 generalize e4:({ s3 with heap:=h₁,toks:=s3.toks+([]:List (Str×Value)).length }:Shared)=s4 at *
 have h4:s4.heap=h₁:=by rw[<- e4]
 have J4:Inv (blk X scope N' C s3 H3 fp pins) [] (List.replicate k none++σ) H3 s4:=by
  refine⟨ok',s4os,by rw[<- e4]; exact I3.bare,?_,⟨_,by rw[h4]; exact hns₁,fun i x v e1 e2 e5=>?_⟩,fun x c e=>?_,hCnone,fun x c e=>I3.freeC x c (subC x c e),fun p hp=>?_,?_,?_⟩
  ·rw[h4]; exact Un.kept kp
  ·have hik:¬ i<k:=fun hlt=>by
    rw[uF (by rw[uD]; exact hlt),List.getElem?_replicate] at e2
    split at e2 <;> cases e2
   obtain⟨j,rfl⟩:∃ j,i=j+k:=⟨i - k,by omega⟩
   have e2':σ[j]?=some (some v):=by
    rw[uG (by rw[uD]; omega),uD] at e2
    have:j+k - k=j:=by omega
    rw[this] at e2; exact e2
   have nl:(relabel scope X.env).names.lookup x≠some .local:=fun z=>by
    have q:∀ (l:List (Str×NameKind)),(l.map fun(n,k)=>if (k == NameKind.free && X.env.scope.kind == .function && X.env.kindOf n == some .cell) then(n,NameKind.cell) else(n,k)).lookup x=some .local->l.lookup x=some .local:=by
     intro l
     induction l with
     | nil=>intro z; simp at z
     | cons y l ih=>
      obtain⟨n,kk⟩:=y
      intro z
      by_cases hcc:(kk == NameKind.free && X.env.scope.kind == .function && X.env.kindOf n == some .cell)=true
      ·simp only[uH,if_pos hcc,uM] at z ⊢
       cases hx:x == n with
       | true=>simp only[hx] at z; cases z
       | false=>simp only[hx] at z ⊢; exact ih z
      ·simp only[uH,if_neg hcc,uM] at z ⊢
       cases hx:x == n with
       | true=>simp only[hx] at z ⊢; exact z
       | false=>simp only[hx] at z ⊢; exact ih z
    exact hN2 x (ut (i:=j) (by rw[List.getElem?_drop,Nat.add_comm]; exact e1)) (q _ z)
   have hcf:(relabel scope X.env).names.lookup x=some .cell∨(relabel scope X.env).names.lookup x=some .free:=by
    rcases e5 with z | z | z
    ·exact absurd z nl
    ·exact .inl z
    ·exact .inr z
   have hmem:(x,NameKind.free) ∈ scope.names:=cF scope.names hcell hcf
   have hx:=hN j x e1 hmem
   obtain⟨mo,_,hl⟩:=I3.loc
   have hkx:=hfr (x,.free) hmem rfl
   obtain⟨u,ru,lk⟩:=hl j x v hx e2' (by
    rcases hkx with z | z
    ·exact .inr (.inl z)
    ·exact .inr (.inr z))
   refine⟨u,ru,.inr ⟨hcf,?_⟩⟩
   rcases lk with ⟨z,_⟩ | ⟨_,c,hc1,hc2⟩
   ·rcases hkx with q | q
    ·rw[q] at z; cases z
    ·rw[q] at z; cases z
   ·obtain⟨c',hc'⟩:=cX (cells:=X.env.cells) scope.names [] hmem
    have:=subC x c' hc'
    rw[hc1] at this; cases this
    obtain⟨oc,h5,h6⟩:=hc2
    exact⟨c,hc',oc,by rw[h4]; exact kp _ _ h5,h6⟩
  ·obtain⟨v,oc,h5,h6⟩:=I3.cell x c (subC x c e)
   exact⟨v,oc,by rw[h4]; exact kp _ _ h5,h6⟩
  ·have hp':p ∈ X.pn++pins:=by simpa using hp
   obtain⟨a1,a2,a3,a4,a5⟩:=I3.pin p hp'
   refine⟨by rw[h4]; exact kp _ _ a1,a2,?_,fun z=>?_,a5⟩
   ·have:=Heap.lt_size a1
    rw[eC] at this
    exact Nat.ne_of_lt this
   ·rcases uz.mp (I3.stkSub p.1 z) with q | q
    ·exact a3 q
    ·exact a4 q
  ·rw[h4]; exact I3.hok.kept kp
  ·rw[uq,uD,I3.len]; exact hlen.symm
 have stat:∀ {H':Hp},(∀ b ∈ fp,H' b=none)->∀ b ∈ fp,eT (blk X scope N' C s3 H3 fp pins) [] H' b:=fun hn b hb=>
  ⟨hn b hb,(ok'.exf b hb).1,ok'.exfs b hb,.inl hb,fun x c e=>(ok'.exf b hb).2 x c e,fun p hp=>(f3 b hb).2.2.2.2.2 p (by simpa using hp)⟩
 have fr4:∀ b ∈ fp,H3 b=none:=fun b hb=>(f3 b hb).1
 have st4:tn 0 s4.heap:=T.keep _ _ _ st3 fun b _ o e=>by rw[h4]; exact kp _ _ e
 have loop:codeAny (model X.prog X.w) X.A (.compLoop (.ListComp elt [⟨tg,iter,ifs,0⟩] scope pos) 0 (.ref it) (.ref D) (compEnvC scope (dw X.env.cells scope.names []) C X.env))
   (compPost (model X.prog X.w) X.A X.xe none (EP X pins σ Q) (.ref D) C) s4:=by
  refine fC (fun n s'=>∃ i ys H',Inv (blk X scope N' C s3 H3 fp pins) [] (List.replicate k none++σ) H' s'/\tn i s'.heap/\(∀ b ∈ fp,H' b=none)/\W i n ys H') ?_ m0 ⟨0,[],H3,J4,st4,fr4,w0⟩
  rintro n s5 ⟨i,ys,H5,I5,st5,fr5,w5⟩
  obtain⟨hDl,stp⟩:=turn i n ys H5 w5
  rcases stp with ⟨stop,qn⟩ | ⟨go,step⟩
  ·refine thn (T.done (blk X scope N' C s3 H3 fp pins) rfl rfl rfl hc i [] s5 _ H5 (fun _ _=>False) I5 (stat fr5) st5 stop) fun r s6 ⟨hr,I6⟩=>?_
   subst hr
   obtain⟨m6,ns6,_⟩:=id I6.loc
   refine⟨m6,ns6,fun h' hsb=>⟨.ref D,H5,?_,U,qn⟩⟩
   have hC5:H5 C=none:=I6.free
   have un6:Un (frs X.stack) fp H3 H5 s3.heap s6.heap:=I6.base
   have neC:∀ b o,s3.heap.get? b=some o->b≠C:=fun b o e=>by
    have:=Heap.lt_size e
    rw[eC] at this
    exact Nat.ne_of_lt this
   refine I3.call' (s':={ s6 with heap:=h' }) (ch:=fp) I6.os ⟨fun b o e a1 a2 a3=>?_,fun b o e a1 a2 a3=>?_,un6.free,fun b o e a3=>?_,un6.tups,un6.frzs,un6.tbls⟩ ?_ I6.bare (fun b hb=>?_)
   ·exact(hsb.2 b (neC b o e)).trans (un6.keep b o e a1 a2 a3)
   ·obtain⟨sl,z⟩:=un6.slot b o e a1 a2 a3
    exact⟨sl,(hsb.2 b (neC b o e)).trans z⟩
   ·obtain⟨o',z⟩:=un6.there b o e a3
    exact⟨o',(hsb.2 b (neC b o e)).trans z⟩
   ·intro b u e
    refine(I6.hok b u e).stay (fun c w' hcc q=>(hsb.2 c ?_).trans q) (fun _ q=>q) fun _ _ q=>q
    rintro rfl
    rcases hcc with z | z
    ·rw[z,e] at hC5; cases hC5
    ·rw[z] at hC5; cases hC5
   ·exact⟨(f3 b hb).2.2.2.1,(f3 b hb).2.1,(f3 b hb).2.2.2.2.1,(f3 b hb).2.2.2.2.2⟩
  ·refine thn (T.item (blk X scope N' C s3 H3 fp pins) rfl rfl rfl hc i [] s5 _ H5 (fun _ _=>False) I5 (stat fr5) st5 go) fun r s6 ⟨u,hr,h6⟩=>?_
   subst hr
   refine thn h6 fun _ s7 ⟨x,H7,I7,r7,y7,st7,fr7⟩=>?_
   have I7':=I7.pinned (stat fr7) (T.obj _ _ st7)
   refine thn (hg C s3 H3 fp pins _ s7 _ H7 x u _ I7' r7 (step x H7 y7)) fun _ s8 ⟨σ8,H8,I8,d8,q8⟩=>?_
   refine thn (ht C s3 H3 fp pins _ s8 σ8 H8 _ I8 q8) fun b s9 ⟨H9,I9,q9⟩=>?_
   have kz:∀ (j:Nat) v,(List.replicate k none++σ)[j]?=some (some v)->σ8[j]?=some (some v):=fun j v e=>by
    have hik:¬ j<k:=fun hlt=>by
     rw[uF (by rw[uD]; exact hlt),List.getElem?_replicate] at e
     split at e <;> cases e
    rw[uG (by rw[uD]; omega),uD,<- d8,List.getElem?_drop] at e
    have:k+(j - k)=j:=by omega
    rw[this] at e; exact e
   have again:∀ {Hz:Hp}{sz:Shared}{zs:List V}{m':Nat},Inv (blk X scope N' C s3 H3 fp pins) ([]++eV fp s7.heap) σ8 Hz sz->m'<n->W (i+1) m' zs Hz ->
     ∃ m,m<n/\∃ i ys H',Inv (blk X scope N' C s3 H3 fp pins) [] (List.replicate k none++σ) H' sz/\tn i sz.heap/\(∀ b ∈ fp,H' b=none)/\W i m ys H':=fun {Hz sz zs m'} Iz hm wz=>by
    refine⟨m',hm,i+1,zs,Hz,(Iz.unpinned).weak ?_ kz,T.keep _ _ _ st7 fun b hb o e=>(Iz.pin (b,o) (ul _ (ul _ (bQ hb e)))).1,fun b hb=>?_,wz⟩
    ·rw[Iz.len]; exact I5.len
    ·obtain⟨o,e,d⟩:=T.obj _ _ st7 b hb
     exact(Iz.pin (b,o) (ul _ (ul _ (bQ hb e)))).2.1
   cases b with
   | false=>
    obtain⟨m',hm,w9⟩:=(show ∃ m',m'<n/\W (i+1) m' ys H9 by simpa using q9)
    rw[if_neg Bool.false_ne_true]
    exact again I9 hm w9
   | true=>
    rw[if_pos rfl] at q9 ⊢
    refine thn (he C s3 H3 fp pins _ s9 σ8 H9 _ I9 q9) fun u9 s10 ⟨y,H10,I10,r10,hz,hD10,m',hm,w10⟩=>?_
    refine thn (aZ (X:=blk X scope N' C s3 H3 fp pins) _ s10 σ8 H10 (.ref D) [y] (.ref D) [u9] (fun _ H'=>H'=upd H10 D (.lst (ys++[y]))) I10 rfl (.cons r10 .nil) ⟨D,ys,y,U,U,hD10,hz,U⟩) fun _ s11 ⟨_,H11,I11,_,e11⟩=>?_
    subst e11
    exact again I11 hm w10
 exact codeAny_compStart_list loop (T.self _ 0 _ _ _ st4 loop)
end
section
variable {X:Cx}{pins:List (Addr×Obj)}{σ:St}{H:Hp}{s:Shared}{h':Heap}
theorem Inv.turnedL {t':Nat}{fp:List Addr} (I:Inv X pins σ H s) (k:∀ b o,b ∉ fp->s.heap.get? b=some o->h'.get? b=some o) (hf:∀ b ∈ fp,eT X pins H b):Inv X pins σ H { s with heap:=h',toks:=t' }:=by
 have nit:∀ b u,H b=some u->b ∉ fp:=fun b u e z=>by rw[(hf b z).1] at e; cases e
 refine I.step (g':=s.gens) (d':=s.drawn) (ch:=fp) (fun b hb=>⟨(hf b hb).2.2.2.1,(hf b hb).2.1,(hf b hb).2.2.2.2.1,(hf b hb).2.2.2.2.2⟩) (fun b o _ _ hc e _=>k b o hc e) (fun b o _ _ hc e _=>⟨o.slots,k b o hc e⟩) (fun _ _ _ _ n=>n)
  (fun b o hc e=>⟨o,k b o hc e⟩) (fun _ _ e=>e) (fun _ _ _ e=>e) (fun b ps e=>⟨#[],by rw[e]; simp⟩) (fun m hm=>?_) (fun b u e=>?_) I.bare
 ·obtain⟨o,es,ep,ho,r⟩:=hm
  exact⟨o,es,ep,k _ o (fun z=>(hf _ z).2.1 rfl) ho,r⟩
 ·refine(I.hok b u e).stay (fun c v hc q=>k c v ?_ q) (fun _ q=>q) fun _ _ q=>q
  rcases hc with z | z
  ·rw[z]; exact nit b u e
  ·exact nit c _ z
theorem Inv.track {p:Addr}{o:HO} (I:Inv X pins σ H s) (hp:X.s₀.heap.objs.size<=p) (hL:p≠X.env.locals) (hc:∀ x c,X.env.cells.lookup x=some c->c≠p) (hpin:∀ q ∈ X.pn++pins,q.1≠p) (hn:H p=none)
  (new:ObjOk X.prog X.w (upd H p o) s.heap p o):Inv X pins σ (upd H p o) s:=by
 refine⟨I.ok,I.os,I.bare,⟨I.base.keep,I.base.slot,fun b ob e n hx=>?_,I.base.there,fun b xs e=>?_,fun b ob u e=>?_,fun b ps e=>?_⟩,I.loc,I.cell,by rw[aM (Ne.symm hL)]; exact I.free,fun x c e=>by rw[aM (hc x c e)]; exact I.freeC x c e,fun q hq=>?_,fun b u e=>?_,I.len⟩
 ·rw[aM (Nat.ne_of_lt (Nat.lt_of_lt_of_le (Heap.lt_size e) hp))]; exact I.base.free b ob e n hx
 ·have:=I.base.tups b xs e
  rw[aM (bn this hn)]; exact this
 ·have:=I.base.frzs b ob u e
  rw[aM (bn this hn)]; exact this
 ·obtain⟨more,e2⟩:=I.base.tbls b ps e
  exact⟨more,by rw[aM (bn e2 hn)]; exact e2⟩
 ·obtain⟨a1,a2,a3,a4,a5⟩:=I.pin q hq
  exact⟨a1,by rw[aM (hpin q hq)]; exact a2,a3,a4,a5⟩
 ·by_cases hb:b=p
  ·subst hb; rw[cD] at e; cases e; exact new
  ·rw[aM hb] at e
   exact(I.hok b u e).stay (fun _ _ _ q=>q) (fun c q=>by rw[aM (bn q hn)]; exact q) fun c xs q=>by rw[aM (bn q hn)]; exact q
end
noncomputable def Itz (K:PySem.W.Frag) (a b:Addr):It :=
 ⟨fun i H=>∃ xs x ys y,SqL K H a xs/\xs[i]?=some x/\SqL K H b ys/\ys[i]?=some y,
  fun i H v H'=>∃ p x y,v=.ref p/\H p=none/\H'=upd H p (.tup [x,y])/\(∀ xs,SqL K H a xs->xs[i]?=some x)/\∀ ys,SqL K H b ys->ys[i]?=some y,
  fun i H=>∃ xs ys,SqL K H a xs/\SqL K H b ys/\(xs.length<=i∨ys.length<=i)⟩
variable{es:List Expr}
theorem mC {P:Program}{w:World}{K:PySem.W.Frag} {x1} (a b z TI TO i1 i2:Addr):Turn P w K (.Tuple es x1 pos) (Itz K a b) [z,TI,TO,i1,i2] z
  (fun i h=>IsZip h z TI TO .none/\IsPair h TI (.ref i1) (.ref i2)/\(∃ u v,IsPair h TO u v)/\h.IsListIter i1 a i/\h.IsListIter i2 b i/\TI≠TO/\i1≠i2) where
 mem:=by simp
 obj:=fun i h ⟨hz,hTI,⟨u,v,hTO⟩,h1,h2,_⟩ c hc=>by
  simp only[uz,uL,or_false] at hc
  rcases hc with rfl | rfl | rfl | rfl | rfl
  ·exact⟨_,hz,fun v q=>by cases (show Data.fields _=Data.cell v from q)⟩
  ·exact⟨_,hTI,fun v q=>by cases (show Data.seq _ _=Data.cell v from q)⟩
  ·exact⟨_,hTO,fun v q=>by cases (show Data.seq _ _=Data.cell v from q)⟩
  ·obtain⟨o,e,_,d⟩:=h1
   exact⟨o,e,fun v q=>by rw[d] at q; cases q⟩
  ·obtain⟨o,e,_,d⟩:=h2
   exact⟨o,e,fun v q=>by rw[d] at q; cases q⟩
 keep:=fun i h h' ⟨hz,hTI,⟨u,v,hTO⟩,h1,h2,n1,n2⟩ k=>⟨k z (by simp) _ hz,k TI (by simp) _ hTI,⟨u,v,k TO (by simp) _ hTO⟩,h1.at fun o e=>k i1 (by simp) o e,h2.at fun o e=>k i2 (by simp) o e,n1,n2⟩
 item:=by
  intro X hP hw hK hc i pins s σ H E I hf ⟨hz,hTI,⟨u,v,hTO⟩,h1,h2,n1,n2⟩ hg
  subst hP hw hK
  obtain⟨xs,x,ys,y,hqa,hx,hqb,hy⟩:=hg
  obtain⟨its,rv,p,hsz⟩:=I.list hqa
  obtain⟨jts,rw',p',hsz'⟩:=I.list hqb
  obtain⟨ux,hux,rux⟩:=rv.get hx
  obtain⟨uy,huy,ruy⟩:=rw'.get hy
  have D:ZipApart z TI TO i1 i2 a b:=by
   obtain⟨oa,ea,ca,_,_⟩:=p.isList
   obtain⟨ob,eb,cb,_,_⟩:=p'.isList
   obtain⟨o1,e1,c1,_⟩:=h1
   obtain⟨o2,e2,c2,_⟩:=h2
   have dz:∀ {c:Addr}{o:Obj}{T:String},s.heap.get? c=some o->o.cls=.type T->T ≠ "zip" -> c≠z:=fun e q n r=>by
    rw[r,hz] at e; cases e; cases q; exact n rfl
   have dT:∀ {c d:Addr}{o q:Obj}{T U:String},s.heap.get? c=some o->o.cls=.type T->s.heap.get? d=some q->q.cls=.type U->T≠U->c≠d:=fun e1 c1 e2 c2 n r=>by
    subst r; rw[e1] at e2; cases e2; rw[c1] at c2; cases c2; exact n rfl
   exact⟨dz hTI rfl (by decide),dz hTO rfl (by decide),dz e1 c1 (by decide),dz e2 c2 (by decide),n1,dT hTI rfl e1 c1 (by decide),dT hTI rfl e2 c2 (by decide),dT hTO rfl e1 c1 (by decide),dT hTO rfl e2 c2 (by decide),n2,
    dz ea ca (by decide),dT ea ca hTO rfl (by decide),dT ea ca e1 c1 (by decide),dT ea ca e2 c2 (by decide),dz eb cb (by decide),dT eb cb hTO rfl (by decide),dT eb cb e1 c1 (by decide),dT eb cb e2 c2 (by decide)⟩
  refine wpAny_pyNext_zip_item D hz hTI hTO h1 h2 p.isList p'.isList (x:=ux) (y:=uy) (by simpa using hux) (by simpa using huy) fun h' a1 a2 a3 a4 a5 a6 hk=>?_
  refine⟨_,O,?_⟩
  refine wpAny_letOwnedTupleGo_zip (s:={ s with heap:=h' }) a1 fun h2' hz' hs'=>?_
  have lt:∀ b ∈ [z,TI,TO,i1,i2],b<s.heap.objs.size:=fun c hcm=>by
   simp only[uz,uL,or_false] at hcm
   rcases hcm with rfl | rfl | rfl | rfl | rfl
   ·exact Heap.lt_size hz
   ·exact Heap.lt_size hTI
   ·exact Heap.lt_size hTO
   ·obtain⟨o,e,_⟩:=h1; exact Heap.lt_size e
   ·obtain⟨o,e,_⟩:=h2; exact Heap.lt_size e
  have hTI2:IsPair h2' TI (.ref i1) (.ref i2):=hs'.extBut _ _ D.TIz (hk _ _ D.TIz D.TITO D.TIi1 D.TIi2 hTI)
  have hTO2:IsPair h2' TO ux uy:=hs'.extBut _ _ D.TOz a2
  have h12:h2'.IsListIter i1 a (i+1):=a3.extBut hs'.extBut D.i1z
  have h22:h2'.IsListIter i2 b (i+1):=a4.extBut hs'.extBut D.i2z
  have pz:s.heap.objs.size≠z:=Nat.ne_of_gt (Heap.lt_size hz)
  have hp2:IsPair h2' s.heap.objs.size ux uy:=hs'.extBut _ _ pz a5
  have kk:∀ c o,c ∉ [z,TI,TO,i1,i2]->s.heap.get? c=some o->h2'.get? c=some o:=fun c o hcm e=>by
   simp only[uz,uL,or_false,not_or] at hcm
   exact hs'.extBut _ _ hcm.1 (hk c o hcm.1 hcm.2.2.1 hcm.2.2.2.1 hcm.2.2.2.2 e)
  have I1:Inv X pins σ H { s with heap:=h2',toks:=s.toks }:=I.turnedL kk hf
  have fP:eT X pins H s.heap.objs.size:=I.fpOk (Nat.le_refl _) (I.hok.fresh (Nat.le_refl _))
  have I2:Inv X pins σ (upd H s.heap.objs.size (.tup [x,y])) { s with heap:=h2',toks:=s.toks }:=by
   refine I1.track I.sz (fP.2.1) fP.2.2.2.2.1 fP.2.2.2.2.2 fP.1 ?_
   exact⟨(show 2<=sizeLine by decide),[ux,uy],.cons rux (.cons ruy .nil),⟨_,hp2,O,_,O⟩⟩
  refine⟨.ref s.heap.objs.size,_,I2,O,⟨_,x,y,O,fP.1,O,fun zs hzs=>by rw[I.list_inj hzs hqa]; exact hx,fun zs hzs=>by rw[I.list_inj hzs hqb]; exact hy⟩,⟨hz',hTI2,⟨_,_,hTO2⟩,h12,h22,n1,n2⟩,fun c hcm=>?_⟩
  rw[aM (Nat.ne_of_lt (lt c hcm))]
  exact(hf c hcm).1
 done:=by
  intro X hP hw hK hc i pins s σ H E I hf ⟨hz,hTI,⟨u,v,hTO⟩,h1,h2,n1,n2⟩ hg
  subst hP hw hK
  obtain⟨xs,ys,hqa,hqb,hend⟩:=hg
  obtain⟨its,rv,p,hsz⟩:=I.list hqa
  obtain⟨jts,rw',p',hsz'⟩:=I.list hqb
  have D:ZipApart z TI TO i1 i2 a b:=by
   obtain⟨oa,ea,ca,_,_⟩:=p.isList
   obtain⟨ob,eb,cb,_,_⟩:=p'.isList
   obtain⟨o1,e1,c1,_⟩:=h1
   obtain⟨o2,e2,c2,_⟩:=h2
   have dz:∀ {c:Addr}{o:Obj}{T:String},s.heap.get? c=some o->o.cls=.type T->T ≠ "zip" -> c≠z:=fun e q n r=>by
    rw[r,hz] at e; cases e; cases q; exact n rfl
   have dT:∀ {c d:Addr}{o q:Obj}{T U:String},s.heap.get? c=some o->o.cls=.type T->s.heap.get? d=some q->q.cls=.type U->T≠U->c≠d:=fun e1 c1 e2 c2 n r=>by
    subst r; rw[e1] at e2; cases e2; rw[c1] at c2; cases c2; exact n rfl
   exact⟨dz hTI rfl (by decide),dz hTO rfl (by decide),dz e1 c1 (by decide),dz e2 c2 (by decide),n1,dT hTI rfl e1 c1 (by decide),dT hTI rfl e2 c2 (by decide),dT hTO rfl e1 c1 (by decide),dT hTO rfl e2 c2 (by decide),n2,
    dz ea ca (by decide),dT ea ca hTO rfl (by decide),dT ea ca e1 c1 (by decide),dT ea ca e2 c2 (by decide),dz eb cb (by decide),dT eb cb hTO rfl (by decide),dT eb cb e1 c1 (by decide),dT eb cb e2 c2 (by decide)⟩
  have e1:=rv.length
  have e2:=rw'.length
  refine wpAny_pyNext_zip_end (I.ok.hd hc) D hz hTI hTO h1 h2 p.isList p'.isList (k1:=i) (k2:=i) (by
   rcases hend with h | h
   ·left; simp; omega
   ·right; simp; omega) fun h' hk=>⟨O,?_⟩
  exact I.turnedL (t':=s.toks) (fun c o hcm e=>by
   simp only[uz,uL,or_false,not_or] at hcm
   exact hk c o hcm.1 hcm.2.2.1 hcm.2.2.2.1 hcm.2.2.2.2 e) hf
 self:=fun _ _ _ _ _ st h=>wpAny_pyIter_zip st.1 h
section
variable {X:Cx}
noncomputable def iZip (K:PySem.W.Frag) (ta:TA):TI:=fun σ H R=>ta σ H fun vs H1=>∃ a b,vs=[.ref a,.ref b]/\(∃ xs,SqL K H1 a xs)/\(∃ ys,SqL K H1 b ys)/\R (Itz K a b) H1
theorem rF {x1} {tpos:Pos}{e1 e2:Expr}{ta:TA}{p pos:Pos} (hg:Gl X "zip") (hm:X.mg "zip" = none) (ha:PA X [e1,e2] ta) (hs:starEach [e1,e2] X.env=[(false,eval e1 X.env),(false,eval e2 X.env)]:=by rfl) (hs2:starEach [e2] X.env=[(false,eval e2 X.env)]:=by rfl) :
  PI X (.Tuple es x1 tpos) (.Call (.Name "zip" p) [e1,e2] [] pos) (iZip X.K ta):=by
 intro pins s σ H R I h
 refine Call_ (dP I hg hm (by rfl) (PyProof.Rows.callWith_type1 (thn (ha pos pins s σ H _ I h) fun us s1 ⟨vs,H1,I1,r1,q1⟩=>?_) (by rw[hs,hs2]) (by rw[hs2]; rfl)))
 obtain⟨a,b,rfl,⟨xs,hqa⟩,⟨ys,hqb⟩,q⟩:=q1
 obtain⟨u1,u2,rfl,ru1,ru2⟩:=j5 r1
 cases (show u1=Value.ref a from ru1)
 cases (show u2=Value.ref b from ru2)
 obtain⟨its,rv,pa,hsz⟩:=I1.list hqa
 obtain⟨jts,rw',pb,hsz'⟩:=I1.list hqb
 refine call_zip_2 pa.isList pb.isList fun h' hz hTI hTO h1 h2 hsize hk=>?_
 refine wpAny_pyIter_zip (s:={ s1 with heap:=h' }) hz ?_
 refine⟨_,_,_,_,H1,U,I1.kept (t':=s1.toks) hk,mC a b (s1.heap.objs.size+4) (s1.heap.objs.size+2) (s1.heap.objs.size+3) s1.heap.objs.size (s1.heap.objs.size+1),⟨hz,hTI,⟨_,_,hTO⟩,h1,h2,(fun z=>by have:s1.heap.objs.size+2=s1.heap.objs.size+3:=z; omega),(fun z=>by have:s1.heap.objs.size=s1.heap.objs.size+1:=z; omega)⟩,fun c hc=>?_,q⟩
 have hge:s1.heap.objs.size<=c:=by
  simp only[uz,uL,or_false] at hc
  rcases hc with h | h | h | h | h <;> (rw[h]; omega)
 exact I1.fpOk hge (I1.hok.fresh hge)
end
noncomputable def Ite (K:PySem.W.Frag) (a:Addr):It :=
 ⟨fun i H=>∃ xs x,SqL K H a xs/\xs[i]?=some x,
  fun i H v H'=>∃ p x,v=.ref p/\H p=none/\H'=upd H p (.tup [.int i,x])/\∀ xs,SqL K H a xs->xs[i]?=some x,
  fun i H=>∃ xs,SqL K H a xs/\xs.length<=i⟩
theorem kZ {P:Program}{w:World}{K:PySem.W.Frag} {x1} (a e it:Addr):Turn P w K (.Tuple es x1 pos) (Ite K a) [e,it] e
  (fun i h=>(∃ old,IsEnum h e it i old)/\h.IsListIter it a i) where
 mem:=by simp
 obj:=fun i h ⟨⟨old,he⟩,h1⟩ c hc=>by
  simp only[uz,uL,or_false] at hc
  rcases hc with rfl | rfl
  ·exact⟨_,he,fun v q=>by cases (show Data.fields _=Data.cell v from q)⟩
  ·obtain⟨o,e,_,d⟩:=h1
   exact⟨o,e,fun v q=>by rw[d] at q; cases q⟩
 keep:=fun i h h' ⟨⟨old,he⟩,h1⟩ k=>⟨⟨old,k e (by simp) _ he⟩,h1.at fun o q=>k it (by simp) o q⟩
 item:=by
  intro X hP hw hK hc i pins s σ H E I hf ⟨⟨old,he⟩,h1⟩ hg
  subst hP hw hK
  obtain⟨xs,x,hqa,hx⟩:=hg
  obtain⟨its,rv,p,hsz⟩:=I.list hqa
  obtain⟨ux,hux,rux⟩:=rv.get hx
  have hne:e≠it:=fun z=>by
   obtain⟨o1,e1,c1,_⟩:=h1
   rw[<- z,he] at e1; cases e1
   exact absurd (show Value.type "enumerate" = Value.type "list_iterator" from c1) (by decide)
  refine wpAny_pyNext_enum_item he h1 p.isList (x:=ux) (by simpa using hux) hne fun h' a1 a3 a5 a6 hk=>?_
  refine⟨_,U,?_⟩
  refine wpAny_letOwnedTupleGo_enum (s:={ s with heap:=h',toks:=s.toks+1 }) a1 fun h2' hz' hs'=>?_
  have lt:∀ b ∈ [e,it],b<s.heap.objs.size:=fun c hcm=>by
   simp only[uz,uL,or_false] at hcm
   rcases hcm with rfl | rfl
   ·exact Heap.lt_size he
   ·obtain⟨o,q,_⟩:=h1; exact Heap.lt_size q
  have h12:h2'.IsListIter it a (i+1):=a3.extBut hs'.extBut (Ne.symm hne)
  have pz:s.heap.objs.size≠e:=Nat.ne_of_gt (Heap.lt_size he)
  have hp2:h2'.get? s.heap.objs.size=some { cls:=.type "tuple",data:=.seq #[.int i s.toks,ux] }:=hs'.extBut _ _ pz a5
  have kk:∀ c o,c ∉ [e,it]->s.heap.get? c=some o->h2'.get? c=some o:=fun c o hcm q=>by
   simp only[uz,uL,or_false,not_or] at hcm
   exact hs'.extBut _ _ hcm.1 (hk c o hcm.1 hcm.2 q)
  have I1:Inv X pins σ H { s with heap:=h2',toks:=s.toks+1 }:=I.turnedL kk hf
  have fP:eT X pins H s.heap.objs.size:=I.fpOk (Nat.le_refl _) (I.hok.fresh (Nat.le_refl _))
  have I2:Inv X pins σ (upd H s.heap.objs.size (.tup [.int i,x])) { s with heap:=h2',toks:=s.toks+1 }:=by
   refine I1.track I.sz (fP.2.1) fP.2.2.2.2.1 fP.2.2.2.2.2 fP.1 ?_
   exact⟨(show 2<=sizeLine by decide),[.int i s.toks,ux],.cons ⟨_,U⟩ (.cons rux .nil),⟨_,hp2,U,_,U⟩⟩
  refine⟨.ref s.heap.objs.size,_,I2,U,⟨_,x,U,fP.1,U,fun zs hzs=>by rw[I.list_inj hzs hqa]; exact hx⟩,⟨⟨_,hz'⟩,h12⟩,fun c hcm=>?_⟩
  rw[aM (Nat.ne_of_lt (lt c hcm))]
  exact(hf c hcm).1
 done:=by
  intro X hP hw hK hc i pins s σ H E I hf ⟨⟨old,he⟩,h1⟩ hg
  subst hP hw hK
  obtain⟨xs,hqa,hend⟩:=hg
  obtain⟨its,rv,p,hsz⟩:=I.list hqa
  have e1:=rv.length
  refine wpAny_pyNext_enum_end (I.ok.hd hc) he h1 p.isList (i:=i) (by simp; omega) fun h' hk=>⟨U,?_⟩
  exact I.turnedL (t':=s.toks) (fun c o hcm q=>by
   simp only[uz,uL,or_false,not_or] at hcm
   exact hk c o hcm.2 q) hf
 self:=fun _ _ _ _ _ ⟨⟨_,st⟩,_⟩ h=>wpAny_pyIter_enum st h
section
variable {X:Cx}
noncomputable def iEnum (K:PySem.W.Frag) (ta:TA):TI:=fun σ H R=>ta σ H fun vs H1=>∃ a,vs=[.ref a]/\(∃ xs,SqL K H1 a xs)/\R (Ite K a) H1
theorem pq {x1} {tpos:Pos}{e1:Expr}{ta:TA}{p pos:Pos} (hg:Gl X "enumerate") (hm:X.mg "enumerate" = none) (ha:PA X [e1] ta) (hs:starEach [e1] X.env=[(false,eval e1 X.env)]:=by rfl) :
  PI X (.Tuple es x1 tpos) (.Call (.Name "enumerate" p) [e1] [] pos) (iEnum X.K ta):=by
 intro pins s σ H R I h
 refine Call_ (dP I hg hm (by rfl) (PyProof.Rows.callWith_type1 (thn (ha pos pins s σ H _ I h) fun us s1 ⟨vs,H1,I1,r1,q1⟩=>?_) hs rfl))
 obtain⟨a,rfl,⟨xs,hqa⟩,q⟩:=q1
 obtain⟨u1,rfl,ru1⟩:=cL r1
 cases (show u1=Value.ref a from ru1)
 obtain⟨its,rv,pa,hsz⟩:=I1.list hqa
 refine call_enumerate_list pa.isList fun h' hz h1 hsize hk=>?_
 refine wpAny_pyIter_enum (s:={ s1 with heap:=h' }) hz ?_
 refine⟨_,_,_,_,H1,U,I1.kept (t':=s1.toks) hk,kZ a (s1.heap.objs.size+1) s1.heap.objs.size,⟨⟨_,hz⟩,h1⟩,fun c hc=>?_,q⟩
 have hge:s1.heap.objs.size<=c:=by
  simp only[uz,uL,or_false] at hc
  rcases hc with h | h <;> (rw[h]; omega)
 exact I1.fpOk hge (I1.hok.fresh hge)
end
theorem dE {P:Nat->Value->Prop}{acc:List Value}{xs:List V} (hl:acc.length=xs.length) (h:∀ (j:Nat) (v:Value),acc[j]?=some v->P j v) (hP:∀ (j:Nat) v x,P j v->xs[j]?=some x->RelV x v):Vals xs acc:=by
 induction xs generalizing acc P with
 | nil=>
  cases acc with
  | nil=>exact .nil
  | cons _ _=>simp at hl
 | cons x xs ih=>
  cases acc with
  | nil=>simp at hl
  | cons u acc=>
   refine .cons (hP 0 u x (h 0 u rfl) rfl) (ih (P:=fun j=>P (j+1)) (by simpa using hl) (fun j v e=>h (j+1) v (by simpa using e)) fun j v y p e=>hP (j+1) v y p (by simpa using e))
section
variable {X:Cx}
theorem jA:∀ {bs:List Bool}{us:List Value},Vals (bs.map V.bl) us->LSm.BoolsAre us bs
 | [],_,.nil=>.nil
 | b::bs,_,.cons r t=>by
  obtain rfl:=(show _=Value.bool b from r)
  exact .cons b (jA t)
theorem gB (hc:X.calm=true):cy X (.builtin "all") (fun xs H Q=>∃ (a:Addr) (bs:List Bool),xs=[V.ref a]/\SqL X.K H a (bs.map V.bl)/\Q (.bl (bs.all id)) H):=by
 intro pins s σ H xs us Q I r h
 obtain⟨a,bs,rfl,hq,q⟩:=h
 obtain⟨u,rfl,ru⟩:=cL r
 cases (show u=Value.ref a from ru)
 obtain⟨its,rv,p,hz⟩:=I.list hq
 obtain⟨m,F⟩:=I.fr
 have hlt:a<s.heap.objs.size:=by obtain⟨_,e,_⟩:=p.isList; exact Heap.lt_size e
 have hb:=jA rv
 refine call_all_walk (wpAny_pyIter_list p.isList ?_)
 refine⟨s.heap.objs.size,[s.heap.objs.size,a],[s.heap.objs.size],its.toArray.size,_,_,fun i=>(bs[i]?).getD true,U,Walks.list (A:=X.A.in1) (I.ok.hd hc) _ a (Nat.ne_of_lt hlt) its.toArray,
  ⟨⟨_,Heap.get?_push_size _ rfl,U,U⟩,p.isList.push _⟩,fun i v s' Q' E' hP hQ=>?_,fun h' tk hk=>?_⟩
 ·obtain⟨b,e,rfl⟩:=hb.get i v (by simpa using hP)
  simp only[e,Option.getD_some] at hQ
  exact wpAny_truthy_bool hQ
 ·have e:((List.range its.toArray.size).all fun i=>(bs[i]?).getD true)=bs.all id:=by
   rw[uE,hb.length]; exact LSm.range_all bs
  rw[e]
  exact⟨.bl (bs.all id),H,I.kept (LSm.kept_iter hk),U,q⟩
theorem jy:cy X (.type "range") (fun xs H Q=>∃ j:Int,xs=[.int j]/\∀ p,H p=none->Q (.ref p) (upd H p (.rng 0 j))):=by
 intro pins s σ H xs us Q I r h
 obtain⟨j,rfl,q⟩:=h
 obtain⟨u,rfl,t,rfl⟩:=cL r
 refine call_range_1 ⟨.ref s.heap.objs.size,_,I.laid (fun b o e=>Heap.get?_push_of_some _ e) (Nat.le_refl _) ?_,U,q _ (I.hok.fresh (Nat.le_refl _))⟩
 exact⟨_,_,_,Heap.get?_push_size _ rfl⟩
noncomputable def aX (n:Nat):List V:=(List.range n).map fun i=>V.int (i:Nat)
theorem bp (n:Nat):(aX n).length=n:=by simp[aX]
theorem bu {n i:Nat} (h:i<n):(aX n)[i]?=some (.int i):=by simp[aX,h]
theorem gN (hc:X.calm=true):cy X (.type "list") (fun xs H Q=>∃ p j,xs=[.ref p]/\H p=some (.rng 0 j)/\0<=j/\j<=2 ^ 24/\∀ l,H l=none->Q (.ref l) (upd H l (.lst (aX j.toNat)))):=by
 intro pins s σ H xs us Q I r h
 obtain⟨p,j,rfl,hp,h0,h1,q⟩:=h
 obtain⟨u,rfl,ru⟩:=cL r
 cases (show u=Value.ref p from ru)
 obtain⟨t,u,v,e⟩:=(show ObjOk X.prog X.w H s.heap p (.rng 0 j) from I.hok p _ hp)
 have sz:(j.toNat:Nat)<=sizeLine:=by rw[sizeLine_eq]; omega
 refine call_list_range (n:=j.toNat) (I.ok.hd hc) e (small_one (by omega) (by omega) (by omega) (by omega)) (by rw[rangeSize_one]; split <;> omega) (by omega) fun h' tk acc c hk hS hi=>?_
 refine⟨.ref s.heap.objs.size,_,I.laid hk (Nat.le_refl _) ?_,U,q _ (I.hok.fresh (Nat.le_refl _))⟩
 refine⟨by rw[bp]; exact sz,acc.toList,c,dE (P:=fun i v=>∃ t,v=.int ((0:Int)+i*1) t) (by rw[bp,Array.length_toList]; exact hi.1) (fun i v e=>hi.2 i v (by simpa using e)) (fun i v x ⟨t,e⟩ ex=>?_),by simpa using hS⟩
 subst e
 have hlt:i<j.toNat:=by
  have:=(List.getElem?_eq_some_iff.mp ex).1
  rw[bp] at this; exact this
 rw[bu hlt] at ex
 cases ex
 exact⟨t,by congr 1; omega⟩
theorem iQ (hc:X.calm=true):cy X (.type "list") (fun xs H Q=>∃ p kvs,xs=[.ref p]/\Rd H p (.dK kvs)/\∀ l,H l=none->Q (.ref l) (upd H l (.lst (kvs.map fun kv=>kV kv.1)))):=by
 intro pins s σ H xs us Q I r h
 obtain⟨p,kvs,rfl,hp,q⟩:=h
 obtain⟨u,rfl,ru⟩:=cL r
 cases (show u=Value.ref p from ru)
 obtain⟨z,hd,vs,rel,o,es,ep,g1,g2,g3,g4,g5,g6⟩:=eO I.hok hp
 refine PySem.W.kdl_call (PySem.W.kdl_dict (knd:=aS X.prog X.w) (kvs:=vs) (ep:=ep) hd) (I.ok.hd hc) ⟨o,es,g1,g2,g3,g4,g5,g6⟩ (by rw[<- rel.length]; exact z) fun h' tk acc c hk hS hi=>?_
 refine⟨.ref s.heap.objs.size,_,I.laid hk (Nat.le_refl _) ?_,U,q _ (I.hok.fresh (Nat.le_refl _))⟩
 refine⟨by rw[um]; exact z,acc.toList,c,dE (P:=fun i v=>∃ k x,vs[i]?=some (k,x)/\(aS X.prog X.w).is k v=true) (by rw[um,Array.length_toList,hi.1,rel.length]) (fun i v e=>hi.2 i v (by simpa using e)) (fun i v x ⟨k,y,e1,e2⟩ ex=>?_),by simpa using hS⟩
 have hk1:(kvs.map (·.1))[i]?=some k:=by
  have:=rel.keys
  rw[this,ur,e1]; rfl
 rw[ur] at ex hk1
 cases hkv:kvs[i]? with
 | none=>rw[hkv] at ex; cases ex
 | some kv=>
  rw[hkv] at ex hk1
  cases ex
  have:kv.1=k:=by simpa using hk1
  subst this
  rcases bj (k:=kv.1) (v:=v) e2 with ⟨i,t,e3,e4⟩ | ⟨x,t,e3,e4⟩
  ·show RelV (kV kv.1) v
   rw[e3,e4]; exact⟨t,U⟩
  ·show RelV (kV kv.1) v
   rw[e3,e4]; exact⟨t,U⟩
end
theorem dQ (k:Str):∀ D:List (Str×PyData),KTD.inKeys k (D.map fun p=>(p.1,KTD.Dat.flat p.2))=(D.any fun p=>decide (k=p.1))
 | []=>rfl
 | p::D=>by rw[uH,List.any_cons,KTD.inKeys,dQ k D]
section
variable {X:Cx}
noncomputable abbrev jZ (K:PySem.W.Frag) (a:Addr) (D:List (Str×PyData)):Prop:=KTD.tabLook KTD.flatLooks (fun b=>K.lookup b) a D=true
theorem fR {pins:List (Addr×Obj)}{σ:St}{H:Hp}{s:Shared}{a:Addr}{D:List (Str×PyData)} (I:Inv X pins σ H s) (T:jZ X.K a D):KTD.Here s.heap s.heap a (D.map fun p=>(p.1,KTD.Dat.flat p.2)) :=
 ⟨(KTD.tab_of_look (fun _ _ x=>KTD.flat_of_looks x) (fun b o e=>I.kIn b o e) T).text,fun _ _ e=>e⟩
theorem rO:OpR X (compareOp .In) (fun x y H Q=>∃ k a D,x=V.str k/\y=V.ref a/\jZ X.K a D/\Q (.bl (D.any fun p=>decide (k=p.1))) H):=by
 intro pins s σ H x y v u Q I rx ry h
 obtain⟨k,a,D,rfl,rfl,T,q⟩:=h
 obtain⟨t,rfl⟩:=(show ∃ t,v=Value.str k t from rx)
 cases (show u=Value.ref a from ry)
 refine KTD.in_text (fR I T) ⟨.bl (KTD.inKeys k (D.map fun(p:Str×PyData)=>(p.1,KTD.Dat.flat p.2))),H,I.tok _,U,?_⟩
 rw[dQ]; exact q
theorem gX:OpR X (compareOp .NotIn) (fun x y H Q=>∃ k a D,x=V.str k/\y=V.ref a/\jZ X.K a D/\Q (.bl (!(D.any fun p=>decide (k=p.1)))) H):=by
 intro pins s σ H x y v u Q I rx ry h
 obtain⟨k,a,D,rfl,rfl,T,q⟩:=h
 obtain⟨t,rfl⟩:=(show ∃ t,v=Value.str k t from rx)
 cases (show u=Value.ref a from ry)
 refine KTD.notin_text (fR I T) ⟨.bl (!KTD.inKeys k (D.map fun(p:Str×PyData)=>(p.1,KTD.Dat.flat p.2))),H,I.tok _,U,?_⟩
 rw[dQ]; exact q
theorem sw:IxR X (fun x y H Q=>∃ k a D i,x=V.ref a/\y=V.str k/\jZ X.K a D/\D.lookup k=some (PyData.int i)/\(D.all fun p=>match p.2 with | .int _=>true | _=>false)=true/\Q (.int i) H):=by
 intro value slice pins s σ H x y v u Q I rx ry h hs
 obtain⟨k,a,D,i,rfl,rfl,T,e,hp,q⟩:=h
 cases (show v=Value.ref a from rx)
 obtain⟨t,rfl⟩:=(show ∃ t,u=Value.str k t from ry)
 have e1:∀ D:List (Str×PyData),(D.all fun p=>match p.2 with | .int _=>true | _=>false)=true->((D.map fun p=>(p.1,KTD.Dat.flat p.2)).all fun p=>KTD.plain p.2)=true:=fun D hD=>by
  rw[List.all_map]
  refine List.all_eq_true.mpr fun p hp'=>?_
  have:=List.all_eq_true.mp hD p hp'
  cases hq:p.2 <;> simp[hq] at this <;> simp[Function.comp,hq,KTD.plain]
 have e2:∀ D:List (Str×PyData),KTD.datumAt k (D.map fun p=>(p.1,KTD.Dat.flat p.2))=(D.lookup k).map KTD.Dat.flat:=fun D=>by
  induction D with
  | nil=>rfl
  | cons p D ih=>
   obtain⟨x,d⟩:=p
   rw[uH,KTD.datumAt,uM,ih]
   by_cases hk:k=x
   ·subst hk; simp
   ·have:(k == x)=false:=beq_eq_false_iff_ne.mpr hk
    simp[hk,this]
 have hT:=fR I T
 have hat:KTD.datumAt k (D.map fun p=>(p.1,KTD.Dat.flat p.2))=some (KTD.Dat.flat (.int i)):=by rw[e2 D,e]; rfl
 have hmem:KTD.inKeys k (D.map fun p=>(p.1,KTD.Dat.flat p.2))=true:=by rw[<- KTD.isSome_datumAt,hat]; rfl
 refine subscriptTail_builtin_flat hT.typeIs slot_dict_getitem.lookup ?_ hs
 unfold getItem
 try with_reducible refine wpAny_holding ?_
 refine wpAny_bind (wpAny_sequenceKey hT.typeIs (by decide) ?_)
 refine wpAny_bind (wpAny_callSpecial?_slot (name:=Str.ofString "__getitem__") hT.typeIs slot_dict_getitem
  (wpAny_call_entry slot_dict_getitem hT.typeIs entry_dict_getitem ?_ (args_dict_getitem _ _)))
 show wpAny _ _ (dictGet a (.str k t) >>= _) _ _ s
 refine wpAny_bind (KTD.dictGet_text hT (fun d v ha hv=>wpAny_pure ⟨v,U,wpAny_pure ⟨KTD.notRef_of_plain (KTD.plain_at (e1 D hp) ha) hv,?_⟩⟩) fun hn=>absurd hn (KTD.at_of_mem hmem))
 rw[hat] at ha
 cases ha
 obtain⟨t',rfl⟩:∃ t,v=Value.int i t:=by
  exact PyProof.V.Flat.int_inv (show PyProof.V.Flat v (PyData.int i) from hv)
 exact⟨.int i,H,I.tok _,⟨_,U⟩,q⟩
end
structure FunG (K:PySem.W.Frag) (x qual:Str) (st:Stmt) (dV:Value) (f:Addr) (fd:FuncData):Prop where
 ex:∃ (oc:Value) (od:Option Addr) (kV doc pm:Value) (an:Option Addr) (cdv ct:Value) (osl:Array (Option Value)),
  fd=W.fnOf x qual (cA st) (cu st) (ah st) dV kV doc pm an cdv ct/\K.lookup f=some ⟨oc,od,.func fd,osl⟩/\W.codeIn K cdv qual=true
 kp:W.keepIn K (.ref f)=true
section
variable {P:Program}{w:World}{K:PySem.W.Frag}{mg:Str->Option Value}{base:Heap}
theorem FunG.ok {x qual:Str}{st:Stmt}{dV:Value}{f:Addr}{fd:FuncData}{N ps:List Str}{k:Nat}{sp:Sp} (F:FunG K x qual st dV f fd) (S:FnScope N ps (ah st)) (len:∀ vs H Q E,sp vs H Q E->vs.length=ps.length)
  (hbody:∀ (cdv:Value) (A:Around) (outer:List Env) (s:Shared) (H:Hp) (vs:List V) (Q:VK) (E:XK),Room k (A.deeper (envOfC qual (ah st) s.heap.objs.size f cdv))->sp vs H Q E ->
   ∃ t,PSs (lV CX0 P w K mg base N qual (ah st) f cdv A outer s H E).nox (cu st) t/\t { nx:=fun _ H'=>Q .non H',rt:=Q } (start N vs) H):FnOk P w K mg base CX0 (k+1) f fd ps sp:=by
 obtain⟨oc,od,kV,doc,pm,an,cdv,ct,osl,rfl,lk,hcd⟩:=F.ex
 refine fn_of lk hcd S len fun A outer s H vs Q E hr hsp=>?_
 obtain⟨t,h,q⟩:=hbody cdv A outer s H vs Q E hr hsp
 exact⟨t,h.nox,q⟩
theorem FunG.binds {x qual:Str}{st:Stmt}{dV:Value}{f:Addr}{fd:FuncData}{ps:List Str} (F:FunG K x qual st dV f fd)
  (h:∀ (kV doc pm:Value) (an:Option Addr) (cdv ct:Value) (us:List Value),us.length=ps.length->bindArgs (W.fnOf x qual (cA st) (cu st) (ah st) dV kV doc pm an cdv ct) ⟨us,[]⟩=pure (ps.zip us)):Binds K fd ps []:=by
 obtain⟨oc,od,kV,doc,pm,an,cdv,ct,osl,rfl,lk,hcd⟩:=F.ex
 exact .all (h kV doc pm an cdv ct)
theorem funG_mk {x qual:Str}{st:Stmt}{f:Addr}{oc:Value}{od an:Option Addr}{osl:Array (Option Value)}{dV kV doc pm cdv ct:Value} (l:K.lookup f=some ⟨oc,od,.func (W.fnOf x qual (cA st) (cu st) (ah st) dV kV doc pm an cdv ct),osl⟩)
  (c:W.codeIn K cdv qual=true) (k:W.keepIn K (.ref f)=true):FunG K x qual st dV f (W.fnOf x qual (cA st) (cu st) (ah st) dV kV doc pm an cdv ct):=⟨⟨oc,od,kV,doc,pm,an,cdv,ct,osl,U,l,c⟩,k⟩
end
section
variable {X:Cx}{K:PySem.W.Frag}
theorem iu (hK:X.K=K) {k:Nat}{t:TGs}{n:Nat} (hc:X.calm=true) (h:PGs X es t)
  (hn:(assignEach es X.env).length=n:=by rfl) (hst:(assignEach es X.env).findIdx? (·.1)=none:=by rfl):PG X (.Tuple es k pos) (t5 K n t):=by
 subst hK; exact cP hc h hn hst
theorem nY (hK:X.K=K):IxR X (tW K):=by subst hK; exact ar
end
end L2
namespace L2
theorem bT {σ:St}{H:Hp}{A B:Hp->Prop} (h:A H):qa σ H (fun b H3=>if b=true then A H3 else B H3):=(df h:if true=true then A H else B H)
end L2
namespace L2
open PySem PySem.Spec PyProof.Rows
section
variable {X:Cx}{CX:CXT}{k:Nat}{f C:Addr}{fd:FuncData}{ps ks:List Str}{sp:Sp}{E:XK}{x m:Str}{p pos apos kpos:Pos}{e o:Expr}{es:List Expr}{kws:List Keyword}{te ta:TE}{t tk:TA}
 {g:List Value->List Value->List Value}{gV:List V->List V->List V}
noncomputable def qX (C:Addr) (m:Str) (sp:Sp) (gV:List V->List V->List V) (E:XK) (ta:TE) (t tk:TA):TE:=fun σ H Q=>ta σ H fun x H1=>∃ a dx fs,x=.ref a/\H1 a=some (.ins C dx fs)/\fs.lookup m=none /\
 t σ H1 fun vs H2=>tk σ H2 fun zs H3=>sp (gV (x::vs) zs) H3 Q E
theorem nj {pl:Sem Bool} (he:PE X o ta) (c:Cls X.K C) (hm:Meth X.K C m f) (F:FnOk X.prog X.w X.K X.mg X.base CX k f fd ps sp) (hr:Room k X.A) (hb:KBinds X.K fd ps ks g gV) (hx:dj CX X E) (ha:PA X (e::es) t) (hkw:PK X kws tk)
  (hall:(backToKw pos (keywordEach kws X.env)).all (·.1.isSome)=true:=by rfl) (hks:(backToKw pos (keywordEach kws X.env)).filterMap (·.1)=ks:=by rfl)
  (hst:starEach (e::es) X.env=(false,eval e X.env)::starEach es X.env:=by rfl)
  (hpl:((backTo pos (starEach (e :: es) X.env)).any (·.1) || (backToKw pos (keywordEach kws X.env)).any (·.1.isNone)) = false:=by rfl)
  (ht:eval (.Call (.Attribute o m apos) (e::es) kws pos) X.env=(do
   let ov <- eval o X.env
   standAt apos.atName
   let (f,first) <- holding [ov] (getMethod ov m pl)
   callWith pos f first (backTo pos (starEach (e::es) X.env)) (backToKw pos (keywordEach kws X.env))):=by rfl) :
  PE X (.Call (.Attribute o m apos) (e::es) kws pos) (qX C m sp gV E ta t tk):=by
 intro pins s σ H Q I h
 refine PySem.W.methodCall_KW (pl:=pl) (thn (he pins s σ H _ I h) fun u s1 ⟨x,H1,I1,rx,a,dx,fs,ex,ea,l,q⟩=>?_) ht
 subst ex
 obtain rfl:u=Value.ref a:=rx
 refine dR I1 ea c hm l ?_
 refine PySem.W.callWith_KW (first:=[.ref a]) (h₀:=X.base) I.ok.mod.kin hm.kp hall (thn (ha pos pins s1 σ H1 _ I1 q) fun us s2 ⟨vs,H2,I2,r,q2⟩=>?_) hpl hst
 refine thn (hkw pos pins s2 σ H2 _ I2 q2) fun ws s3 ⟨zs,H3,I3,rz,q3⟩=>⟨I3.kIn,?_⟩
 rw[hks]
 exact o9 F hr hb hx I3 (us:=.ref a::us) (vs:=.ref a::vs) (.cons rfl r) rz q3
end
end L2
namespace L2
theorem ifJ {b:Bool}{A B:Prop} (hA:b=true->B->A) (g:B):if b=true then A else B:=by
 cases b
 ·exact bA g
 ·exact df (hA rfl g)
end L2
set_option Elab.async false
set_option linter.all false
set_option maxRecDepth 100000
namespace L2
open PySem PySem.Spec PyProof.Rows
section
variable {X:Cx}{o i e:Expr}{td ty:TE}{tpos pos apos cpos:Pos}
theorem kA:OpR X (binaryOp .Add) (fun x y H Q=>∃ a b xs ys,x=.ref a/\y=.ref b/\SqL X.K H a xs/\SqL X.K H b ys/\xs.length+ys.length<=sizeLine/\∀ l,H l=none->Q (.ref l) (upd H l (.lst (xs++ys)))):=by
 intro pins s σ H x y u v Q I rx ry h
 obtain⟨a,b,xs,ys,rfl,rfl,ha,hb,hz,q⟩:=h
 cases (show u=Value.ref a from rx)
 cases (show v=Value.ref b from ry)
 obtain⟨ia,ra,⟨⟨cls,dd,data,sl⟩,n,ho,hc,_,hd⟩,_⟩:=I.list ha
 obtain⟨ib,rb,⟨⟨cls2,dd2,data2,sl2⟩,n2,ho2,hc2,_,hd2⟩,_⟩:=I.list hb
 simp only at hc hd hc2 hd2
 subst hc hd hc2 hd2
 have e:ia.toArray++ib.toArray=(ia++ib).toArray:=by simp
 have e1:=ra.length
 have e2:=rb.length
 refine concat_meets ⟨_,ho,U⟩ ⟨_,ho2,U⟩ noFill_list_add seq_list_add PySem.F.slot_list_add PySem.F.entry_list_add (PySem.F.args_list_add_2 _ _) (list_addW a b ia.toArray ib.toArray n n2 dd dd2 sl sl2 (by simp; omega)) ⟨ho,ho2,?_⟩
 rw[e]
 refine⟨.ref s.heap.objs.size,_,I.laid (a:=s.heap.objs.size) (o:=.lst (xs++ys)) (t':=s.toks) (fun _ _ q=>Heap.get?_push_of_some _ q) (Nat.le_refl _) ⟨by simpa using hz,ia++ib,0,ra.append rb,Heap.get?_push_size _ rfl⟩,U,q _ (I.hok.fresh (Nat.le_refl _))⟩
theorem fW {h:Heap}:∀ {ns:List Int}{vs:List Value},Vals (ns.map V.int) vs->ReadsAll h vs (ns.map PyData.int) []
 | [],_,r=>by cases r; exact .nil
 | n::ns,_,r=>by
  cases r with
  | cons r1 r2=>
   obtain⟨t,rfl⟩:=r1
   exact .cons (as:=[]) (.int _ t) (fW r2)
theorem gT {pins:List (Addr×Obj)}{s:Shared}{σ:St}{H:Hp}{a:Addr}{ns:List Int} (I:Inv X pins σ H s) (h:H a=some (.tup (ns.map V.int))):Reads s.heap (.ref a) (.tuple (ns.map PyData.int)) []:=by
 obtain⟨_,its,r,o,h1,h2,n,h3⟩:=(show ObjOk X.prog X.w H s.heap a (.tup (ns.map V.int)) from I.hok a _ h)
 exact reads_tuple_at h1 h2 h3 (by simpa using fW r)
theorem fU (ns:List Int):SeqAt.shaped (.tuple (ns.map PyData.int))=true:=by
 simp[SeqAt.shaped,PyData.canLay0,PyData.depth,PySem.W.ke_canLayAll0,PySem.W.ke_depthAll]
theorem mS (ns ms:List Int):PySem.Spec.same (.tuple (ns.map PyData.int)) (.tuple (ms.map PyData.int))=decide (ns=ms):=by
 simp only[PySem.Spec.same]; exact PySem.W.ke_sameAll ns ms
noncomputable def rTup (neg:Bool):R2:=fun x y H Q=>∃ (a b:Addr) (ns ms:List Int),x=.ref a/\y=.ref b/\H a=some (.tup (ns.map V.int))/\H b=some (.tup (ms.map V.int))/\Q (.bl (if neg then !decide (ns=ms) else decide (ns=ms))) H
theorem j6 (ns:List Int):(Shape.tuples .int).has (.tuple (ns.map PyData.int))=true:=by
 simp only[Shape.has]
 induction ns with
 | nil=>rfl
 | cons n ns ih=>simp[Shape.hasAll,Shape.has] at ih ⊢; try exact ih
theorem rP (hu:X.A.units+64<cLine):OpR X (compareOp .Eq) (rTup false):=by
 intro pins s σ H x y u v Q I rx ry h
 obtain⟨a,b,ns,ms,rfl,rfl,ha,hb,q⟩:=h
 cases (show u=Value.ref a from rx)
 cases (show v=Value.ref b from ry)
 exact eq_dataH_same (gT I ha) (gT I hb) (fU _) (fU _) hu (SeqAt.noMix_of_shape (.tuples .int) rfl _ _ (j6 ns) (j6 ms)) (by rw[mS]; exact aQ I q (by simp))
end
section
variable {X:Cx}
theorem dZ {ix:Nat}{nm:Str}{pos' spos:Pos}{elt tg iter:Expr}{ifs:List Expr}{scope:Scope}{pos:Pos}{wi:TI}{k:Nat}{g:TG}{tc:TT}{te:TE} (hNd:X.N.Nodup) (hix:X.N[ix]?=some nm) (hLx:Loc X.env.scope nm) (N':List Str) (hc:X.calm=true) (hi:PI X tg iter wi)
  (hg:∀ C s₀ H₀ fp pins,PG (blk X scope N' C s₀ H₀ fp pins) tg g) (ht:∀ C s₀ H₀ fp pins,PTs (blk X scope N' C s₀ H₀ fp pins) ifs tc) (he:∀ C s₀ H₀ fp pins,PE (blk X scope N' C s₀ H₀ fp pins) elt te)
  (hk:scope.kind=.function) (hcell:∀ y ∈ scope.names,y.2≠.cell) (hnames:∀ y ∈ scope.names,y.2=.local->scope.names.lookup y.1=some .local)
  {esc:Scope} (hsc:X.env.scope=esc) (hfr':∀ y ∈ scope.names,y.2=.free->esc.names.lookup y.1=some .cell∨esc.names.lookup y.1=some .free)
  (hlen:N'.length=k+X.N.length)
  (hN:∀ (i:Nat) (x:Str),N'[i+k]?=some x->(x,NameKind.free) ∈ scope.names->X.N[i]?=some x)
  (hN2:∀ x ∈ N'.drop k,scope.names.lookup x≠some .local)
  (hs:∀ x,foldedSetIterable iter X.env x=pure x:=by intro _; rfl)
  (hsw:swapsWith (.ListComp elt [⟨tg,iter,ifs,0⟩] scope pos) (some (.Name nm pos')) spos.line X.env=pure true:=by rfl)
  (hf:X.fn nm=true∨X.env.scope.names.lookup nm=some .local:=by first | exact .inl rfl | exact .inr rfl | assumption) :
  PS X (.Assign [.Name nm pos'] (.ListComp elt [⟨tg,iter,ifs,0⟩] scope pos) spos) (rh (tLC wi k g tc te) (oq ix)):=by
 intro pins s σ H Dn I h
 have hfr:∀ y ∈ scope.names,y.2=.free->X.env.kindOf y.1=some .cell∨X.env.kindOf y.1=some .free:=fun y hy hf=>by
  show X.env.scope.names.lookup y.1=_∨X.env.scope.names.lookup y.1=_
  rw[hsc]; exact hfr' y hy hf
 have hcells:∀ y ∈ scope.names,y.2=.free->∃ c,X.env.cells.lookup y.1=some c:=fun y hy hf=>I.ok.has y.1 (hfr y hy hf)
 have hclos:=gu scope X.env hcells
 rw[exec_Assign_Name_used _ _ _ _ hsw]
 refine wpAny_bind (wpAny_standAt (wpAny_bind ?_))
 show wpAny _ X.A (do let _ <- comprehension (.ListComp elt [⟨tg,iter,ifs,0⟩] scope pos) scope X.env _ (newList []) false (eval iter X.env) (some (assign (.Name nm pos') X.env))) _ _ s
 refine wpAny_bind (wpAny_mono (wpAny_comprehension_free (Q:=fun _ s'=>SP X pins Dn .next s') (use:=some (assign (.Name nm pos') X.env)) rfl hs hclos hk hnames ?_) (fun _ s' hq=>wpAny_pure (wpAny_pure hq)) fun _ _ e=>e)
 refine(thn (hi pins s σ H _ I h) fun v s1 h1=>thn h1 fun itv s2 h2=>?_)
 obtain⟨it,fp,tn,J,H2,e,I2,T,st2,f2,R⟩:=h2
 subst e
 refine wpAny_newObj_type ?_
 have hD:H2 s2.heap.objs.size=none:=I2.hok.fresh (Nat.le_refl _)
 obtain⟨W,⟨m0,w0⟩,turn⟩:=R _ hD
 generalize eD:s2.heap.objs.size=D at *
 have I3:Inv X pins σ (upd H2 D (.lst [])) { s2 with heap:=s2.heap.push { cls:=.type "list",dict:=none,data:=.seq ([]:List Value).toArray } } :=
  I2.laid (a:=D) (o:=.lst []) (t':=s2.toks) (fun b u e=>Heap.get?_push_of_some _ e) (Nat.le_of_eq eD) ⟨Nat.zero_le _,[],0,.nil,by rw[<- eD]; exact Heap.get?_push_size _ rfl⟩
 generalize e3:({ s2 with heap:=s2.heap.push { cls:=.type "list",dict:=none,data:=.seq ([]:List Value).toArray } }:Shared)=s3 at *
 have st3:tn 0 s3.heap:=T.keep _ _ _ st2 fun b _ o e=>by rw[<- e3]; exact Heap.get?_push_of_some _ e
 have lt2:∀ b ∈ fp,b<s2.heap.objs.size:=fun b hb=>by
  obtain⟨o,e,_⟩:=T.obj _ _ st2 b hb
  exact Heap.lt_size e
 have neD:∀ b ∈ fp,b≠D:=fun b hb=>by
  have:=lt2 b hb
  rw[eD] at this
  exact Nat.ne_of_lt this
 have f3:∀ b ∈ fp,eT X pins (upd H2 D (.lst [])) b:=fun b hb=>⟨by rw[aM (neD b hb)]; exact(f2 b hb).1,(f2 b hb).2⟩
 generalize upd H2 D (.lst [])=H3 at *
 refine wpAny_newFunctionEnv hcell (by intro y hy; simp at hy) (fun h₁ hns₁ hsb₁=>?_) hk
 try dsimp only at hns₁ hsb₁ ⊢
 have lt3:∀ b ∈ fp,b<s3.heap.objs.size:=fun b hb=>by
  obtain⟨o,e,_⟩:=T.obj _ _ st3 b hb
  exact Heap.lt_size e
 generalize eC:s3.heap.objs.size=C at *
 have kp:∀ b o,s3.heap.get? b=some o->h₁.get? b=some o:=fun b o e=>(hsb₁.2 b (by rw[<- eC]; exact Nat.ne_of_lt (Heap.lt_size e))).trans (Heap.get?_push_of_some _ e)
 have subC:∀ x c,(dw X.env.cells scope.names []).lookup x=some c->X.env.cells.lookup x=some c:=fun x c e=>eR scope.names [] hcells (fun y d z=>by simp at z) e
 have hCnone:H3 C=none:=I3.hok.fresh (Nat.le_of_eq eC)
 have ok':(blk X scope N' C s3 H3 fp pins).Ok:={
  mod:=I3.ok.mod
  kind:=hk
  glob:=I3.ok.glob
  blt:=I3.ok.blt
  above:=Nat.le_of_eq eC
  inj:=fun x y c a b=>I3.ok.inj x y c (subC x c a) (subC y c b)
  has:=fun x hx=>cX scope.names [] (cF scope.names hcell hx)
  cab:=fun x c a _=>absurd a Bool.false_ne_true
  hd:=I3.ok.hd
  frames:=I3.ok.frames
  stk:=.inl rfl
  exf:=fun b hb=>⟨by have:=lt3 b hb; exact Nat.ne_of_lt this,fun x c e=>(f3 b hb).2.2.2.2.1 x c (subC x c e)⟩
  bs:=I3.bs
  bsz:=Nat.le_trans I3.ok.bsz I3.sz
  noex:=fun b o e hb=>by
   rcases (f3 b hb).2.2.2.1 with z | z
   ·exact I3.ok.noex b o e z
   ·exact absurd (Nat.lt_of_lt_of_le (Heap.lt_size e) (Nat.le_trans I3.ok.bsz z)) (Nat.lt_irrefl _)
  exfs:=fun b hb z=>by
   rcases uz.mp (I3.stkSub b z) with e | e
   ·exact(f3 b hb).2.1 e
   ·exact(f3 b hb).2.2.1 e
  funs:=I3.stack
  frf:=I3.stkFree }
 have s4os:({ s3 with heap:=h₁,toks:=s3.toks+([]:List (Str×Value)).length }:Shared).os=s3.os:=rfl
 generalize e4:({ s3 with heap:=h₁,toks:=s3.toks+([]:List (Str×Value)).length }:Shared)=s4 at *
 have h4:s4.heap=h₁:=by rw[<- e4]
 have J4:Inv (blk X scope N' C s3 H3 fp pins) [] (List.replicate k none++σ) H3 s4:=by
  refine⟨ok',s4os,by rw[<- e4]; exact I3.bare,?_,⟨_,by rw[h4]; exact hns₁,fun i x v e1 e2 e5=>?_⟩,fun x c e=>?_,hCnone,fun x c e=>I3.freeC x c (subC x c e),fun p hp=>?_,?_,?_⟩
  ·rw[h4]; exact Un.kept kp
  ·have hik:¬ i<k:=fun hlt=>by
    rw[uF (by rw[uD]; exact hlt),List.getElem?_replicate] at e2
    split at e2 <;> cases e2
   obtain⟨j,rfl⟩:∃ j,i=j+k:=⟨i - k,by omega⟩
   have e2':σ[j]?=some (some v):=by
    rw[uG (by rw[uD]; omega),uD] at e2
    have:j+k - k=j:=by omega
    rw[this] at e2; exact e2
   have nl:(relabel scope X.env).names.lookup x≠some .local:=fun z=>by
    have q:∀ (l:List (Str×NameKind)),(l.map fun(n,k)=>if (k == NameKind.free && X.env.scope.kind == .function && X.env.kindOf n == some .cell) then(n,NameKind.cell) else(n,k)).lookup x=some .local->l.lookup x=some .local:=by
     intro l
     induction l with
     | nil=>intro z; simp at z
     | cons y l ih=>
      obtain⟨n,kk⟩:=y
      intro z
      by_cases hcc:(kk == NameKind.free && X.env.scope.kind == .function && X.env.kindOf n == some .cell)=true
      ·simp only[uH,if_pos hcc,uM] at z ⊢
       cases hx:x == n with
       | true=>simp only[hx] at z; cases z
       | false=>simp only[hx] at z ⊢; exact ih z
      ·simp only[uH,if_neg hcc,uM] at z ⊢
       cases hx:x == n with
       | true=>simp only[hx] at z ⊢; exact z
       | false=>simp only[hx] at z ⊢; exact ih z
    exact hN2 x (ut (i:=j) (by rw[List.getElem?_drop,Nat.add_comm]; exact e1)) (q _ z)
   have hcf:(relabel scope X.env).names.lookup x=some .cell∨(relabel scope X.env).names.lookup x=some .free:=by
    rcases e5 with z | z | z
    ·exact absurd z nl
    ·exact .inl z
    ·exact .inr z
   have hmem:(x,NameKind.free) ∈ scope.names:=cF scope.names hcell hcf
   have hx:=hN j x e1 hmem
   obtain⟨mo,_,hl⟩:=I3.loc
   have hkx:=hfr (x,.free) hmem rfl
   obtain⟨u,ru,lk⟩:=hl j x v hx e2' (by
    rcases hkx with z | z
    ·exact .inr (.inl z)
    ·exact .inr (.inr z))
   refine⟨u,ru,.inr ⟨hcf,?_⟩⟩
   rcases lk with ⟨z,_⟩ | ⟨_,c,hc1,hc2⟩
   ·rcases hkx with q | q
    ·rw[q] at z; cases z
    ·rw[q] at z; cases z
   ·obtain⟨c',hc'⟩:=cX (cells:=X.env.cells) scope.names [] hmem
    have:=subC x c' hc'
    rw[hc1] at this; cases this
    obtain⟨oc,h5,h6⟩:=hc2
    exact⟨c,hc',oc,by rw[h4]; exact kp _ _ h5,h6⟩
  ·obtain⟨v,oc,h5,h6⟩:=I3.cell x c (subC x c e)
   exact⟨v,oc,by rw[h4]; exact kp _ _ h5,h6⟩
  ·have hp':p ∈ X.pn++pins:=by simpa using hp
   obtain⟨a1,a2,a3,a4,a5⟩:=I3.pin p hp'
   refine⟨by rw[h4]; exact kp _ _ a1,a2,?_,fun z=>?_,a5⟩
   ·have:=Heap.lt_size a1
    rw[eC] at this
    exact Nat.ne_of_lt this
   ·rcases uz.mp (I3.stkSub p.1 z) with q | q
    ·exact a3 q
    ·exact a4 q
  ·rw[h4]; exact I3.hok.kept kp
  ·rw[uq,uD,I3.len]; exact hlen.symm
 have stat:∀ {H':Hp},(∀ b ∈ fp,H' b=none)->∀ b ∈ fp,eT (blk X scope N' C s3 H3 fp pins) [] H' b:=fun hn b hb=>
  ⟨hn b hb,(ok'.exf b hb).1,ok'.exfs b hb,.inl hb,fun x c e=>(ok'.exf b hb).2 x c e,fun p hp=>(f3 b hb).2.2.2.2.2 p (by simpa using hp)⟩
 have fr4:∀ b ∈ fp,H3 b=none:=fun b hb=>(f3 b hb).1
 have st4:tn 0 s4.heap:=T.keep _ _ _ st3 fun b _ o e=>by rw[h4]; exact kp _ _ e
 have loop:codeAny (model X.prog X.w) X.A (.compLoop (.ListComp elt [⟨tg,iter,ifs,0⟩] scope pos) 0 (.ref it) (.ref D) (compEnvC scope (dw X.env.cells scope.names []) C X.env))
   (compPost (model X.prog X.w) X.A X.xe (some (assign (.Name nm pos') X.env)) (fun _ s'=>SP X pins Dn .next s') (.ref D) C) s4:=by
  refine fC (fun n s'=>∃ i ys H',Inv (blk X scope N' C s3 H3 fp pins) [] (List.replicate k none++σ) H' s'/\tn i s'.heap/\(∀ b ∈ fp,H' b=none)/\W i n ys H') ?_ m0 ⟨0,[],H3,J4,st4,fr4,w0⟩
  rintro n s5 ⟨i,ys,H5,I5,st5,fr5,w5⟩
  obtain⟨hDl,stp⟩:=turn i n ys H5 w5
  rcases stp with ⟨stop,qn⟩ | ⟨go,step⟩
  ·refine thn (T.done (blk X scope N' C s3 H3 fp pins) rfl rfl rfl hc i [] s5 _ H5 (fun _ _=>False) I5 (stat fr5) st5 stop) fun r s6 ⟨hr,I6⟩=>?_
   subst hr
   obtain⟨m6,ns6,_⟩:=id I6.loc
   have hC5:H5 C=none:=I6.free
   have un6:Un (frs X.stack) fp H3 H5 s3.heap s6.heap:=I6.base
   have IX:Inv X pins σ H5 s6:=by
    refine I3.call' (s':=s6) (ch:=fp) I6.os un6 I6.hok I6.bare (fun b hb=>?_)
    exact⟨(f3 b hb).2.2.2.1,(f3 b hb).2.1,(f3 b hb).2.2.2.2.1,(f3 b hb).2.2.2.2.2⟩
   have fpC:eT X pins H5 C:=I3.fpOk (Nat.le_of_eq eC) hC5
   obtain⟨oC,esC,epC,gC,dC,rC⟩:=ns6
   have IXp:=IX.pinned (fp:=[C]) (fun b hb=>by rw[uu.mp hb]; exact fpC) (fun b hb=>by rw[uu.mp hb]; exact⟨oC,gC,fun v z=>by rw[dC] at z; cases z⟩)
   have sto:=aw (pos:=pos') hNd hix hLx hf _ s6 σ H5 (.ref D) (.ref D) (fun σ' H'=>σ'=σ.set ix (some (.ref D))/\H'=H5) IXp rfl ⟨U,U⟩
   show wpAny _ _ (assign (.Name nm pos') X.env (.ref D)) _ _ s6
   refine thn sto fun _ s7 ⟨σ7,H7,I7,e7,e7'⟩=>?_
   subst e7 e7'
   have gC7:s7.heap.get? C=some oC:=(I7.pin (C,oC) (ul _ (ul _ (bQ (uu.mpr rfl) gC)))).1
   refine⟨_,⟨oC,esC,epC,gC7,dC,rC⟩,fun h' hsb=>⟨σ.set ix (some (.ref D)),_,?_,qn⟩⟩
   refine(I7.unpinned).call' (s':={ s7 with heap:=h' }) (ch:=[C]) rfl ⟨fun b o e a1 a2 a3=>?_,fun b o e a1 a2 a3=>?_,fun _ _ _ n _=>n,fun b o e a3=>?_,fun _ _ q=>q,fun _ _ _ q=>q,fun _ ps q=>⟨#[],by rw[q]; simp⟩⟩ ?_ I7.bare (fun b hb=>?_)
   ·exact(hsb.2 b (fun z=>a3 (uu.mpr z))).trans e
   ·exact⟨o.slots,(hsb.2 b (fun z=>a3 (uu.mpr z))).trans e⟩
   ·exact⟨o,(hsb.2 b (fun z=>a3 (uu.mpr z))).trans e⟩
   ·intro b u e
    refine(I7.hok b u e).stay (fun c w' hcc q=>(hsb.2 c ?_).trans q) (fun _ q=>q) fun _ _ q=>q
    rintro rfl
    rcases hcc with z | z
    ·rw[z,e] at hC5; cases hC5
    ·rw[z] at hC5; cases hC5
   ·rw[uu.mp hb]
    exact⟨fpC.2.2.2.1,fpC.2.1,fpC.2.2.2.2.1,fpC.2.2.2.2.2⟩
  ·refine thn (T.item (blk X scope N' C s3 H3 fp pins) rfl rfl rfl hc i [] s5 _ H5 (fun _ _=>False) I5 (stat fr5) st5 go) fun r s6 ⟨u,hr,h6⟩=>?_
   subst hr
   refine thn h6 fun _ s7 ⟨x,H7,I7,r7,y7,st7,fr7⟩=>?_
   have I7':=I7.pinned (stat fr7) (T.obj _ _ st7)
   refine thn (hg C s3 H3 fp pins _ s7 _ H7 x u _ I7' r7 (step x H7 y7)) fun _ s8 ⟨σ8,H8,I8,d8,q8⟩=>?_
   refine thn (ht C s3 H3 fp pins _ s8 σ8 H8 _ I8 q8) fun b s9 ⟨H9,I9,q9⟩=>?_
   have kz:∀ (j:Nat) v,(List.replicate k none++σ)[j]?=some (some v)->σ8[j]?=some (some v):=fun j v e=>by
    have hik:¬ j<k:=fun hlt=>by
     rw[uF (by rw[uD]; exact hlt),List.getElem?_replicate] at e
     split at e <;> cases e
    rw[uG (by rw[uD]; omega),uD,<- d8,List.getElem?_drop] at e
    have:k+(j - k)=j:=by omega
    rw[this] at e; exact e
   have again:∀ {Hz:Hp}{sz:Shared}{zs:List V}{m':Nat},Inv (blk X scope N' C s3 H3 fp pins) ([]++eV fp s7.heap) σ8 Hz sz->m'<n->W (i+1) m' zs Hz ->
     ∃ m,m<n/\∃ i ys H',Inv (blk X scope N' C s3 H3 fp pins) [] (List.replicate k none++σ) H' sz/\tn i sz.heap/\(∀ b ∈ fp,H' b=none)/\W i m ys H':=fun {Hz sz zs m'} Iz hm wz=>by
    refine⟨m',hm,i+1,zs,Hz,(Iz.unpinned).weak ?_ kz,T.keep _ _ _ st7 fun b hb o e=>(Iz.pin (b,o) (ul _ (ul _ (bQ hb e)))).1,fun b hb=>?_,wz⟩
    ·rw[Iz.len]; exact I5.len
    ·obtain⟨o,e,d⟩:=T.obj _ _ st7 b hb
     exact(Iz.pin (b,o) (ul _ (ul _ (bQ hb e)))).2.1
   cases b with
   | false=>
    obtain⟨m',hm,w9⟩:=(show ∃ m',m'<n/\W (i+1) m' ys H9 by simpa using q9)
    rw[if_neg Bool.false_ne_true]
    exact again I9 hm w9
   | true=>
    rw[if_pos rfl] at q9 ⊢
    refine thn (he C s3 H3 fp pins _ s9 σ8 H9 _ I9 q9) fun u9 s10 ⟨y,H10,I10,r10,hz,hD10,m',hm,w10⟩=>?_
    refine thn (aZ (X:=blk X scope N' C s3 H3 fp pins) _ s10 σ8 H10 (.ref D) [y] (.ref D) [u9] (fun _ H'=>H'=upd H10 D (.lst (ys++[y]))) I10 rfl (.cons r10 .nil) ⟨D,ys,y,U,U,hD10,hz,U⟩) fun _ s11 ⟨_,H11,I11,_,e11⟩=>?_
    subst e11
    exact again I11 hm w10
 exact codeAny_compStart_list loop (T.self _ 0 _ _ _ st4 loop)
end
theorem qO {α:Type} (f:α->Int):∀ (L:List α) (y:α),(L.map f).Nodup->y ∈ L->(L.filter fun x=>f x == f y).length=1
 | [],y,_,h=>nomatch h
 | x::L,y,n,h=>by
  rw[uH,List.nodup_cons] at n
  rw[List.filter_cons]
  rcases uz.mp h with rfl | h
  ·rw[if_pos (by simp),uv,List.filter_eq_nil_iff.mpr (fun a ha e=>n.1 (uK.mpr ⟨a,ha,by simpa using e⟩))]
   rfl
  ·rw[if_neg (fun e=>n.1 (uK.mpr ⟨y,h,(show f y=f x by rw[(show f x=f y by simpa using e)])⟩)),qO f L y n.2 h]
section
variable {prog:Program}{w:World}{A:Around}{E:Value->Shared->Prop}{s:Shared}{K:Type} [DecidableEq K] {knd:PySem.KeyKind prog w K}
theorem kY {nm:String}{d o:Addr}{xs:List (List K×Addr×Value)}{Q:Unit->Shared->Prop} (hne:d≠o) (hs:(o == sysModules)=false) (dd:s.heap.DictOfH (tupleKind knd) d []) (od:s.heap.DictOfH (tupleKind knd) o xs)
  (nd:(xs.map fun x=>(tupleKind knd).hash x.1).Nodup) (hz:xs.length<=sizeLine) (h:∀ h',h'.DictOfH (tupleKind knd) d xs->Heap.SameBut d s.heap h'->Q () { s with heap:=h' }) :
  wpAny (model prog w) A (Builtin.Dict.mergeDict nm d o) Q E s:=by
 obtain⟨o1,es1,ep1,g1,x1,d1,l1,_,_⟩:=id dd
 obtain⟨o2,es2,ep2,g2,x2,d2,l2,i2,n2⟩:=id od
 unfold Builtin.Dict.mergeDict
 rw[if_neg (by simpa using hne)]
 refine wpAny_bind ?_
 unfold Builtin.Dict.showsAll
 rw[if_neg (by rw[hs]; exact Bool.false_ne_true)]
 refine wpAny_pure (wpAny_bind (wpAny_dictEntries g2 d2 ?_))
 dsimp only
 have z1:es1 = #[]:=by apply Array.ext'; rw[l1]; rfl
 subst z1
 cases xs with
 | nil=>
  have z2:es2 = #[]:=by apply Array.ext'; rw[l2]; rfl
  subst z2
  rw[if_neg (by simp)]
  refine wpAny_bind (wpAny_dictEpoch g2 d2 ?_)
  refine wpAny_bind (wpAny_dictEntries g2 d2 ?_)
  refine wpAny_bind (wpAny_of_eq (a:=PUnit.unit) (by simp[Std.Legacy.Range.forIn_eq_forIn_range']) ?_)
  exact wpAny_pure (h _ dd (Heap.SameBut.refl _ _))
 | cons x xs=>
  have hfew:(decide (es2.size<=8) && es2.all fun e=>(keyPart e.key).isSome)=false:=by
   rw[Bool.and_eq_false_iff]; right
   rw[<- Array.all_toList,l2]
   rfl
  rw[hfew,if_pos (show(!false)=true from rfl)]
  refine wpAny_bind (wpAny_dictEntries g1 d1 ?_)
  rw[if_pos (show(#[]:Array DictEntry).isEmpty=true from rfl)]
  refine wpAny_bind ?_
  unfold Builtin.Dict.entriesForEmpty
  refine wpAny_bind (wpAny_dictEntries g2 d2 ?_)
  refine wpAny_bind ?_
  rw[<- Array.forIn_toList]
  refine wpAny_forIn_list _ (fun rest b s'=>s'=s/\∀ e ∈ rest,e ∈ es2.toList) _ ?_ ?_ _ _ ⟨U,fun e he=>he⟩
  ·rintro e rest b s' ⟨rfl,hr⟩
   have he:=hr e (uk ..)
   rw[l2] at he
   obtain⟨y,hy,rfl⟩:=uK.mp he
   obtain⟨o3,its,n3,q1,q2,q3,q4⟩:=(show IsTupleKey knd s'.heap y.1 y.2.1 from i2 y hy)
   refine wpAny_bind ?_
   show wpAny _ _ (Builtin.Dict.quietEq (.ref y.2.1)) _ _ _
   unfold Builtin.Dict.quietEq
   refine wpAny_bind (wpAny_specialOf (T := "tuple") ⟨o3,q1,q2⟩ F.slot_tuple_eq.lookup (wpAny_pure ?_))
   rw[if_pos (by decide +kernel)]
   have hone:(es2.filter fun x=>x.hash == (entryOfKey (tupleKind knd) y).hash).size=1:=by
    rw[<- Array.length_toList,Array.toList_filter,l2,List.filter_map,um]
    exact qO (fun x:List K×Addr×Value=>(tupleKind knd).hash x.1) _ y nd hy
   rw[if_neg (by rw[hone]; decide)]
   exact wpAny_pure ⟨U,fun e he=>hr e (uj _ he)⟩
  ·rintro b s' ⟨rfl,_⟩
   refine wpAny_pure ?_
   have hes:es2.isEmpty=false:=by
    cases hh:es2.isEmpty with
    | false=>rfl
    | true=>
     rw[Array.isEmpty_iff] at hh
     rw[hh] at l2; cases l2
   rw[hes,if_pos (show(!false)=true from rfl)]
   refine wpAny_bind (wpAny_updateDictKeysTo g1 d1 ?_ ?_)
   ·refine wpAny_pure (h _ ⟨_,es2,ep1+1,Heap.get?_update_self _ g1 (Obj.isFreed_of_dict (Obj.data_mapDictKeys d1 _)),x1.mapDictKeys _,Obj.data_mapDictKeys d1 _,l2,fun y hy=>?_,n2⟩ (Heap.SameBut.update _ _ _))
    obtain⟨o3,its,n3,q1,q2,q3,q4⟩:=(show IsTupleKey knd s'.heap y.1 y.2.1 from i2 y hy)
    have ne:y.2.1≠d:=fun e=>by rw[e,g1] at q1; cases q1; rw[x1.1] at q2; exact absurd q2 (by decide +kernel)
    exact⟨o3,its,n3,((Heap.SameBut.update s'.heap d _).2 _ ne).trans q1,q2,q3,q4⟩
   ·show es2.size<=_
    rw[<- Array.length_toList,l2,um]
    omega
theorem mh {o:Addr}{xs:List (List K×Addr×Value)}{Q:Value->Shared->Prop} (hs:(o == sysModules)=false) (od:s.heap.DictOfH (tupleKind knd) o xs)
  (nd:(xs.map fun x=>(tupleKind knd).hash x.1).Nodup) (hz:xs.length<=sizeLine) (h:∀ h',h'.DictOfH (tupleKind knd) s.heap.objs.size xs->Heap.SameBut s.heap.objs.size (s.heap.push { cls:=.type "dict",data:=.dict #[] }) h'->Q (.ref s.heap.objs.size) { s with heap:=h' }) :
  wpAny (model prog w) A (call (.type "dict") [.ref o]) Q E s:=by
 refine callType_codes F.kt_called_dict (F.kt_typeCall_dict_1 _) F.entry_dict_init (kt_code_dict_new (Q₁:=fun obj s₁=>obj=.ref s.heap.objs.size/\s₁={ s with heap:=s.heap.push { cls:=.type "dict",data:=.dict #[] } }) _ ⟨U,U⟩) ?_
 rintro obj s₁ ⟨rfl,rfl⟩
 have hne:s.heap.objs.size≠o:=by
  obtain⟨o2,es2,ep2,g2,_⟩:=od
  exact Nat.ne_of_gt (Heap.lt_size g2)
 have keep:∀ b ob,s.heap.get? b=some ob->(s.heap.push { cls:=.type "dict",data:=.dict #[] }).get? b=some ob:=fun b ob e=>Heap.get?_push_of_some _ e
 have dd:(s.heap.push { cls:=.type "dict",data:=.dict #[] }).DictOfH (tupleKind knd) s.heap.objs.size []:=⟨_,#[],0,Heap.get?_push_size _ rfl,⟨U,U,U⟩,U,U,fun _ h=>(nomatch h),List.nodup_nil⟩
 have od':(s.heap.push { cls:=.type "dict",data:=.dict #[] }).DictOfH (tupleKind knd) o xs:=by
  obtain⟨o2,es2,ep2,g2,x2,d2,l2,i2,n2⟩:=od
  refine⟨o2,es2,ep2,keep _ _ g2,x2,d2,l2,fun y hy=>?_,n2⟩
  obtain⟨o3,its,n3,q1,q⟩:=(show IsTupleKey knd s.heap y.1 y.2.1 from i2 y hy)
  exact⟨o3,its,n3,keep _ _ q1,q⟩
 have td:Shared.TypeIs { s with heap:=s.heap.push { cls:=.type "dict",data:=.dict #[] } } (.ref s.heap.objs.size) "dict":=⟨_,Heap.get?_push_size _ rfl,U⟩
 have to:Shared.TypeIs { s with heap:=s.heap.push { cls:=.type "dict",data:=.dict #[] } } (.ref o) "dict":=by
  obtain⟨o2,es2,ep2,g2,x2,_⟩:=od'
  exact⟨o2,g2,x2.1⟩
 refine⟨td,F.args_dict_init_2 _ _,?_⟩
 unfold Builtin.«dict.__init__»
 refine wpAny_bind ?_
 unfold Builtin.Dict.selfAndRest
 refine wpAny_bind (wpAny_notOrdered_dict td ?_)
 show wpAny _ _ (Builtin.Dict.addrOf (.ref s.heap.objs.size) >>= _) _ _ _
 refine wpAny_bind (wpAny_of_eq (a:=s.heap.objs.size) rfl (wpAny_pure ?_))
 show wpAny _ _ (Builtin.Dict.updateFrom "dict.__init__" s.heap.objs.size (.ref o) [] .none) _ _ _
 unfold Builtin.Dict.updateFrom
 refine wpAny_bind (wpAny_typeOf to ?_)
 rw[if_neg (by decide +kernel)]
 refine wpAny_bind ?_
 unfold Builtin.Dict.merge
 refine wpAny_bind ?_
 unfold Builtin.Dict.readDirectly
 refine wpAny_bind (wpAny_isInstance to isSubtype_dict_dict ?_)
 rw[if_neg (by decide)]
 refine wpAny_bind (wpAny_specialOf to F.slot_dict_iter.lookup (wpAny_pure ?_))
 rw[if_pos (by decide +kernel)]
 refine wpAny_bind (wpAny_of_eq (a:=o) rfl ?_)
 refine kY (knd:=knd) hne hs dd od' nd hz fun h' dd' sb=>?_
 refine wpAny_bind (wpAny_of_eq (a:=()) rfl ?_)
 exact wpAny_pure ⟨U,h h' dd' sb⟩
end
theorem dH {α β:Type} (f:α->β):∀ {l:List α},l.Nodup->(∀ a ∈ l,∀ b ∈ l,f a=f b->a=b)->(l.map f).Nodup
 | [],_,_=>List.nodup_nil
 | x::l,n,h=>by
  rw[List.nodup_cons] at n
  rw[uH,List.nodup_cons]
  refine⟨fun m=>?_,dH f n.2 (fun a ha b hb=>h a (uj _ ha) b (uj _ hb))⟩
  obtain⟨y,hy,e⟩:=uK.mp m
  exact n.1 (h y (uj _ hy) x (uk ..) e ▸ hy)
noncomputable abbrev hV (P:Program) (w:World) (k:List Key):Int:=(tupleKind (aS P w)).hash k
section
variable {X:Cx}
theorem dU:cy X (.type "dict") (fun xs H Q=>∃ p kvs,xs=[.ref p]/\Rd H p (.dK kvs)/\∀ l,H l=none->Q (.ref l) (upd H l (.dK kvs))):=by
 intro pins s σ H xs us Q I r h
 obtain⟨p,kvs,rfl,hp,q⟩:=h
 obtain⟨u,rfl,ru⟩:=cL r
 cases (show u=Value.ref p from ru)
 exact oE I hp fun l s' hl I'=>⟨.ref l,_,I',U,q l hl⟩
theorem jV:cy X (.type "dict") (fun xs H Q=>∃ p kvs,xs=[.ref p]/\Rd H p (.dT kvs)/\(∀ k1 ∈ kvs.map (·.1),∀ k2 ∈ kvs.map (·.1),hV X.prog X.w k1=hV X.prog X.w k2->k1=k2)/\∀ l,H l=none->Q (.ref l) (upd H l (.dT kvs))):=by
 intro pins s σ H xs us Q I r h
 obtain⟨p,kvs,rfl,hp,hi,q⟩:=h
 obtain⟨u,rfl,ru⟩:=cL r
 cases (show u=Value.ref p from ru)
 obtain⟨z,hd,xs,rel,dd⟩:=fB I.hok hp
 have ek:xs.map (·.1)=kvs.map (·.1):=by
  clear dd z hi hp q
  induction rel with
  | nil=>rfl
  | cons a b ih=>rw[uH,uH,ih,a.1]
 have el:xs.length=kvs.length:=by have:=congrArg List.length ek; rwa [um,um] at this
 have nd:(xs.map fun x=>(tupleKind (aS X.prog X.w)).hash x.1).Nodup:=by
  obtain⟨_,_,_,_,_,_,_,_,n2⟩:=id dd
  have e:(xs.map fun x=>(tupleKind (aS X.prog X.w)).hash x.1)=(xs.map (·.1)).map (hV X.prog X.w):=by rw[uQ]; rfl
  rw[e]
  rw[ek] at n2 ⊢
  exact dH _ n2 hi
 refine mh (knd:=aS X.prog X.w) hd dd nd (by omega) fun h' dd' sb=>?_
 obtain⟨o,es,ep,g1,g2,g3,g4,g5,g6⟩:=dd'
 refine⟨.ref s.heap.objs.size,_,I.laid (a:=s.heap.objs.size) (o:=.dT kvs) (t':=s.toks) (fun b q hq=>?_) (Nat.le_refl _) ?_,U,q _ (I.hok.fresh (Nat.le_refl _))⟩
 ·exact(sb.2 b (Nat.ne_of_lt (Heap.lt_size hq))).trans (Heap.get?_push_of_some _ hq)
 ·refine⟨z,beq_eq_false_iff_ne.mpr (Ne.symm (Nat.ne_of_lt I.big)),xs,?_,o,es,ep,g1,g2,g3,g4,g6⟩
  refine rel.keeps fun b ys hb=>?_
  rw[aM (fun e=>by rw[e,I.hok.fresh (Nat.le_refl _)] at hb; cases hb)]
  exact hb
end
mutual
noncomputable def DV (K:PySem.W.Frag) (H:Hp):PyData->V->Prop
 | .none,v=>v=.non
 | .bool b,v=>v=.bl b
 | .int i,v=>v=.int i
 | .str x,v=>v=.str x
 | .list ds,v=>∃ (a:Addr) (xs:List V),v=.ref a/\SqL K H a xs/\DVs K H ds xs
 | .tuple ds,v=>∃ (a:Addr) (xs:List V),v=.ref a/\SqT K H a xs/\DVs K H ds xs
 | .dict _,_=>False
noncomputable def DVs (K:PySem.W.Frag) (H:Hp):List PyData->List V->Prop
 | [],xs=>xs=[]
 | d::ds,xs=>∃ v r,xs=v::r/\DV K H d v/\DVs K H ds r
end
section
variable {X:Cx}{pins:List (Addr×Obj)}{s:Shared}{σ:St}{H:Hp}
mutual
theorem DV.reads (I:Inv X pins σ H s):∀ (d:PyData) (v:V) (u:Value),DV X.K H d v->RelV v u->∃ as,Reads s.heap u d as
 | .none,v,u,h,r=>by
  unfold DV at h; subst h; cases (show u=Value.none from r); exact⟨[],.none⟩
 | .bool b,v,u,h,r=>by
  unfold DV at h; subst h; cases (show u=Value.bool b from r); exact⟨[],.bool b⟩
 | .int i,v,u,h,r=>by
  unfold DV at h; subst h; obtain⟨t,e⟩:=(show ∃ t,u=Value.int i t from r); subst e; exact⟨[],.int i t⟩
 | .str x,v,u,h,r=>by
  unfold DV at h; subst h; obtain⟨t,e⟩:=(show ∃ t,u=Value.str x t from r); subst e; exact⟨[],.str x t⟩
 | .list ds,v,u,h,r=>by
  unfold DV at h
  obtain⟨a,xs,rfl,hs,hd⟩:=h
  cases (show u=Value.ref a from r)
  obtain⟨its,r2,⟨o,n,e,c,d,dd⟩,hz⟩:=I.list hs
  obtain⟨as,ra⟩:=DVs.reads I ds xs its hd r2
  exact⟨a::as,.list e c dd (by simpa using ra)⟩
 | .tuple ds,v,u,h,r=>by
  unfold DV at h
  obtain⟨a,xs,rfl,hs,hd⟩:=h
  cases (show u=Value.ref a from r)
  obtain⟨its,r2,⟨o,e,c,n,dd⟩,hz⟩:=I.tuple hs
  obtain⟨as,ra⟩:=DVs.reads I ds xs its hd r2
  exact⟨as,.tuple e c dd (by simpa using ra)⟩
 | .dict _,v,u,h,r=>by unfold DV at h; exact h.elim
theorem DVs.reads (I:Inv X pins σ H s):∀ (ds:List PyData) (xs:List V) (us:List Value),DVs X.K H ds xs->Vals xs us->∃ as,ReadsAll s.heap us ds as
 | [],xs,us,h,r=>by
  unfold DVs at h; subst h; cases r; exact⟨[],.nil⟩
 | d::ds,xs,us,h,r=>by
  unfold DVs at h
  obtain⟨v,r',rfl,h1,h2⟩:=h
  cases r with
  | cons ru rs=>
   obtain⟨as,ra⟩:=DV.reads I d v _ h1 ru
   obtain⟨bs,rb⟩:=DVs.reads I ds r' _ h2 rs
   exact⟨as++bs,.cons ra rb⟩
end
noncomputable def rDat (K:PySem.W.Frag) (neg:Bool):R2:=fun x y H Q=>∃ (d e:PyData),DV K H d x/\DV K H e y/\SeqAt.shaped d=true/\SeqAt.shaped e=true/\Q (.bl (if neg then !PyData.eqv d e else PyData.eqv d e)) H
theorem nt {X:Cx} (hu:X.A.units+64<cLine):OpR X (compareOp .NotEq) (rDat X.K true):=by
 intro pins s σ H x y u v Q I rx ry h
 obtain⟨d,e,hd,he,sd,se,q⟩:=h
 obtain⟨as,ra⟩:=DV.reads I d x u hd rx
 obtain⟨bs,rb⟩:=DV.reads I e y v he ry
 exact ne_dataH ra rb sd se hu (aQ I q (by simp))
end
theorem bL {α:Type} (f:α->PyData):∀ (l:List α),(∀ x ∈ l,(f x).canLay0=true)->PyData.canLayAll0 (l.map f)=true
 | [],_=>rfl
 | x::l,h=>by
  rw[uH,PyData.canLayAll0,h x uk,bL f l fun y hy=>h y (uj _ hy)]; rfl
theorem bZ {α:Type} (f:α->PyData) (n:Nat):∀ (l:List α),(∀ x ∈ l,(f x).depth<=n)->PyData.depthAll (l.map f)<=n
 | [],_=>Nat.zero_le _
 | x::l,h=>by
  rw[uH,PyData.depthAll]
  exact Nat.max_le.mpr ⟨h x uk,bZ f n l fun y hy=>h y (uj _ hy)⟩
theorem DVs.map {α:Type}{K:PySem.W.Frag}{H:Hp} (f:α->PyData) (g:α->V):∀ (l:List α),(∀ x ∈ l,DV K H (f x) (g x))->DVs K H (l.map f) (l.map g)
 | [],_=>by show DVs K H [] []; unfold DVs; rfl
 | x::l,h=>by
  show DVs K H (f x::l.map f) (g x::l.map g)
  unfold DVs
  exact⟨_,_,U,h x uk,DVs.map f g l fun y hy=>h y (uj _ hy)⟩
theorem gS {d:PyData} (h1:d.canLay0=true) (h2:d.depth<=64):SeqAt.shaped d=true:=by unfold SeqAt.shaped; rw[h1,decide_eq_true h2]; rfl
noncomputable def CXr (P:Program) (w:World):CXT:=fun outer H s E e s'=>∃ (a:Addr) (C a0:Value) (H':Hp) (B:Heap),e=.ref a/\Heap.FlyingW B outer a C a0 s'.heap/\s'.os=s.os/\AllBare s'.gens/\Un (frs outer) [] H H' s.heap s'.heap /\
 (∀ b o,s.heap.get? b=some o->H b=none->b ∉ frs outer->B.get? b=some o)/\(∀ b o,s.heap.get? b=some o->b ∉ frs outer->∃ o',B.get? b=some o')/\HOk P w H' B/\E C (some a) H'
noncomputable abbrev TJ:=Str->St->Hp->VK->Prop
end L2
set_option Elab.async false
set_option linter.all false
set_option maxRecDepth 100000
namespace L2
open PySem PySem.Spec PyProof.Rows PySem.Calls
noncomputable def ExcAt (x D:Addr) (h:Heap):Prop:=∃ o vs,h.get? x=some o/\o.cls=.ref D/\o.data=.fields vs
structure ExcCls (K:PySem.W.Frag) (D:Addr):Prop where
 ga:W.findIn K (.ref D) "__getattribute__" = some (some (.builtin "BaseException.__getattribute__"))
 gh:W.findIn K (.ref D) "__getattr__" = some none
 be:PySem.W.mroIn K D (.type "BaseException")=some true
 hd:W.hasDictIn K D=true
 at_:W.findIn K (.ref D) "__class__" = some (some (.builtin "object.__class__"))
 gt:PySem.W.specialIn K (.builtin "object.__class__") "__get__" = some (some (.builtin "getset_descriptor.__get__"))
 tk:PySem.W.takesIn K (.builtin "object.__class__")=some true
 ob:PySem.W.mroIn K D (.type "object")=some true
section
variable {K:PySem.W.Frag}{x D:Addr}
open PySem.W Builtin Builtin.ObjectAttr in
open PySem.W Builtin Builtin.ObjectAttr Builtin.Getset_descriptor in
open PySem.W Builtin Builtin.ObjectAttr in
open PySem.W Builtin Builtin.ObjectAttr in
open PySem.W Builtin Builtin.ObjectAttr in
end
end L2
set_option Elab.async false
set_option linter.all false
set_option maxRecDepth 100000
namespace L2
open PySem PySem.Spec PyProof.Rows
structure Flt (P:Program) (w:World) (outer:List Env) (H:Hp) (s:Shared) (H':Hp) (B h:Heap):Prop where
 stays:B.StaysIn h
 frames:h.FunFrames B outer
 slot:∀ b o,s.heap.get? b=some o->H b=none->b ∈ frs outer->∃ sl,h.get? b=some { o with slots:=sl }
 free:∀ b o,s.heap.get? b=some o->H b=none->H' b=none
 tups:∀ b xs,H b=some (.tup xs)->H' b=some (.tup xs)
 frzs:∀ b o u,H b=some (.frz o u)->H' b=some (.frz o u)
 tbls:∀ b ps,H b=some (.tbl ps)->∃ more,H' b=some (.tbl (ps++more))
 kb:∀ b o,s.heap.get? b=some o->H b=none->b ∉ frs outer->B.get? b=some o
 tb:∀ b o,s.heap.get? b=some o->b ∉ frs outer->∃ o',B.get? b=some o'
 hok:HOk P w H' B
structure RoomQ (k:Nat) (A:Around):Prop where
 dp:A.depth+3*k+5<recursionLimit
 un:A.units+16*k+200<cLine
structure FnOkQ (P:Program) (w:World) (K:PySem.W.Frag) (mg:Str->Option Value) (base:Heap) (k:Nat) (f:Addr) (fd:FuncData) (ps:List Str) (sp:Sp):Prop where
 len:∀ vs H Q E,sp vs H Q E->vs.length=ps.length
 run:∀ (A:Around) (outer:List Env) (s:Shared) (H:Hp) (args:Args) (us:List Value) (vs:List V) (Q:VK) (E:XK),RoomQ k A->Env0 P w K mg base A outer s H->BindsTo s fd args (ps.zip us)->Vals vs us->sp vs H Q E ->
  codeAny (model P w) A (.call (.ref f) args) (CR CX0 outer P w H s Q E) s
structure Deed (P:Program) (w:World) (K:PySem.W.Frag) (mg:Str->Option Value) (base:Heap) (k:Nat) (s:Shared) (H:Hp) (outer:List Env) (g:Addr) (sp:Hp->VK->XK->Prop):Prop where
 fn:PySem.W.FnAt g s.heap
 un:H g=none
 nf:g ∉ frs outer
 run:∀ (A':Around) (outer':List Env) (s':Shared) (H':Hp) (Q:VK) (E:XK),Room k A'->Env0 P w K mg base A' outer' s' H' ->
  (∀ b o,s.heap.get? b=some o->H b=none->b ∉ frs outer->s'.heap.get? b=some o/\H' b=none)->(∀ b o u,H b=some (.frz o u)->H' b=some (.frz o u))->sp H' Q E->codeAny (model P w) A' (.call (.ref g) ⟨[],[]⟩) (CR (CXr P w) outer' P w H' s' Q E) s'
structure LamAt (h:Heap) (H:Hp) (fs:List Addr) (N:List Str) (σ:St) (qual:Str) (params:Arguments) (body:Expr) (scope:Scope) (cl:List (Str×Addr)) (g c':Addr):Prop where
 fn:∃ pm ctv,h.get? g=some (PySem.W.kla_obj "<lambda>" qual params body scope cl pm c' ctv)
 gn:H g=none/\g ∉ fs
 code:∃ o vs t,H c'=some (.frz o (.own 0))/\o.data=.fields vs/\vs[1]?=some (.str qual t)
 cells:∀ x c,cl.lookup x=some c->(∃ v,h.IsCell c v)/\H c=none/\c ∉ fs
 vals:∀ (i:Nat) (x:Str) (v:V),N[i]?=some x->σ[i]?=some (some v)->∃ u c,RelV v u/\cl.lookup x=some c/\h.IsCell c (some u)
structure RefOk (P:Program) (w:World) (K:PySem.W.Frag) (mg:Str->Option Value) (base:Heap) (k kd:Nat) (f:Addr) (rs:(Hp->VK->XK->Prop)->Hp->VK->Prop):Prop where
 run:∀ (A:Around) (outer:List Env) (s:Shared) (H:Hp) (g:Addr) (spD:Hp->VK->XK->Prop) (Q:VK),Room k A->Env0 P w K mg base A outer s H->Deed P w K mg base kd s H outer g spD->rs spD H Q ->
  codeAny (model P w) A (.call (.ref f) ⟨[.ref g],[]⟩) (CR CX0 outer P w H s Q E0) s
noncomputable def cc (i:Int):Prop:=i.natAbs.log2<1920
theorem mQ {i:Int} (h:i.natAbs<2 ^ 1000):cc i:=by
 unfold cc
 by_cases h0:i.natAbs=0
 ·rw[h0]; decide
 ·have:=(Nat.log2_lt h0).mpr (show i.natAbs<2 ^ 1000 from h)
  omega
noncomputable def Asc (n:Nat) (y:Str):Prop:=y.length<=n/\∀ c ∈ y.cps.toList,c<128
section
variable {X:Cx}
theorem fitOf {n:Nat} (h:n<=sizeLine):Builtin.Str.tooLong n=false:=by unfold Builtin.Str.tooLong; exact decide_eq_false (by omega)
theorem j7:∀ {ys:List Str}{us:List Value},Vals (ys.map V.str) us->∃ l:List (Str×Tok),us=strValues l/\l.map (·.1)=ys
 | [],_,.nil=>⟨[],U,U⟩
 | y::ys,_,.cons r t=>by
  obtain⟨k,e⟩:=(show ∃ k,_=Value.str y k from r)
  subst e
  obtain⟨l,rfl,rfl⟩:=j7 t
  exact⟨(y,k)::l,U,U⟩
noncomputable def rJoin (K:PySem.W.Frag):V->List V->Hp->VK->Prop:=fun x vs H Q=>∃ (z:Str) (a:Addr) (ys:List Str),x=.str z/\vs=[.ref a]/\SqL K H a (ys.map V.str)/\JoinOk z ys=true/\Q (.str (Txt.join z ys)) H
theorem kH:MtM X "str.join" (rJoin X.K):=by
 intro pins s σ H x vs v us Q I rx rv h
 obtain⟨z,a,ys,rfl,rfl,ha,hok,q⟩:=h
 obtain⟨t,rfl⟩:=rx
 obtain⟨u,rfl,ru⟩:=rv.one
 cases ru
 obtain⟨its,r2,pl,hz⟩:=I.list ha
 obtain⟨l,rfl,rfl⟩:=j7 r2
 exact SC.join (l:=l) pl.isList rfl hok fun t' k=>⟨.str (Txt.join z (l.map (·.1))),H,I.tok _,⟨t',U⟩,q⟩
end
theorem kN (k M:Nat):∀ (l:List Str) (acc:Nat),(∀ y ∈ l,y.length<=M)->l.foldl (fun a y=>a+y.length+k) acc<=acc+l.length*(M+k)
 | [],acc,_=>by simp
 | y::l,acc,h=>by
  have h1:=h y uk
  have h2:=kN k M l (acc+y.length+k) fun z hz=>h z (uj _ hz)
  rw[List.foldl_cons,uv,Nat.succ_mul]
  omega
theorem nX {sep:Str}{ys:List Str}{M:Nat} (h:∀ y ∈ ys,y.length<=M) (hs:ys.length*(M+sep.length)<=sizeLine):JoinOk sep ys=true:=by
 unfold JoinOk
 rw[List.foldl_toArray]
 have:=kN sep.length M ys 0 h
 rw[fitOf (by omega)]
 rfl
noncomputable def tCut (t:TS):TS:=fun D σ H=>∃ Pn:St->Hp->Prop,t { D with nx:=Pn } σ H/\∀ σ' H',Pn σ' H'->D.nx σ' H'
theorem cf {X:Cx}{st:Stmt}{t:TS} (h:PS X st t):PS X st (tCut t):=by
 intro pins s σ H D I ⟨Pn,ht,hn⟩
 refine thn (h pins s σ H { D with nx:=Pn } I ht) fun f s1 q=>?_
 cases f with
 | next=>obtain⟨σ',H',I',q⟩:=q; exact⟨σ',H',I',hn _ _ q⟩
 | ret v=>exact q
 | brk=>exact q
 | cont=>exact q
structure Tb (L:Kn) (Pt:Addr) (qual:Str):Prop where
 ex:∃ ps:Array Value,(Pt,HO.tbl ps) ∈ L/\TriplesOk ps.toList/\∀ pos,codeAmong pos ps.toList=none∨∃ (c':Addr) (oc:Obj) (vs:Array Value) (t:Tok),codeAmong pos ps.toList=some (.ref c')/\(c',HO.frz oc (.own 0)) ∈ L/\oc.data=.fields vs/\vs[1]?=some (.str qual t)
section
variable {X:Cx}
noncomputable def rB:V->List V->Hp->VK->Prop:=fun x vs H Q=>∃ (z y:Str),x=.str z/\vs=[.str y]/\(y.length == 0)=false/\z.length<=sizeLine/\(Txt.split z y).length<=sizeLine/\∀ l,H l=none->Q (.ref l) (upd H l (.lst ((Txt.split z y).map V.str)))
theorem j4 : ∀ (l : List (Str×Tok)), Vals ((l.map (·.1)).map V.str) (strValues l)
  | []=>.nil
  | (_, k) :: l => .cons ⟨k, rfl⟩ (j4 l)
theorem jg:MtM X "str.split" rB:=by
 intro pins s σ H x vs v us Q I rx rv h
 obtain⟨z,y,rfl,rfl,hy,hz,hn,q⟩:=h
 obtain⟨t,rfl⟩:=rx
 obtain⟨u,rfl,ru⟩:=rv.one
 obtain⟨u,rfl⟩:=ru
 have fin:∀ (l:List (Str×Tok)) (k:Nat),s.toks<=k->l.map (·.1)=Txt.split z y->EP X pins σ Q (.ref s.heap.objs.size) { s with toks:=k,heap:=s.heap.push { cls:=.type "list",data:=.seq (strValues l).toArray } }:=fun l k hk e=>by
  rw[<- e] at hn q
  exact⟨.ref s.heap.objs.size,_,I.laid (t':=k) (fun b o e=>Heap.get?_push_of_some _ e) (Nat.le_refl _) (show ObjOk X.prog X.w _ _ _ (.lst ((l.map (·.1)).map V.str)) from⟨by rw[um]; exact hn,strValues l,0,j4 l,Heap.get?_push_size _ rfl⟩),U,q _ (I.hok.fresh (Nat.le_refl _))⟩
 cases h1:(decide (z.length<y.length) || decide (Builtin.Str.strKind z<Builtin.Str.strKind y))
 ·cases hf:(Builtin.Str.occurrences z y 0 z.length (z.length+1)).isEmpty
  ·have e:Txt.split z y=Builtin.Str.partsBetween z (Builtin.Str.occurrences z y 0 z.length (z.length+1)) y.length:=(if_neg (ne_true_of_eq_false h1)).trans (if_neg (ne_true_of_eq_false hf))
   refine call_meets F.slot_str_split (typeIs_str _ _ _) F.entry_str_split (F.args_str_split_2 _ _) (meets_str_split_sep z y t u h1 hy hf hz (by rw[<- e]; exact hn)) ?_
   rw[strsFrom_eq]
   exact fin (numbered s.toks _) _ (Nat.le_add_right _ _) ((numbered_texts _ _).trans e.symm)
  ·exact call_meets F.slot_str_split (typeIs_str _ _ _) F.entry_str_split (F.args_str_split_2 _ _) (meets_str_split_not_found z y t u h1 hy hf)
    (fin [(z,t)] s.toks (Nat.le_refl _) ((if_neg (ne_true_of_eq_false h1)).trans (if_pos hf)).symm)
 ·exact call_meets F.slot_str_split (typeIs_str _ _ _) F.entry_str_split (F.args_str_split_2 _ _) (meets_str_split_cannot_occur z y t u h1)
   (fin [(z,t)] s.toks (Nat.le_refl _) (if_pos h1).symm)
theorem iR:cy X (.type "int") (fun xs H Q=>∃ n:Int,xs=[.str (toString n)]/\0<=n/\n<10 ^ 10/\Q (.int n) H):=by
 intro pins s σ H xs us Q I r h
 obtain⟨n,rfl,h0,h1,q⟩:=h
 obtain⟨u,rfl,t,rfl⟩:=cL r
 exact PySem.W.KIN.call_num h0 h1 ⟨.int n,H,I.tok _,⟨_,U⟩,q⟩
end
noncomputable def Its (z:Str):It:=⟨fun i _=>i<z.cps.size,fun i H x H'=>H'=H/\∃ c,z.cps[i]?=some c/\x=.str ⟨#[c]⟩,fun i _=>z.cps.size<=i⟩
variable{K:PySem.W.Frag}
theorem mE {P:Program}{w:World}{tg:Expr} (it:Addr) (z:Str) (t:Tok):Turn P w K tg (Its z) [it] it (fun i h=>h.IsStrIter it "str_ascii_iterator" z t i) where
 mem:=by simp
 obj:=fun i h st b hb=>by
  have e:b=it:=by simpa using hb
  subst e
  obtain⟨o,e,c,d⟩:=st
  exact⟨o,e,fun v z=>by rw[d] at z; cases z⟩
 keep:=fun i h h' st k=>by obtain⟨o,e,r⟩:=st; exact⟨o,k it (by simp) o e,r⟩
 item:=by
  intro X hP hw hK hc i pins s σ H E I hf st hg
  subst hP hw hK
  obtain⟨f0,f1,f2,f3,f4,f5⟩:=hf it (by simp)
  have hx:z.cps[i]?=some (z.cps[i]'hg):=Array.getElem?_eq_getElem hg
  refine wpAny_pyNext_ascii_item st hx fun h' st' sb=>?_
  have I1:Inv X pins σ H { s with heap:=h',toks:=s.toks+1 }:=I.turned (t':=s.toks+1) (fun b o hb e=>(sb.2 b hb).trans e) f0 f1 f3 f4 f5
  obtain⟨o,e,c,d⟩:=id st'
  exact⟨_,U,kM (s:={ s with heap:=h',toks:=s.toks+1 }) e c d (by decide) ⟨.str _,H,I1,⟨_,U⟩,⟨U,_,hx,U⟩,st',fun b hb=>(hf b hb).1⟩⟩
 done:=by
  intro X hP hw hK hc i pins s σ H E I hf st hg
  subst hP hw hK
  obtain⟨f0,f1,f2,f3,f4,f5⟩:=hf it (by simp)
  exact wpAny_pyNext_ascii_end (I.ok.hd hc) st (Array.getElem?_eq_none hg) fun h' eb=>⟨U,I.turned (t':=s.toks) (fun b o hb e=>eb b o hb e) f0 f1 f3 f4 f5⟩
 self:=fun _ _ _ _ _ st h=>wpAny_pyIter_striter_ascii st h
noncomputable def iStr (tl:TE):TI:=fun σ H R=>tl σ H fun x H1=>∃ z,x=.str z/\z.cps.all (· < 128)=true/\R (Its z) H1
theorem rH {X:Cx}{tg:Expr}{l:Expr}{tl:TE} (hl:PE X l tl):PI X tg l (iStr tl):=by
 intro pins s σ H R I h
 refine thn (hl pins s σ H _ I h) fun v s1 ⟨x,H1,I1,r1,q1⟩=>?_
 obtain⟨z,rfl,ha,q⟩:=q1
 obtain⟨t,rfl⟩:=r1
 refine wpAny_pyIter_ascii ha ?_
 refine⟨s1.heap.objs.size,[s1.heap.objs.size],_,_,H1,U,I1.kept (t':=s1.toks) fun b o e=>Heap.get?_push_of_some _ e,mE _ z t,⟨_,Heap.get?_push_size _ rfl,U,U⟩,fun b hb=>?_,q⟩
 have e:b=s1.heap.objs.size:=by simpa using hb
 subst e
 exact I1.fpOk (Nat.le_refl _) (I1.hok.fresh (Nat.le_refl _))
theorem pN {z:Str}{g:TG}{tb:TS}{D:Ends}{σ:St}{H:Hp} (Pv:Nat->St->Hp->Prop) (h0:Pv 0 σ H)
  (hs:∀ i c σ H,z.cps[i]?=some c->Pv i σ H->g (.str ⟨#[c]⟩) σ H fun σ2 H2=>tb { D with nx:=Pv (i+1),ct:=Pv (i+1),bk:=D.nx } σ2 H2) (hd:∀ σ H,Pv z.cps.size σ H->D.nx σ H) :
  ∃ W:Nat->Nat->St->Hp->Prop,(∃ m,W 0 m σ H)/\∀ i m σ H,W i m σ H ->
   ((Its z).stop i H/\D.nx σ H)∨((Its z).go i H/\∃ N:St->Hp->Prop,(∀ σ' H',N σ' H'->∃ m',m'<m/\W (i+1) m' σ' H')/\∀ x H',(Its z).yld i H x H'->g x σ H' fun σ2 H2=>tb { D with nx:=N,ct:=N,bk:=D.nx } σ2 H2):=by
 refine⟨fun i m σ H=>m=z.cps.size - i/\i<=z.cps.size/\Pv i σ H,⟨_,U,Nat.zero_le _,h0⟩,?_⟩
 rintro i m σ H ⟨rfl,hi,p⟩
 by_cases hlt:i<z.cps.size
 ·refine .inr ⟨hlt,Pv (i+1),fun σ' H' p'=>⟨z.cps.size - (i+1),by omega,U,hlt,p'⟩,fun x H' y=>?_⟩
  obtain⟨rfl,c,hc,rfl⟩:=y
  exact hs i c σ H' hc p
 ·have e:i=z.cps.size:=by omega
  subst e
  exact .inl ⟨Nat.le_refl _,hd σ H p⟩
theorem jv {c:Nat}:∀ {l1 l2 r1 r2:List Nat},c ∉ l1->c ∉ l2->l1++c::r1=l2++c::r2->l1=l2/\r1=r2
 | [],[],_,_,_,_,e=>⟨U,(List.cons.inj e).2⟩
 | [],b::_,_,_,_,h2,e=>absurd (uz.mpr (.inl (List.cons.inj e).1)) h2
 | a::_,[],_,_,h1,_,e=>absurd (uz.mpr (.inl (List.cons.inj e).1.symm)) h1
 | a::l1,b::l2,r1,r2,h1,h2,e=>by
  have e1:=(List.cons.inj e).1
  have:=jv (fun m=>h1 (uj _ m)) (fun m=>h2 (uj _ m)) (List.cons.inj e).2
  exact⟨by rw[e1,this.1],this.2⟩
theorem Str.appL (x y:Str):(x++y).cps.toList=x.cps.toList++y.cps.toList:=by
 show(x.cps++y.cps).toList=_
 simp
theorem mK {x y:Str} (h:x.cps.toList=y.cps.toList):x=y:=Str.ext' (Array.toList_inj.mp h)
theorem jn {c:Nat}:∀ {as bs:List Str},as≠[]->bs≠[]->(∀ a ∈ as,c ∉ a.cps.toList)->(∀ b ∈ bs,c ∉ b.cps.toList)->Str.join ⟨#[c]⟩ as=Str.join ⟨#[c]⟩ bs->as=bs
 | [],_,h,_,_,_,_=>absurd rfl h
 | _,[],_,h,_,_,_=>absurd rfl h
 | [a],[b],_,_,_,_,e=>by
  have e:a=b:=e
  rw[e]
 | [a],b::b'::r,_,_,ha,_,e=>by
  have e:a=b++⟨#[c]⟩++Str.join ⟨#[c]⟩ (b'::r):=e
  refine absurd ?_ (ha a uk)
  rw[e,Str.appL,Str.appL]
  simp
 | a::a'::r,[b],_,_,_,hb,e=>by
  have e:a++⟨#[c]⟩++Str.join ⟨#[c]⟩ (a'::r)=b:=e
  refine absurd ?_ (hb b uk)
  rw[<- e,Str.appL,Str.appL]
  simp
 | a::a'::r,b::b'::r',_,_,ha,hb,e=>by
  have e:a++⟨#[c]⟩++Str.join ⟨#[c]⟩ (a'::r)=b++⟨#[c]⟩++Str.join ⟨#[c]⟩ (b'::r'):=e
  have e2:=congrArg (fun x:Str=>x.cps.toList) e
  rw[Str.appL,Str.appL,Str.appL,Str.appL] at e2
  have e3:a.cps.toList++c::(Str.join ⟨#[c]⟩ (a'::r)).cps.toList=b.cps.toList++c::(Str.join ⟨#[c]⟩ (b'::r')).cps.toList:=by simpa using e2
  obtain⟨h1,h2⟩:=jv (ha a uk) (hb b uk) e3
  rw[mK h1,jn (as:=a'::r) (bs:=b'::r') (by simp) (by simp) (fun x hx=>ha x (uj _ hx)) (fun x hx=>hb x (uj _ hx)) (mK h2)]
theorem mM (x y:Str):Txt.split x y≠[]:=by
 unfold Txt.split
 split
 ·simp
 ·split
  ·simp
  ·rw[StrLaws.partsBetween_eq]
   cases Builtin.Str.occurrences x y 0 x.length (x.length+1) <;> simp[StrLaws.partsFrom]
theorem fT {c:Nat}{ys:List Str} (hne:ys≠[]) (hf:∀ y ∈ ys,c ∉ y.cps.toList):Txt.split (Str.join ⟨#[c]⟩ ys) ⟨#[c]⟩=ys :=
 jn (mM _ _) hne (StrLaws.split_free _ c) hf (StrLaws.join_split _ _)
noncomputable def SqB (b:Bool) (K:PySem.W.Frag) (H:Hp) (a:Addr) (xs:List V):Prop:=match b with | true=>SqL K H a xs | false=>SqT K H a xs
noncomputable def ItB (b:Bool) (K:PySem.W.Frag) (a:Addr):It:=match b with | true=>Itl K a | false=>Itt K a
theorem ItB.go {b:Bool}{H:Hp}{a:Addr}{xs:List V}{i:Nat}{x:V} (h:SqB b K H a xs) (e:xs[i]?=some x):(ItB b K a).go i H:=by
 cases b <;> exact⟨xs,x,h,e⟩
theorem ItB.yld {b:Bool}{H H':Hp}{a:Addr}{xs:List V}{i:Nat}{x:V} (y:(ItB b K a).yld i H x H') (h:SqB b K H a xs):H'=H/\xs[i]?=some x:=by
 cases b <;> exact⟨y.1,y.2 xs h⟩
theorem ItB.stop {b:Bool}{H:Hp}{a:Addr}{xs:List V}{i:Nat} (h:SqB b K H a xs) (e:xs.length<=i):(ItB b K a).stop i H:=by
 cases b <;> exact⟨xs,h,e⟩
noncomputable def iSeq (K:PySem.W.Frag) (tl:TE):TI:=fun σ H R=>tl σ H fun x H1=>∃ a b,x=.ref a/\(∃ xs,SqB b K H1 a xs)/\R (ItB b K a) H1
theorem rJ {X:Cx}{tg:Expr}{l:Expr}{tl:TE} (hl:PE X l tl):PI X tg l (iSeq X.K tl):=by
 intro pins s σ H R I h
 refine thn (hl pins s σ H _ I h) fun v s1 ⟨x,H1,I1,r1,q1⟩=>?_
 obtain⟨a,b,e,⟨xs,hq⟩,q⟩:=q1
 subst e
 cases r1
 cases b with
 | true=>
  obtain⟨its,rv,p,hz⟩:=I1.list hq
  refine wpAny_pyIter_list p.isList ?_
  refine⟨s1.heap.objs.size,[s1.heap.objs.size],_,_,H1,U,I1.kept (t':=s1.toks) fun b o e=>Heap.get?_push_of_some _ e,gR a _,⟨_,Heap.get?_push_size _ rfl,U,U⟩,fun b hb=>?_,q⟩
  have e:b=s1.heap.objs.size:=by simpa using hb
  subst e
  exact I1.fpOk (Nat.le_refl _) (I1.hok.fresh (Nat.le_refl _))
 | false=>
  obtain⟨its,rv,p,hz⟩:=I1.tuple hq
  refine wpAny_pyIter_tuple (show s1.heap.IsTuple a its.toArray from p) ?_
  refine⟨s1.heap.objs.size,[s1.heap.objs.size],_,_,H1,U,I1.kept (t':=s1.toks) fun b o e=>Heap.get?_push_of_some _ e,fQ a _,⟨_,Heap.get?_push_size _ rfl,U,U⟩,fun b hb=>?_,q⟩
  have e:b=s1.heap.objs.size:=by simpa using hb
  subst e
  exact I1.fpOk (Nat.le_refl _) (I1.hok.fresh (Nat.le_refl _))
noncomputable def nT (n:Int):Str:=Str.ofString (toString n)
theorem gc (m:Nat):(nT (m:Int)).cps.toList=(Nat.toDigits 10 m).map Char.toNat:=PySem.W.KIN.signs_num m
theorem g8 (m:Nat):∀ c ∈ (nT (m:Int)).cps.toList,48<=c/\c<=57:=fun c hc=>by
 rw[gc] at hc
 obtain⟨ch,hch,e⟩:=uK.mp hc
 have r:=digit_range (Nat.isDigit_of_mem_toDigits (by decide) (by decide) hch)
 rw[<- e]
 exact r
theorem oy (m:Nat):Nat.toDigits 10 m≠[]:=fun e=>by
 have h:=toDigits_len_ge 10 m
 rw[e] at h
 exact absurd h (by decide)
theorem nT_ne (m:Nat):(nT (m:Int)).cps.toList≠[]:=fun e=>by
 rw[gc] at e
 exact oy m (List.map_eq_nil_iff.mp e)
theorem oA (m:Nat):(Nat.toDigits 10 m).head?.map Char.toNat=some 48->m=0:=by
 induction m using Nat.strongRecOn with
 | _ m ih=>
  intro e
  by_cases h:m<10
  ·rw[Nat.toDigits_of_lt_base h] at e
   have:∀ d:Nat,d<10->([Nat.digitChar d].head?.map Char.toNat=some 48)->d=0:=by decide
   exact this m h e
  ·have hm:m % 10<10:=Nat.mod_lt m (by decide)
   have t:Nat.toDigits 10 (m / 10)++Nat.toDigits 10 (m % 10)=Nat.toDigits 10 (10*(m / 10)+m % 10):=Nat.toDigits_append_toDigits (by decide) (by omega) hm
   rw[Nat.div_add_mod] at t
   rw[<- t,List.head?_append,show ∀ (a b:Option Char),a.isSome=true->a.or b=a from fun a b h=>by cases a <;> first | rfl | cases h] at e
   rotate_left
   ·rw[List.isSome_head?]; exact oy _
   have:=ih (m / 10) (by omega) e
   omega
theorem pE {m:Nat}{c:Nat} (h:(nT (m:Int)).cps.toList[0]?=some c) (hc:c=48):m=0:=by
 subst hc
 rw[gc,<- List.head?_eq_getElem?,List.head?_map] at h
 exact oA m h
theorem iB {n:Int} (h0:0<=n) (h1:n<10 ^ 10):(nT n).length<=10:=PySem.W.KT.len_num h0 h1
end L2
set_option Elab.async false
set_option linter.all false
set_option maxRecDepth 100000
namespace L2
open PySem PySem.Spec PyProof.Rows
end L2
set_option Elab.async false
set_option linter.all false
set_option maxRecDepth 100000
namespace L2.So
open PySem PyProof.Rows
section
variable {M:Model}{A:Around}{E:Value->Shared->Prop}{s:Shared}{κ:SortKind}{g:Keyed->Int}{U:Keyed->Prop}
noncomputable def Cmp (M:Model) (A:Around) (s:Shared) (κ:SortKind) (g:Keyed->Int) (U:Keyed->Prop):Prop :=
 ∀ x y,U x->U y->∀ Q:Bool->Prop,Q (decide (g x<g y))->wpAny M A (keyLt' κ x.1 y.1) (fun b s'=>s'=s/\Q b) (fun _ _=>False) s
noncomputable def G (g:Keyed->Int) (xs:Array Keyed) (i:Nat):Int:=(xs[i]?.map g).getD 0
noncomputable def Asc (g:Keyed->Int) (xs:Array Keyed) (lo hi:Nat):Prop:=∀ i j,lo<=i->i<j->j<hi->G g xs i<G g xs j
noncomputable def All (U:Keyed->Prop) (xs:Array Keyed):Prop:=∀ (i:Nat) p,xs[i]?=some p->U p
noncomputable def Dis (g:Keyed->Int) (xs:Array Keyed):Prop:=∀ i j,i<j->j<xs.size->G g xs i≠G g xs j
structure Stt (κ:SortKind) (g:Keyed->Int) (U:Keyed->Prop) (st:SortSt):Prop where
 k:kindOf st=κ
 f:failedOf st=none
 u:All U (arrOf st)
 d:Dis g (arrOf st)
noncomputable def Desc (g:Keyed->Int) (xs:Array Keyed) (lo hi:Nat):Prop:=∀ i j,lo<=i->i<j->j<hi->G g xs j<G g xs i
structure Swp (st st':SortSt) (lo hi:Nat):Prop where
 k:kindOf st'=kindOf st
 p:pendingOf st'=pendingOf st
 m:gallopOf st'=gallopOf st
 f:failedOf st'=failedOf st
 e:(arrOf st').Perm (arrOf st)
 o:∀ k,k<lo∨hi<=k->(arrOf st')[k]?=(arrOf st)[k]?
theorem Swp.size {st st':SortSt}{lo hi:Nat} (h:Swp st st' lo hi):(arrOf st').size=(arrOf st).size:=h.e.size_eq
theorem Swp.trans {a b c:SortSt}{lo hi:Nat} (h:Swp a b lo hi) (h':Swp b c lo hi):Swp a c lo hi:=⟨h'.k.trans h.k,h'.p.trans h.p,h'.m.trans h.m,h'.f.trans h.f,h'.e.trans h.e,fun k hk=>(h'.o k hk).trans (h.o k hk)⟩
structure Sm (st st':SortSt):Prop where
 k:kindOf st'=kindOf st
 a:arrOf st'=arrOf st
 p:pendingOf st'=pendingOf st
 f:failedOf st'=failedOf st
noncomputable def Srt (g:Keyed->Int) (l:List Keyed):Prop:=l.Pairwise fun x y=>g x<g y
structure Mg (g:Keyed->Int) (T O A B:List Keyed):Prop where
 p:(O++(A++B)).Perm T
 a:Srt g (O++A)
 b:Srt g (O++B)
noncomputable def dr (a:Array Keyed) (i:Nat):List Keyed:=a.toList.drop i
noncomputable def Gd (g:Keyed->Int) (T:List Keyed) (R:Array Keyed):Prop:=R.toList.Perm T/\Srt g R.toList
structure MI (g:Keyed->Int) (T:List Keyed) (a b out:Array Keyed) (ia ib:Nat):Prop where
 m:Mg g T out.toList (dr a ia) (dr b ib)
 ha:ia+1<a.size
 hb:ib<b.size
structure Mh (g:Keyed->Int) (T A B O:List Keyed):Prop where
 p:((A++B)++O).Perm T
 a:Srt g (A++O)
 b:Srt g (B++O)
noncomputable def tk (a:Array Keyed) (n:Nat):List Keyed:=a.toList.take n
noncomputable def rv (out:Array Keyed):List Keyed:=out.toList.reverse
structure MHI (g:Keyed->Int) (T:List Keyed) (a b out:Array Keyed) (na nb:Nat):Prop where
 m:Mh g T (tk a na) (tk b nb) (rv out)
 a1:1<=na
 a2:na<=a.size
 b1:2<=nb
 b2:nb<=b.size
end
end L2.So
set_option Elab.async false
set_option linter.all false
set_option maxRecDepth 100000
namespace L2.So
open PySem PyProof.Rows
section
variable {M:Model}{A:Around}{E:Value->Shared->Prop}{s:Shared}{κ:SortKind}{g:Keyed->Int}{U:Keyed->Prop}
structure Fin (st st':SortSt) (g:Keyed->Int):Prop where
 e:(arrOf st').Perm (arrOf st)
 f:failedOf st'=none
 a:Asc g (arrOf st') 0 (arrOf st').size
structure One (st st':SortSt) (g:Keyed->Int) (n1:Nat):Prop where
 k:kindOf st'=kindOf st
 f:failedOf st'=failedOf st
 e:(arrOf st').Perm (arrOf st)
 p:pendingOf st' = #[(0,n1,0)]
 a:Asc g (arrOf st') 0 n1
structure Two (st st':SortSt) (g:Keyed->Int) (n1 pw n2:Nat):Prop where
 k:kindOf st'=kindOf st
 f:failedOf st'=failedOf st
 e:(arrOf st').Perm (arrOf st)
 p:pendingOf st' = #[(0,n1,pw),(n1,n2,0)]
 a:Asc g (arrOf st') 0 n1
 b:Asc g (arrOf st') n1 (n1+n2)
end
end L2.So
set_option Elab.async false
set_option linter.all false
set_option maxRecDepth 100000
namespace L2.So
open PySem PyProof.Rows
section
variable {prog:Program}{w:World}{A:Around}{E:Value->Shared->Prop}{s:Shared}{κ:SortKind}{g:Keyed->Int}{U:Keyed->Prop}
noncomputable def pk (i j:Int):Int:=i*1000000+j
noncomputable def hk (h:Heap) (v:Value):Int:=match v with
 | .ref a=>(match h.get? a with
  | some o=>(match o.data with
   | .seq xs _=>(match xs.toList with
    | [.int i _,.int j _]=>pk i j
    | _=>0)
   | _=>0)
  | none=>0)
 | _=>0
end
end L2.So
namespace L2
open PySem PySem.Spec PyProof.Rows
noncomputable abbrev Pr:=Addr×Int×Int
structure PrOk (K:PySem.W.Frag) (H:Hp) (ps:List Pr):Prop where
 t:∀ z ∈ ps,SqT K H z.1 [.int z.2.1,.int z.2.2]
 b:∀ z ∈ ps,0<=z.2.2/\z.2.2<1000000
 d:(ps.map (·.2)).Nodup
 l:ps.length<128
noncomputable def prV (ps:List Pr):List V:=ps.map fun z=>.ref z.1
end L2
set_option Elab.async false
set_option linter.all false
set_option maxRecDepth 100000
namespace L2.So
open PySem
noncomputable def EA (h:Heap) (d:Addr) (es:Array DictEntry) (ep:Nat):Prop:=∃ o,h.get? d=some o/\o.ExactDict/\o.data=.dict es ep
end L2.So
namespace L2
open PySem PySem.Spec PyProof.Rows
end L2
set_option Elab.async false
set_option linter.all false
set_option maxRecDepth 100000
namespace L2
open PySem PySem.Spec PyProof.Rows
end L2
set_option Elab.async false
set_option linter.all false
set_option maxRecDepth 100000
set_option maxHeartbeats 4000000
namespace P
open PySem L2
noncomputable def top (i:Nat):Stmt:=PySem.Challenge.pw_lazyrails_k28_ends_merged.main.body.getD i (.Pass ⟨0,0,0,0⟩)
noncomputable abbrev qf:Stmt:=top 76
noncomputable abbrev kg:Stmt:=top 60
noncomputable abbrev mV:Stmt:=top 65
noncomputable abbrev mT:Stmt:=top 34
noncomputable abbrev rq:Stmt:=top 50
noncomputable abbrev tL:Stmt:=top 53
noncomputable abbrev mU:Stmt:=top 54
noncomputable abbrev qq:Stmt:=top 51
noncomputable abbrev rp:Stmt:=top 42
noncomputable abbrev tK:Stmt:=top 41
noncomputable abbrev qp:Stmt:=top 40
noncomputable abbrev tR:Stmt:=top 52
noncomputable abbrev kh:Stmt:=top 55
noncomputable abbrev ka:Stmt:=top 56
noncomputable abbrev tF:Stmt:=top 57
noncomputable abbrev tJ:Stmt:=top 58
noncomputable abbrev tE:Stmt:=top 27
noncomputable abbrev tD:Stmt:=top 47
noncomputable abbrev rA:Stmt:=top 43
noncomputable abbrev tw:Stmt:=top 49
noncomputable abbrev qj:Stmt:=top 23
noncomputable abbrev tu:Stmt:=top 48
noncomputable abbrev qo:Stmt:=top 24
noncomputable abbrev fG:Stmt:=top 74
noncomputable abbrev qh:Stmt:=top 73
noncomputable abbrev qd:Stmt:=top 32
noncomputable abbrev sV:Stmt:=top 31
noncomputable abbrev qi:Stmt:=top 28
noncomputable abbrev sU:Stmt:=top 25
noncomputable abbrev tt:Stmt:=top 26
noncomputable abbrev tN:Stmt:=top 29
noncomputable abbrev mY:Stmt:=top 70
noncomputable abbrev qe:Stmt:=top 75
noncomputable abbrev j9:Stmt:=top 17
noncomputable abbrev sS:Stmt:=top 62
noncomputable abbrev j8:Stmt:=top 61
noncomputable abbrev qg:Stmt:=top 63
noncomputable abbrev tq:Stmt:=top 66
noncomputable abbrev mX:Stmt:=top 64
noncomputable abbrev kj:Stmt:=top 72
noncomputable abbrev mW:Stmt:=top 67
noncomputable abbrev ip:Stmt:=top 71
noncomputable abbrev tm:Stmt:=aO (top 35) 0
noncomputable abbrev sT:Stmt:=aO (top 37) 0
noncomputable abbrev tj:Stmt:=aO (top 37) 20
noncomputable abbrev tI:Stmt:=aO (top 37) 19
noncomputable abbrev tH:Stmt:=aO (top 37) 12
noncomputable abbrev qy:Stmt:=aO (top 37) 18
noncomputable abbrev tT:Stmt:=aO (top 37) 25
noncomputable abbrev tS:Stmt:=aO (top 37) 23
noncomputable abbrev qm:Stmt:=aO (top 37) 1
noncomputable abbrev tQ:Stmt:=aO (top 37) 22
noncomputable abbrev tP:Stmt:=aO (top 37) 24
noncomputable abbrev tM:Stmt:=aO (top 37) 2
noncomputable abbrev qx:Stmt:=aO (top 37) 4
noncomputable abbrev tf:Stmt:=aO (top 37) 6
noncomputable abbrev qw:Stmt:=aO (top 37) 3
noncomputable abbrev ql:Stmt:=aO (top 37) 7
noncomputable abbrev tG:Stmt:=aO (top 35) 2
noncomputable abbrev tU:Stmt:=aO (top 35) 5
noncomputable abbrev sZ:Stmt:=aO (top 35) 1
noncomputable abbrev tO:Stmt:=aO (top 37) 11
noncomputable abbrev qv:Stmt:=aO (top 37) 13
noncomputable abbrev qu:Stmt:=aO (top 37) 17
noncomputable abbrev qt:Stmt:=aO (top 37) 14
noncomputable abbrev qr:Stmt:=aO (top 37) 15
noncomputable abbrev qk:Stmt:=aO (top 37) 16
noncomputable abbrev sY:Stmt:=aO (top 37) 9
noncomputable abbrev sW:Stmt:=aO (top 37) 21
set_option genInjectivity false in
set_option genSizeOf false in
structure Adr where
 f_law:Addr
 d_law:FuncData
 v_law:Value
 f_draws:Addr
 d_draws:FuncData
 f_base:Addr
 d_base:FuncData
 f_twin:Addr
 d_twin:FuncData
 f_Jv:Addr
 d_Jv:FuncData
 f_Ja:Addr
 d_Ja:FuncData
 f_rank:Addr
 d_rank:FuncData
 f_J71:Addr
 d_J71:FuncData
 f_Jw:Addr
 d_Jw:FuncData
 f_Jb:Addr
 d_Jb:FuncData
 f_J81:Addr
 d_J81:FuncData
 f_J3:Addr
 d_J3:FuncData
 f_build:Addr
 d_build:FuncData
 f_enter:Addr
 d_enter:FuncData
 f_Jg:Addr
 d_Jg:FuncData
 f_Jc:Addr
 d_Jc:FuncData
 f_Jh:Addr
 d_Jh:FuncData
 f_Ji:Addr
 d_Ji:FuncData
 f_Jj:Addr
 d_Jj:FuncData
 f_Jk:Addr
 d_Jk:FuncData
 f_Jd1:Addr
 d_Jd1:FuncData
 f_Jl:Addr
 d_Jl:FuncData
 f_J91:Addr
 d_J91:FuncData
 f_lines:Addr
 d_lines:FuncData
 f_Jh1:Addr
 d_Jh1:FuncData
 f_run:Addr
 d_run:FuncData
 f_Jx:Addr
 d_Jx:FuncData
 f_Je1:Addr
 d_Je1:FuncData
 f_Jy:Addr
 d_Jy:FuncData
 f_Jm:Addr
 d_Jm:FuncData
 f_J8:Addr
 d_J8:FuncData
 f_Jf1:Addr
 d_Jf1:FuncData
 f_own:Addr
 d_own:FuncData
 f_merge:Addr
 d_merge:FuncData
 f_is:Addr
 d_is:FuncData
 f_whole:Addr
 d_whole:FuncData
 f_Ji1:Addr
 d_Ji1:FuncData
 f_Jn:Addr
 d_Jn:FuncData
 f_Jj1:Addr
 d_Jj1:FuncData
 f_Jg1:Addr
 d_Jg1:FuncData
 f_Jo:Addr
 d_Jo:FuncData
 f_sent:Addr
 d_sent:FuncData
 f_Jp:Addr
 d_Jp:FuncData
 f_Jz:Addr
 d_Jz:FuncData
 f_Jq:Addr
 d_Jq:FuncData
 f_Jd:Addr
 d_Jd:FuncData
 f_Je:Addr
 d_Je:FuncData
 f_J01:Addr
 d_J01:FuncData
 f_J1:Addr
 d_J1:FuncData
 f_J2:Addr
 d_J2:FuncData
 f_Ja1:Addr
 d_Ja1:FuncData
 v_Ja1:Value
 f_J5:Addr
 d_J5:FuncData
 f_J6:Addr
 d_J6:FuncData
 f_J9:Addr
 d_J9:FuncData
 v_J9:Value
 f_J11:Addr
 d_J11:FuncData
 f_Jr:Addr
 d_Jr:FuncData
 f_J21:Addr
 d_J21:FuncData
 f_Jb1:Addr
 d_Jb1:FuncData
 f_Jf:Addr
 d_Jf:FuncData
 f_J0:Addr
 d_J0:FuncData
 f_Js:Addr
 d_Js:FuncData
 f_J7:Addr
 d_J7:FuncData
 f_J31:Addr
 d_J31:FuncData
 f_J41:Addr
 d_J41:FuncData
 f_J51:Addr
 d_J51:FuncData
 f_J61:Addr
 d_J61:FuncData
 f_Jc1:Addr
 d_Jc1:FuncData
 f_Jt:Addr
 d_Jt:FuncData
 f_Ju:Addr
 d_Ju:FuncData
 c_Shelf:Addr
 c_Yard:Addr
 u_ENDS:Value
 u_FIGURES:Value
 u_GROUPS:Value
 u_LAST_NOTE:Value
 u_POINTS:Value
 u_SIZES:Value
 u_STEM:Value
structure Txt (K:PySem.W.Frag) (mg:Str->Option Value) (t:Adr):Prop where
 F_law:FunG K "law" "law" qf t.v_law t.f_law t.d_law
 F_draws:FunG K "_law_draws" "_law_draws" kg .none t.f_draws t.d_draws
 F_base:FunG K "_law_base" "_law_base" mV .none t.f_base t.d_base
 F_twin:FunG K "twin" "twin" mT .none t.f_twin t.d_twin
 F_Jv:FunG K "read_yard" "read_yard" rq .none t.f_Jv t.d_Jv
 F_Ja:FunG K "check_order" "check_order" tL .none t.f_Ja t.d_Ja
 F_rank:FunG K "rank" "rank" mU .none t.f_rank t.d_rank
 F_J71:FunG K "read_row" "read_row" qq .none t.f_J71 t.d_J71
 F_Jw:FunG K "read_line" "read_line" rp .none t.f_Jw t.d_Jw
 F_Jb:FunG K "read_number" "read_number" tK .none t.f_Jb t.d_Jb
 F_J81:FunG K "is_plain" "is_plain" qp .none t.f_J81 t.d_J81
 F_J3:FunG K "has_its_numbers" "has_its_numbers" tR .none t.f_J3 t.d_J3
 F_build:FunG K "build" "build" kh .none t.f_build t.d_build
 F_enter:FunG K "enter" "enter" ka .none t.f_enter t.d_enter
 F_Jg:FunG K "enter_link" "enter_link" tF .none t.f_Jg t.d_Jg
 F_Jc:FunG K "enter_piece" "enter_piece" tJ .none t.f_Jc t.d_Jc
 F_Jh:FunG K "check_note" "check_note" tE .none t.f_Jh t.d_Jh
 F_Ji:FunG K "write_yard" "write_yard" tD .none t.f_Ji t.d_Ji
 F_Jj:FunG K "write_line" "write_line" rA .none t.f_Jj t.d_Jj
 F_Jk:FunG K "link_lines" "link_lines" tw .none t.f_Jk t.d_Jk
 F_Jd1:FunG K "ends_of" "ends_of" qj .none t.f_Jd1 t.d_Jd1
 F_Jl:FunG K "piece_line" "piece_line" tu .none t.f_Jl t.d_Jl
 F_J91:FunG K "is_point" "is_point" qo .none t.f_J91 t.d_J91
 F_lines:FunG K "_law_lines" "_law_lines" fG .none t.f_lines t.d_lines
 F_Jh1:FunG K "_law_target" "_law_target" qh .none t.f_Jh1 t.d_Jh1
 F_run:FunG K "run" "run" qd .none t.f_run t.d_run
 F_Jx:FunG K "next_step" "next_step" sV .none t.f_Jx t.d_Jx
 F_Je1:FunG K "passage" "passage" qi .none t.f_Je1 t.d_Je1
 F_Jy:FunG K "check_end" "check_end" sU .none t.f_Jy t.d_Jy
 F_Jm:FunG K "check_side" "check_side" tt .none t.f_Jm t.d_Jm
 F_J8:FunG K "point_passage" "point_passage" tN .none t.f_J8 t.d_J8
 F_Jf1:FunG K "_law_flipped" "_law_flipped" mY .none t.f_Jf1 t.d_Jf1
 F_own:FunG K "_law_own" "_law_own" qe .none t.f_own t.d_own
 F_merge:FunG K "merge" "merge" j9 .none t.f_merge t.d_merge
 F_is:FunG K "_law_is" "_law_is" sS .none t.f_is t.d_is
 F_whole:FunG K "_law_whole" "_law_whole" j8 .none t.f_whole t.d_whole
 F_Ji1:FunG K "_law_is_end" "_law_is_end" qg .none t.f_Ji1 t.d_Ji1
 F_Jn:FunG K "_law_trail_gone" "_law_trail_gone" tq .none t.f_Jn t.d_Jn
 F_Jj1:FunG K "_law_is_row" "_law_is_row" mX .none t.f_Jj1 t.d_Jj1
 F_Jg1:FunG K "_law_nothing" "_law_nothing" kj .none t.f_Jg1 t.d_Jg1
 F_Jo:FunG K "_law_base_stays" "_law_base_stays" mW .none t.f_Jo t.d_Jo
 F_sent:FunG K "_law_sent" "_law_sent" ip .none t.f_sent t.d_sent
 F_Jp:FunG K "__init__" "Shelf.__init__" tm .none t.f_Jp t.d_Jp
 F_Jz:FunG K "__init__" "Yard.__init__" sT .none t.f_Jz t.d_Jz
 F_Jq:FunG K "bells" "Yard.bells" tj .none t.f_Jq t.d_Jq
 F_Jd:FunG K "engine" "Yard.engine" tI .none t.f_Jd t.d_Jd
 F_Je:FunG K "pieces" "Yard.pieces" tH .none t.f_Je t.d_Je
 F_J01:FunG K "mate" "Yard.mate" qy .none t.f_J01 t.d_J01
 F_J1:FunG K "check_there" "Yard.check_there" tT .none t.f_J1 t.d_J1
 F_J2:FunG K "check_piece" "Yard.check_piece" tS .none t.f_J2 t.d_J2
 F_Ja1:FunG K "lay" "Yard.lay" qm t.v_Ja1 t.f_Ja1 t.d_Ja1
 F_J5:FunG K "end_trail" "Yard.end_trail" tQ .none t.f_J5 t.d_J5
 F_J6:FunG K "check_rod" "Yard.check_rod" tP .none t.f_J6 t.d_J6
 F_J9:FunG K "new_rod" "Yard.new_rod" tM t.v_J9 t.f_J9 t.d_J9
 F_J11:FunG K "link" "Yard.link" qx .none t.f_J11 t.d_J11
 F_Jr:FunG K "throw" "Yard.throw" tf .none t.f_Jr t.d_Jr
 F_J21:FunG K "lift" "Yard.lift" qw .none t.f_J21 t.d_J21
 F_Jb1:FunG K "put" "Yard.put" ql .none t.f_Jb1 t.d_Jb1
 F_Jf:FunG K "again" "Shelf.again" tG .none t.f_Jf t.d_Jf
 F_J0:FunG K "check_stand" "Shelf.check_stand" tU .none t.f_J0 t.d_J0
 F_Js:FunG K "keep" "Shelf.keep" sZ .none t.f_Js t.d_Js
 F_J7:FunG K "make_twin" "Yard.make_twin" tO .none t.f_J7 t.d_J7
 F_J31:FunG K "rods" "Yard.rods" qv .none t.f_J31 t.d_J31
 F_J41:FunG K "side" "Yard.side" qu .none t.f_J41 t.d_J41
 F_J51:FunG K "kind" "Yard.kind" qt .none t.f_J51 t.d_J51
 F_J61:FunG K "note" "Yard.note" qr .none t.f_J61 t.d_J61
 F_Jc1:FunG K "rod" "Yard.rod" qk .none t.f_Jc1 t.d_Jc1
 F_Jt:FunG K "carry" "Yard.carry" sY .none t.f_Jt t.d_Jt
 F_Ju:FunG K "steps" "Yard.steps" sW .none t.f_Ju t.d_Ju
 m_law:mg "law" = some (.ref t.f_law)
 e_law:t.v_law=.none
 m_draws:mg "_law_draws" = some (.ref t.f_draws)
 m_base:mg "_law_base" = some (.ref t.f_base)
 m_twin:mg "twin" = some (.ref t.f_twin)
 m_Jv:mg "read_yard" = some (.ref t.f_Jv)
 m_Ja:mg "check_order" = some (.ref t.f_Ja)
 m_rank:mg "rank" = some (.ref t.f_rank)
 m_J71:mg "read_row" = some (.ref t.f_J71)
 m_Jw:mg "read_line" = some (.ref t.f_Jw)
 m_Jb:mg "read_number" = some (.ref t.f_Jb)
 m_J81:mg "is_plain" = some (.ref t.f_J81)
 m_J3:mg "has_its_numbers" = some (.ref t.f_J3)
 m_build:mg "build" = some (.ref t.f_build)
 m_enter:mg "enter" = some (.ref t.f_enter)
 m_Jg:mg "enter_link" = some (.ref t.f_Jg)
 m_Jc:mg "enter_piece" = some (.ref t.f_Jc)
 m_Jh:mg "check_note" = some (.ref t.f_Jh)
 m_Ji:mg "write_yard" = some (.ref t.f_Ji)
 m_Jj:mg "write_line" = some (.ref t.f_Jj)
 m_Jk:mg "link_lines" = some (.ref t.f_Jk)
 m_Jd1:mg "ends_of" = some (.ref t.f_Jd1)
 m_Jl:mg "piece_line" = some (.ref t.f_Jl)
 m_J91:mg "is_point" = some (.ref t.f_J91)
 m_lines:mg "_law_lines" = some (.ref t.f_lines)
 m_Jh1:mg "_law_target" = some (.ref t.f_Jh1)
 m_run:mg "run" = some (.ref t.f_run)
 m_Jx:mg "next_step" = some (.ref t.f_Jx)
 m_Je1:mg "passage" = some (.ref t.f_Je1)
 m_Jy:mg "check_end" = some (.ref t.f_Jy)
 m_Jm:mg "check_side" = some (.ref t.f_Jm)
 m_J8:mg "point_passage" = some (.ref t.f_J8)
 m_Jf1:mg "_law_flipped" = some (.ref t.f_Jf1)
 m_own:mg "_law_own" = some (.ref t.f_own)
 m_merge:mg "merge" = some (.ref t.f_merge)
 m_is:mg "_law_is" = some (.ref t.f_is)
 m_whole:mg "_law_whole" = some (.ref t.f_whole)
 m_Ji1:mg "_law_is_end" = some (.ref t.f_Ji1)
 m_Jn:mg "_law_trail_gone" = some (.ref t.f_Jn)
 m_Jj1:mg "_law_is_row" = some (.ref t.f_Jj1)
 m_Jg1:mg "_law_nothing" = some (.ref t.f_Jg1)
 m_Jo:mg "_law_base_stays" = some (.ref t.f_Jo)
 m_sent:mg "_law_sent" = some (.ref t.f_sent)
 M_Jq:Meth K t.c_Yard "bells" t.f_Jq
 M_Jd:Meth K t.c_Yard "engine" t.f_Jd
 M_Je:Meth K t.c_Yard "pieces" t.f_Je
 M_J01:Meth K t.c_Yard "mate" t.f_J01
 M_J1:Meth K t.c_Yard "check_there" t.f_J1
 M_J2:Meth K t.c_Yard "check_piece" t.f_J2
 M_Ja1:Meth K t.c_Yard "lay" t.f_Ja1
 D_Ja1:∃ (T:Addr) (od:Option Addr) (n:Nat) (sl:Array (Option Value)) (tk0:Tok),t.v_Ja1=.ref T/\K.lookup T=some ⟨.type "tuple",od,.seq #[.int 0 tk0,.none] n,sl⟩
 M_J5:Meth K t.c_Yard "end_trail" t.f_J5
 M_J6:Meth K t.c_Yard "check_rod" t.f_J6
 M_J9:Meth K t.c_Yard "new_rod" t.f_J9
 D_J9:∃ (T:Addr) (od:Option Addr) (n:Nat) (sl:Array (Option Value)) (tk0:Tok),t.v_J9=.ref T/\K.lookup T=some ⟨.type "tuple",od,.seq #[.int 1 tk0] n,sl⟩
 M_J11:Meth K t.c_Yard "link" t.f_J11
 M_Jr:Meth K t.c_Yard "throw" t.f_Jr
 M_J21:Meth K t.c_Yard "lift" t.f_J21
 M_Jb1:Meth K t.c_Yard "put" t.f_Jb1
 M_Jf:Meth K t.c_Shelf "again" t.f_Jf
 M_J0:Meth K t.c_Shelf "check_stand" t.f_J0
 M_Js:Meth K t.c_Shelf "keep" t.f_Js
 M_J7:Meth K t.c_Yard "make_twin" t.f_J7
 M_J31:Meth K t.c_Yard "rods" t.f_J31
 M_J41:Meth K t.c_Yard "side" t.f_J41
 M_J51:Meth K t.c_Yard "kind" t.f_J51
 M_J61:Meth K t.c_Yard "note" t.f_J61
 M_Jc1:Meth K t.c_Yard "rod" t.f_Jc1
 M_Jt:Meth K t.c_Yard "carry" t.f_Jt
 M_Ju:Meth K t.c_Yard "steps" t.f_Ju
 cl_Shelf:Cls K t.c_Shelf
 m_Shelf:mg "Shelf" = some (.ref t.c_Shelf)
 mk_Shelf:Mk K t.c_Shelf t.f_Jp
 n_Shelf_next_stand:NoAttr K t.c_Shelf "next_stand"
 n_Shelf_stands:NoAttr K t.c_Shelf "stands"
 cl_Yard:Cls K t.c_Yard
 m_Yard:mg "Yard" = some (.ref t.c_Yard)
 mk_Yard:Mk K t.c_Yard t.f_Jz
 n_Yard_next_piece:NoAttr K t.c_Yard "next_piece"
 n_Yard_kinds:NoAttr K t.c_Yard "kinds"
 n_Yard_notes:NoAttr K t.c_Yard "notes"
 n_J31_under:NoAttr K t.c_Yard "rods_under"
 n_Yard_sides:NoAttr K t.c_Yard "sides"
 n_Yard_mates:NoAttr K t.c_Yard "mates"
 n_Jd_end:NoAttr K t.c_Yard "engine_end"
 n_Yard_rung:NoAttr K t.c_Yard "rung"
 n_Yard_trail:NoAttr K t.c_Yard "trail"
 z_abs:mg "abs" = none
 z_all:mg "all" = none
 z_bool:mg "bool" = none
 z_dict:mg "dict" = none
 z_enumerate:mg "enumerate" = none
 z_int:mg "int" = none
 z_isinstance:mg "isinstance" = none
 z_len:mg "len" = none
 z_list:mg "list" = none
 z_max:mg "max" = none
 z_range:mg "range" = none
 z_str:mg "str" = none
 z_tuple:mg "tuple" = none
 z_zip:mg "zip" = none
 g_ENDS:mg "ENDS" = some t.u_ENDS
 x_ENDS:∃ a,t.u_ENDS=.ref a/\jZ K a [("line",.int 2),("bell",.int 2),("stop",.int 1),("still",.int 3),("lazy",.int 3),("turning",.int 3)]
 g_FIGURES:mg "FIGURES" = some t.u_FIGURES
 r_FIGURES:RelV (.str "0123456789") t.u_FIGURES
 g_GROUPS:mg "GROUPS" = some t.u_GROUPS
 x_GROUPS:∃ a,t.u_GROUPS=.ref a/\jZ K a [("next",.int 0),("rod",.int 1),("line",.int 2),("stop",.int 2),("bell",.int 2),("still",.int 2),("lazy",.int 2),("turning",.int 2),("link",.int 3),("engine",.int 4),("rung",.int 5)]
 g_LAST_NOTE:mg "LAST_NOTE" = some t.u_LAST_NOTE
 r_LAST_NOTE:RelV (.int 9999) t.u_LAST_NOTE
 g_POINTS:mg "POINTS" = some t.u_POINTS
 x_POINTS:∃ (a:Addr) (o:Obj) (its:Array Value) (n:Nat),t.u_POINTS=.ref a/\K.lookup a=some o/\o.cls=.type "tuple" /\ o.data=.seq its n/\its.size<=sizeLine/\Vals [.str "still",.str "lazy",.str "turning"] its.toList
 g_SIZES:mg "SIZES" = some t.u_SIZES
 x_SIZES:∃ a,t.u_SIZES=.ref a/\jZ K a [("next",.int 2),("rod",.int 2),("line",.int 1),("stop",.int 1),("bell",.int 2),("still",.int 2),("lazy",.int 2),("turning",.int 2),("link",.int 4),("engine",.int 2)]
 g_STEM:mg "STEM" = some t.u_STEM
 r_STEM:RelV (.int 0) t.u_STEM
variable{fd:FuncData}
section
variable {K:PySem.W.Frag}{mg:Str->Option Value}{t:Adr}
theorem lS_ {us:List Value}{n:Nat} (h:us.length=n+1):∃ a t,us=a::t/\t.length=n:=by
 cases us with
 | nil=>cases h
 | cons a t=>exact⟨a,t,rfl,Nat.succ.inj h⟩
theorem l0_ {us:List Value} (h:us.length=0):us=[]:=List.eq_nil_of_length_eq_zero h
theorem bi1 {x q:Str}{st:Stmt}{dV:Value}{f:Addr}{a0:Str} (F:FunG K x q st dV f fd) (e:dV=.none:=by rfl) (h:∀ (kV doc pm:Value) (an:Option Addr) (cdv ct u0:Value),bindArgs (W.fnOf x q (cA st) (cu st) (ah st) .none kV doc pm an cdv ct) ⟨[u0],[]⟩=pure [(a0,u0)]:=by intros; rfl):Binds K fd [a0] []:=by
 subst e
 refine F.binds fun kV doc pm an cdv ct us hl=>?_
 obtain⟨u0,w0,rfl,g0⟩:=lS_ hl
 cases l0_ g0
 exact h kV doc pm an cdv ct u0
theorem bi2 {x q:Str}{st:Stmt}{dV:Value}{f:Addr}{a0 a1:Str} (F:FunG K x q st dV f fd) (e:dV=.none:=by rfl) (h:∀ (kV doc pm:Value) (an:Option Addr) (cdv ct u0 u1:Value),bindArgs (W.fnOf x q (cA st) (cu st) (ah st) .none kV doc pm an cdv ct) ⟨[u0,u1],[]⟩=pure [(a0,u0),(a1,u1)]:=by intros; rfl):Binds K fd [a0,a1] []:=by
 subst e
 refine F.binds fun kV doc pm an cdv ct us hl=>?_
 obtain⟨u0,w0,rfl,g0⟩:=lS_ hl
 obtain⟨u1,w1,rfl,g1⟩:=lS_ g0
 cases l0_ g1
 exact h kV doc pm an cdv ct u0 u1
theorem bi3 {x q:Str}{st:Stmt}{dV:Value}{f:Addr}{a0 a1 a2:Str} (F:FunG K x q st dV f fd) (e:dV=.none:=by rfl) (h:∀ (kV doc pm:Value) (an:Option Addr) (cdv ct u0 u1 u2:Value),bindArgs (W.fnOf x q (cA st) (cu st) (ah st) .none kV doc pm an cdv ct) ⟨[u0,u1,u2],[]⟩=pure [(a0,u0),(a1,u1),(a2,u2)]:=by intros; rfl):Binds K fd [a0,a1,a2] []:=by
 subst e
 refine F.binds fun kV doc pm an cdv ct us hl=>?_
 obtain⟨u0,w0,rfl,g0⟩:=lS_ hl
 obtain⟨u1,w1,rfl,g1⟩:=lS_ g0
 obtain⟨u2,w2,rfl,g2⟩:=lS_ g1
 cases l0_ g2
 exact h kV doc pm an cdv ct u0 u1 u2
theorem bi5 {x q:Str}{st:Stmt}{dV:Value}{f:Addr}{a0 a1 a2 a3 a4:Str} (F:FunG K x q st dV f fd) (e:dV=.none:=by rfl) (h:∀ (kV doc pm:Value) (an:Option Addr) (cdv ct u0 u1 u2 u3 u4:Value),bindArgs (W.fnOf x q (cA st) (cu st) (ah st) .none kV doc pm an cdv ct) ⟨[u0,u1,u2,u3,u4],[]⟩=pure [(a0,u0),(a1,u1),(a2,u2),(a3,u3),(a4,u4)]:=by intros; rfl):Binds K fd [a0,a1,a2,a3,a4] []:=by
 subst e
 refine F.binds fun kV doc pm an cdv ct us hl=>?_
 obtain⟨u0,w0,rfl,g0⟩:=lS_ hl
 obtain⟨u1,w1,rfl,g1⟩:=lS_ g0
 obtain⟨u2,w2,rfl,g2⟩:=lS_ g1
 obtain⟨u3,w3,rfl,g3⟩:=lS_ g2
 obtain⟨u4,w4,rfl,g4⟩:=lS_ g3
 cases l0_ g4
 exact h kV doc pm an cdv ct u0 u1 u2 u3 u4
theorem pU (T:Txt K mg t):Binds K t.d_draws ["_law_script","_law_many"] []:=bi2 T.F_draws
theorem sH (T:Txt K mg t):Binds K t.d_base ["_law_d","_law_at"] []:=bi2 T.F_base
theorem jX (T:Txt K mg t):Binds K t.d_twin ["yard"] []:=bi1 T.F_twin
theorem b_Jv (T:Txt K mg t):Binds K t.d_Jv ["text"] []:=bi1 T.F_Jv
theorem b_Ja (T:Txt K mg t):Binds K t.d_Ja ["rows"] []:=bi1 T.F_Ja
theorem oH (T:Txt K mg t):Binds K t.d_rank ["row"] []:=bi1 T.F_rank
theorem b_J71 (T:Txt K mg t):Binds K t.d_J71 ["line"] []:=bi1 T.F_J71
theorem b_Jw (T:Txt K mg t):Binds K t.d_Jw ["line"] []:=bi1 T.F_Jw
theorem b_Jb (T:Txt K mg t):Binds K t.d_Jb ["word"] []:=bi1 T.F_Jb
theorem b_J81 (T:Txt K mg t):Binds K t.d_J81 ["word"] []:=bi1 T.F_J81
theorem b_J3 (T:Txt K mg t):Binds K t.d_J3 ["word","numbers"] []:=bi2 T.F_J3
theorem pV (T:Txt K mg t):Binds K t.d_build ["rows"] []:=bi1 T.F_build
theorem pT (T:Txt K mg t):Binds K t.d_enter ["yard","word","numbers"] []:=bi3 T.F_enter
theorem b_Jg (T:Txt K mg t):Binds K t.d_Jg ["yard","one","other"] []:=bi3 T.F_Jg
theorem b_Jc (T:Txt K mg t):Binds K t.d_Jc ["yard","kind","numbers"] []:=bi3 T.F_Jc
theorem ue (T:Txt K mg t):Binds K t.d_Jh ["note"] []:=bi1 T.F_Jh
theorem b_Ji (T:Txt K mg t):Binds K t.d_Ji ["yard"] []:=bi1 T.F_Ji
theorem jC (T:Txt K mg t):Binds K t.d_Jj ["word","numbers"] []:=bi2 T.F_Jj
theorem b_Jk (T:Txt K mg t):Binds K t.d_Jk ["yard"] []:=bi1 T.F_Jk
theorem oI (T:Txt K mg t):Binds K t.d_Jd1 ["kind"] []:=bi1 T.F_Jd1
theorem b_Jl (T:Txt K mg t):Binds K t.d_Jl ["yard","piece"] []:=bi2 T.F_Jl
theorem kW (T:Txt K mg t):Binds K t.d_J91 ["kind"] []:=bi1 T.F_J91
theorem pS (T:Txt K mg t):Binds K t.d_lines ["_law_yard","_law_d","_law_many"] []:=bi3 T.F_lines
theorem b_Jh1 (T:Txt K mg t):Binds K t.d_Jh1 ["_law_yard","_law_draw"] []:=bi2 T.F_Jh1
theorem kU (T:Txt K mg t):Binds K t.d_run ["yard","most"] []:=bi2 T.F_run
theorem b_Jx (T:Txt K mg t):Binds K t.d_Jx ["yard"] []:=bi1 T.F_Jx
theorem b_Je1 (T:Txt K mg t):Binds K t.d_Je1 ["kind","end","side"] []:=bi3 T.F_Je1
theorem ub (T:Txt K mg t):Binds K t.d_Jy ["kind","end"] []:=bi2 T.F_Jy
theorem sK (T:Txt K mg t):Binds K t.d_Jm ["side"] []:=bi1 T.F_Jm
theorem b_J8 (T:Txt K mg t):Binds K t.d_J8 ["kind","end","side"] []:=bi3 T.F_J8
theorem b_Jf1 (T:Txt K mg t):Binds K t.d_Jf1 ["_law_yard","_law_sides","_law_draw"] []:=bi3 T.F_Jf1
theorem qP (T:Txt K mg t):Binds K t.d_own ["_law_yard","_law_draw"] []:=bi2 T.F_own
theorem iS (T:Txt K mg t):Binds K t.d_merge ["yard","outs","end"] []:=bi3 T.F_merge
theorem jY (T:Txt K mg t):Binds K t.d_is ["_law_found","_law_due"] []:=bi2 T.F_is
theorem pR (T:Txt K mg t):Binds K t.d_whole ["_law_found"] []:=bi1 T.F_whole
theorem ii (T:Txt K mg t):Binds K t.d_Ji1 ["_law_found","_law_due"] []:=bi2 T.F_Ji1
theorem b_Jn (T:Txt K mg t):Binds K t.d_Jn ["_law_yard","_law_rung"] []:=bi2 T.F_Jn
theorem qQ (T:Txt K mg t):Binds K t.d_Jj1 ["_law_found","_law_due"] []:=bi2 T.F_Jj1
theorem b_Jg1 (T:Txt K mg t):Binds K t.d_Jg1 ["_law_yard","_law_stop","_law_most"] []:=bi3 T.F_Jg1
theorem ud (T:Txt K mg t):Binds K t.d_Jo ["_law_yard","_law_sides","_law_engine"] []:=bi3 T.F_Jo
theorem sG (T:Txt K mg t):Binds K t.d_sent ["_law_yard","_law_starts","_law_fork","_law_stop","_law_d"] []:=bi5 T.F_sent
theorem b_Jp (T:Txt K mg t):Binds K t.d_Jp ["self"] []:=bi1 T.F_Jp
theorem sI (T:Txt K mg t):Binds K t.d_Jz ["self"] []:=bi1 T.F_Jz
theorem pW (T:Txt K mg t):Binds K t.d_Jq ["self"] []:=bi1 T.F_Jq
theorem iT (T:Txt K mg t):Binds K t.d_Jd ["self"] []:=bi1 T.F_Jd
theorem lX (T:Txt K mg t):Binds K t.d_Je ["self"] []:=bi1 T.F_Je
theorem ij (T:Txt K mg t):Binds K t.d_J01 ["self","end"] []:=bi2 T.F_J01
theorem pX (T:Txt K mg t):Binds K t.d_J1 ["self","end"] []:=bi2 T.F_J1
theorem oM (T:Txt K mg t):Binds K t.d_J2 ["self","piece"] []:=bi2 T.F_J2
theorem lY (T:Txt K mg t):Binds K t.d_J5 ["self"] []:=bi1 T.F_J5
theorem sM (T:Txt K mg t):Binds K t.d_J6 ["self","rod"] []:=bi2 T.F_J6
theorem gF (T:Txt K mg t):Binds K t.d_J11 ["self","one","other"] []:=bi3 T.F_J11
theorem sJ (T:Txt K mg t):Binds K t.d_Jr ["self","rod","side"] []:=bi3 T.F_Jr
theorem qR (T:Txt K mg t):Binds K t.d_J21 ["self","piece"] []:=bi2 T.F_J21
theorem jD (T:Txt K mg t):Binds K t.d_Jb1 ["self","end"] []:=bi2 T.F_Jb1
theorem b_Jf (T:Txt K mg t):Binds K t.d_Jf ["self","number"] []:=bi2 T.F_Jf
theorem b_J0 (T:Txt K mg t):Binds K t.d_J0 ["self","number"] []:=bi2 T.F_J0
theorem b_Js (T:Txt K mg t):Binds K t.d_Js ["self","yard"] []:=bi2 T.F_Js
theorem b_J7 (T:Txt K mg t):Binds K t.d_J7 ["self"] []:=bi1 T.F_J7
theorem fE (T:Txt K mg t):Binds K t.d_J31 ["self"] []:=bi1 T.F_J31
theorem fD (T:Txt K mg t):Binds K t.d_J41 ["self","rod"] []:=bi2 T.F_J41
theorem oK (T:Txt K mg t):Binds K t.d_J51 ["self","piece"] []:=bi2 T.F_J51
theorem b_J61 (T:Txt K mg t):Binds K t.d_J61 ["self","piece"] []:=bi2 T.F_J61
theorem oJ (T:Txt K mg t):Binds K t.d_Jc1 ["self","piece"] []:=bi2 T.F_Jc1
theorem b_Jt (T:Txt K mg t):Binds K t.d_Jt ["self","end","side"] []:=bi3 T.F_Jt
theorem uc (T:Txt K mg t):Binds K t.d_Ju ["self"] []:=bi1 T.F_Ju
theorem oN (T:Txt K mg t):∃ ds:List Value,Vals [.non] ds/\Binds K t.d_Ja1 ["self","kind","note","rod"] ds:=by
 obtain⟨Td,od,n,sl,tk0,e1,e2⟩:=T.D_Ja1
 obtain⟨oc,od2,kV,doc,pm,an,cdv,ct,osl,e3,lk,hcd⟩:=T.F_Ja1.ex
 refine⟨[.none],.cons rfl (.nil),fun s us X hl=>?_⟩
 have hl2:us.length=3:=by simpa using hl
 rw[e3,e1]
 obtain⟨u0,w0,rfl,g0⟩:=lS_ hl2
 obtain⟨u1,w1,rfl,g1⟩:=lS_ g0
 obtain⟨u2,w2,rfl,g2⟩:=lS_ g1
 cases l0_ g2
 exact W.binds_K X rfl e2 rfl rfl rfl
theorem cY (T:Txt K mg t):∃ ds:List Value,Vals [.int 0,.non] ds/\Binds K t.d_Ja1 ["self","kind","note","rod"] ds:=by
 obtain⟨Td,od,n,sl,tk0,e1,e2⟩:=T.D_Ja1
 obtain⟨oc,od2,kV,doc,pm,an,cdv,ct,osl,e3,lk,hcd⟩:=T.F_Ja1.ex
 refine⟨[.int 0 tk0,.none],.cons ⟨_,U⟩ (.cons rfl (.nil)),fun s us X hl=>?_⟩
 have hl2:us.length=2:=by simpa using hl
 rw[e3,e1]
 obtain⟨u0,w0,rfl,g0⟩:=lS_ hl2
 obtain⟨u1,w1,rfl,g1⟩:=lS_ g0
 cases l0_ g1
 exact W.binds_K X rfl e2 rfl rfl rfl
noncomputable def cM:List V->List V->List V:=fun us ws=>if us.length=2/\ws.length=2 then us++[]++ws++[] else []
theorem bX (T:Txt K mg t):∃ g,KBinds K t.d_Ja1 ["self","kind","note","rod"] ["note","rod"] g cM:=by
 obtain⟨Td,od,n,sl,tk0,e1,e2⟩:=T.D_Ja1
 obtain⟨oc,od2,kV,doc,pm,an,cdv,ct,osl,e3,lk,hcd⟩:=T.F_Ja1.ex
 refine⟨fun us ws=>if us.length=2/\ws.length=2 then us++[]++ws++[] else [],⟨fun s us ws X hl=>?_,fun {vs us zs ws} r rz=>?_⟩⟩
 ·by_cases hc:us.length=2/\ws.length=2
  ·rw[if_pos hc]
   rw[e3,e1]
   match us,ws,hc with
   | [_,_],[_,_],_=>exact W.binds_K X rfl e2 rfl rfl rfl
  ·rw[if_neg hc] at hl
   cases hl
 ·have e4:=r.length
  have e5:=rz.length
  unfold cM
  by_cases hc:vs.length=2/\zs.length=2
  ·rw[if_pos hc,if_pos (by omega)]
   exact((r.append (show Vals [] [] from .nil)).append rz).append (show Vals [] [] from .nil)
  ·rw[if_neg hc,if_neg (by omega)]
   exact .nil
theorem pY (T:Txt K mg t):∃ ds:List Value,Vals [] ds/\Binds K t.d_J9 ["self","side"] ds:=by
 obtain⟨Td,od,n,sl,tk0,e1,e2⟩:=T.D_J9
 obtain⟨oc,od2,kV,doc,pm,an,cdv,ct,osl,e3,lk,hcd⟩:=T.F_J9.ex
 refine⟨[],.nil,fun s us X hl=>?_⟩
 have hl2:us.length=2:=by simpa using hl
 rw[e3,e1]
 obtain⟨u0,w0,rfl,g0⟩:=lS_ hl2
 obtain⟨u1,w1,rfl,g1⟩:=lS_ g0
 cases l0_ g1
 exact W.binds_K X rfl e2 rfl rfl rfl
theorem pZ (T:Txt K mg t):∃ ds:List Value,Vals [.int 1] ds/\Binds K t.d_J9 ["self","side"] ds:=by
 obtain⟨Td,od,n,sl,tk0,e1,e2⟩:=T.D_J9
 obtain⟨oc,od2,kV,doc,pm,an,cdv,ct,osl,e3,lk,hcd⟩:=T.F_J9.ex
 refine⟨[.int 1 tk0],.cons ⟨_,U⟩ (.nil),fun s us X hl=>?_⟩
 have hl2:us.length=1:=by simpa using hl
 rw[e3,e1]
 obtain⟨u0,w0,rfl,g0⟩:=lS_ hl2
 cases l0_ g0
 exact W.binds_K X rfl e2 rfl rfl rfl
end
noncomputable def Dr (ds:List Int):Prop:=∀ d ∈ ds,0<=d/\d<10 ^ 18
inductive sp_draws (K:PySem.W.Frag) (vs:List V) (H:Hp) (Q:VK) (E_:XK):Prop
 | mk (a:Addr) (ns:List Int) (n:Int) (L:Kn) (_:vs=[.ref a,.int n]) (_:SqL K H a (ns.map V.int)) (_:ns.length<=63) (_:0<=n) (_:n<=1000) (_:Has H L) (_:∀ H' p ds,Has H' ((p,.lst (ds.map V.int))::L)->ds.length=n.toNat->Dr ds->Q (.ref p) H'):sp_draws K vs H Q E_
section
variable {P:Program}{w:World}{K:PySem.W.Frag}{mg:Str->Option Value}{base:Heap}{t:Adr}
theorem scD:FnScope ["_law_script","_law_many","_law_row","_law_base_here","_law_cell","_law_left","_law_turn"] ["_law_script","_law_many"] (ah kg):={}
theorem Dr.snoc {ds:List Int}{d:Int} (h:Dr ds) (h0:0<=d) (h1:d<10 ^ 18):Dr (ds++[d]):=fun x hx=>by
 rcases uA.mp hx with hx | hx
 ·exact h x hx
 ·have:x=d:=by simpa using hx
  subst this; exact⟨h0,h1⟩
theorem gf (ds:List Int) (d:Int):ds.map V.int++[V.int d]=(ds++[d]).map V.int:=by simp
theorem nE (T:Txt K mg t):FnOk P w K mg base CX0 1 t.f_draws t.d_draws ["_law_script","_law_many"] (sp_draws K):=by
 refine T.F_draws.ok scD (fun vs H Q E h=>?_) (fun cdv A outer s H vs Q E hr h=>?_)
 ·obtain⟨_,_,_,_,rfl,_⟩:=h
  rfl
 ·obtain⟨a,ns,n,L,rfl,hS,hns,hn0,hn1,hL,k⟩:=h
  refine⟨_,(ac (aD (i:=2) scD.nd rfl (Or.inl rfl) (bb ae))
   (ac (aD (i:=3) scD.nd rfl (Or.inl rfl) ag)
   (ac (bD PassesOwn.never rfl (br (dm dX (pv 0) d4 (d3 ag))) (aw (i:=4) scD.nd rfl (Or.inl rfl))
    (ac (aD (i:=5) scD.nd rfl (Or.inl rfl) (aG oF (by rfl) T.z_abs (by rfl) (aa (pv 4) ae)))
     (ac (aD (i:=3) scD.nd rfl (Or.inl rfl) (az aT (az bh (az bh (az eW (pv 3) ag) (pv 5)) (az eW ag (aU hW (by rfl) T.z_int (by rfl) (aa (bO fh (pv 4) ag (am _)) ae)))) ag))
     (af (aA (ai fh (pv 5) (az rM ag ag) (am _))
      (af (al (bV PySem.F.plainAttrs_list PySem.F.slot_list_append PySem.F.type_list_append aZ (pv 2) (aa (pv 5) ae))))
      (af (bD PassesOwn.never rfl (bG (by rfl) T.z_range (aa ag ae)) (aw (i:=6) scD.nd rfl (Or.inl rfl))
        (af (aA (ai dG (pv 5) ag (am _))
          (ac (al (bV PySem.F.plainAttrs_list PySem.F.slot_list_append PySem.F.type_list_append aZ (pv 2) (aa (az aT (pv 5) ag) ae)))
           (af (aD (i:=5) scD.nd rfl (Or.inl rfl) (az bW (pv 5) ag))))
          aj)))))))))
   (ac (fX PassesOwn.never (ai fh (aG ay (by rfl) T.z_len (by rfl) (aa (pv 2) ae)) (pv 1) (am _))
    (ac (aD (i:=3) scD.nd rfl (Or.inl rfl) (az aT (az bh (az eW (pv 3) ag) ag) ag))
     (af (al (bV PySem.F.plainAttrs_list PySem.F.slot_list_append PySem.F.type_list_append aZ (pv 2) (aa (az aT (az bW (az eW (pv 3) (pv 3)) ag) ag) ae))))))
   (af (aq (dm dX (pv 2) d4 (d3 (pv 1))))))))),?_⟩
  refine⟨by decide,fun r hr0=>?_⟩
  have h1:=hL.alloc hr0 (.lst [])
  have hS1:SqL K (upd H r (.lst [])) a (ns.map V.int):=hS.alloc hr0
  generalize upd H r (.lst [])=H1 at *
  refine⟨_,U,_,U,a,_,U,hS1,fun sl hsl=>?_⟩
  have h2:=h1.alloc hsl (.lst (di (ns.map V.int) none (some 63)))
  generalize upd H1 sl (.lst (di (ns.map V.int) none (some 63)))=H2 at *
  refine⟨sl,U,⟨_,SqL.of (h2.get 0 U)⟩,?_⟩
  refine cI (K:=K) (a:=sl) (xs:=di (ns.map V.int) none (some 63)) (fun i σ H'=>∃ (row:List Int) (b:Int) (c l t:Option V),σ=[some (.ref a),some (.int n),some (.ref r),some (.int b),c,l,t] /\
   Has H' ((r,.lst (row.map V.int))::(sl,.lst (di (ns.map V.int) none (some 63)))::L)/\row.length<=60*i/\Dr row/\0<=b/\b<2147483647)
   ⟨[],7,none,none,none,U,h2.swap2,Nat.zero_le _,(fun _ h=>nomatch h),by decide,by decide⟩ (fun i σ H' _ ⟨row,b,c,l,t,_,h,_⟩=>SqL.of (h.get 1 U)) ?_ ?_
  ·rintro i y σ H' hi ⟨row,b,c,l,t,rfl,h3,hlen,hd,b0,b1⟩
   have hi63:i<63:=by
    have h5:=(List.getElem?_eq_some_iff.mp hi).1
    rw[eQ _ _ (by decide),uI,um] at h5
    omega
   obtain⟨z,rfl⟩:∃ z,y=V.int z:=by
    rw[eQ _ _ (by decide),List.getElem?_take_of_lt (by omega),ur] at hi
    cases e:ns[i]? with
    | none=>rw[e] at hi; cases hi
    | some z=>rw[e] at hi; exact⟨z,(Option.some.inj hi).symm⟩
   refine⟨_,U,_,U,?_⟩
   have hab:0<=(if z<0 then -z else z):=by split <;> omega
   generalize (if z<0 then -z else z)=left at *
   refine⟨_,U,_,_,U,U,.inl ⟨by omega,by omega⟩,_,U,_,_,U,U,_,U,_,_,U,U,.inr ⟨_,U,_,_,U,U,.inl ⟨by decide,by decide⟩,_,_,U,U,_,_,U,U,(show(0:Int)<2147483647 by decide),?_⟩⟩
   have hb0:=Int.emod_nonneg (b*48271+left+2*(if decide (z<0)=true then 1 else 0)) (show(2147483647:Int)≠0 by decide)
   have hb1:=Int.emod_lt_of_pos (b*48271+left+2*(if decide (z<0)=true then 1 else 0)) (show(0:Int)<2147483647 by decide)
   refine⟨_,U,_,_,U,U,⟨by decide,by decide,by decide⟩,_,_,U,U,_,U,?_⟩
   refine jo (fun hc=>?_) (fun hc=>?_)
   ·have hc':left<10 ^ 18:=of_decide_eq_true hc
    refine⟨_,U,.inl ⟨U,_,SqL.of (h3.get 0 U)⟩,_,U,r,_,_,U,U,h3.get 0 U,?_,?_⟩
    ·rw[um]
     exact sizeOk (by omega)
    ·refine⟨row++[left],_,_,_,_,U,?_,?_,hd.snoc hab hc',hb0,hb1⟩
     ·rw[<- gf]
      exact h3.puti 0 U _
     ·rw[uq,uB]; omega
   ·-- for turn in range(60)
    refine⟨_,U,by decide,by decide,bS (n:=60) (fun j σ H2=>∃ (row2:List Int) (l2:Int) (t2:Option V) (b2:Int),0<=b2/\b2<2147483647/\σ=[some (.ref a),some (.int n),some (.ref r),some (.int b2),some (.int z),some (.int l2),t2] /\
     Has H2 ((r,.lst (row2.map V.int))::(sl,.lst (di (ns.map V.int) none (some 63)))::L)/\row2.length<=row.length+j/\Dr row2/\0<=l2) ⟨row,_,_,_,hb0,hb1,U,h3,Nat.le_add_right _ _,hd,hab⟩ ?_ ?_⟩
    ·rintro j σ H2 hj ⟨row2,l2,t2,b2,hb20,hb21,rfl,h4,hlen2,hd2,hl2⟩
     refine⟨_,U,_,_,U,U,_,U,?_⟩
     refine jo (fun hc2=>?_) (fun hc2=>?_)
     ·refine⟨_,U,.inl ⟨U,_,SqL.of (h4.get 0 U)⟩,_,U,_,_,U,U,(show(0:Int)<10007 by decide),r,_,_,U,U,h4.get 0 U,?_,?_⟩
      ·rw[um]
       exact sizeOk (by omega)
      ·refine⟨_,U,_,_,U,U,⟨by decide,by decide⟩,?_⟩
       refine⟨row2++[l2 % 10007],_,_,_,hb20,hb21,U,?_,?_,hd2.snoc (Int.emod_nonneg _ (by decide)) (Int.lt_trans (Int.emod_lt_of_pos _ (by decide)) (by decide)),Int.ediv_nonneg hl2 (by decide)⟩
       ·rw[<- gf]
        exact h4.puti 0 U _
       ·rw[uq,uB]; omega
     ·exact⟨row2,l2,_,b2,hb20,hb21,U,h4,by omega,hd2,hl2⟩
    ·rintro σ H2 ⟨row2,l2,t2,b2,hb20,hb21,rfl,h4,hlen2,hd2,hl2⟩
     exact⟨row2,b2,_,_,_,U,h4,by omega,hd2,hb20,hb21⟩
  ·rintro σ H' ⟨row,b,c,l,t,rfl,h3,hlen,hd,b0,b1⟩
   have hlx:(di (ns.map V.int) none (some 63)).length<=63:=by
    rw[eQ _ _ (by decide),uI]; omega
   refine mv (fun σ H'=>∃ (row:List Int) (b:Int) (c l t:Option V),σ=[some (.ref a),some (.int n),some (.ref r),some (.int b),c,l,t]/\Has H' ((r,.lst (row.map V.int))::L)/\row.length<=4000/\Dr row/\0<=b/\b<2147483647)
    (fun σ H'=>match H' r with | some (.lst xs)=>n.toNat - xs.length | _=>0) ⟨row,b,c,l,t,U,h3.swap2.tail,by omega,hd,b0,b1⟩ ?_ ?_
   ·rintro σ H' ⟨row,b,c,l,t,rfl,h4,hlen,hd,b0,b1⟩
    refine⟨_,U,r,_,U,.inl (SqL.of (h4.get 0 U)),_,U,_,_,U,U,_,U,?_⟩
    rw[um]
    refine jo (fun hc=>?_) (fun hc=>?_)
    ·have hc':(row.length:Int)<n:=of_decide_eq_true hc
     refine⟨_,U,_,_,U,U,.inl ⟨by omega,by omega⟩,_,_,U,U,_,_,U,U,(show(0:Int)<2147483647 by decide),?_⟩
     have hb0:=Int.emod_nonneg (b*69621+12289) (show(2147483647:Int)≠0 by decide)
     have hb1:=Int.emod_lt_of_pos (b*69621+12289) (show(0:Int)<2147483647 by decide)
     refine⟨_,U,.inl ⟨U,_,SqL.of (h4.get 0 U)⟩,_,U,_,U,_,_,U,U,.inl ⟨?_,?_⟩,_,_,U,U,⟨by decide,by decide⟩,_,_,U,U,(show(0:Int)<10007 by decide),r,_,_,U,U,h4.get 0 U,?_,?_⟩
     ·show -(2 ^ 64)<(b*69621+12289) % 2147483647
      omega
     ·show(b*69621+12289) % 2147483647<2 ^ 64
      omega
     ·rw[um]
      exact sizeOk (by omega)
     ·have hq0:=Int.emod_nonneg ((b*69621+12289) % 2147483647*((b*69621+12289) % 2147483647) / 4099) (show(10007:Int)≠0 by decide)
      have hq1:=Int.emod_lt_of_pos ((b*69621+12289) % 2147483647*((b*69621+12289) % 2147483647) / 4099) (show(0:Int)<10007 by decide)
      refine⟨⟨row++[(b*69621+12289) % 2147483647*((b*69621+12289) % 2147483647) / 4099 % 10007],_,_,_,_,U,?_,?_,hd.snoc hq0 (Int.lt_trans hq1 (by decide)),hb0,hb1⟩,?_⟩
      ·rw[<- gf]
       exact h4.puti 0 U _
      ·rw[uq,uB]; omega
      ·have e1:H' r=some (.lst (row.map V.int)):=h4.get 0 rfl
       simp only[e1,cD,uq,um,uB]
       omega
    ·have hc':¬ (row.length:Int)<n:=fun z=>hc (decide_eq_true z)
     refine⟨_,U,_,U,_,U,r,_,U,SqL.of (h4.get 0 U),fun p hp=>?_⟩
     refine k _ p (row.take n.toNat) ?_ (by rw[uI]; omega) (fun d hd'=>hd d (List.mem_of_mem_take hd'))
     have h5:=(h4.tail).alloc hp (.lst (di (row.map V.int) none (some n)))
     rw[eQ _ _ hn0,<- List.map_take] at h5 ⊢
     exact h5
   ·rintro σ H' Q1 Q2 hQ ⟨v,e,p,ys,e2,h,w',e3,i,j,e4,e5,c,e6,q⟩
    exact⟨v,e,p,ys,e2,h,w',e3,i,j,e4,e5,c,e6,hQ _ _ q⟩
end
noncomputable def mO:Sp:=fun vs H Q _=>∃ i:Int,vs=[.int i]/\Q (.bl true) H
noncomputable def sp_is:Sp:=fun vs H Q _=>∃ i j:Int,vs=[.int i,.int j]/\Q (.bl (decide (i=j))) H
theorem sf (K:PySem.W.Frag):W.kitOne K (.type "int") (.type "int")=some true:=by kernel_rfl
theorem sg (K:PySem.W.Frag):W.kitOne K (.type "int") (.type "bool")=some false:=by kernel_rfl
theorem r8 (K:PySem.W.Frag):W.kitOne K (.type "tuple") (.type "tuple")=some true:=by kernel_rfl
theorem r9 (K:PySem.W.Frag):W.kitOne K (.type "list") (.type "list")=some true:=by kernel_rfl
section
variable {P:Program}{w:World}{K:PySem.W.Frag}{mg:Str->Option Value}{base:Heap}{t:Adr}
theorem scWh:FnScope ["_law_found"] ["_law_found"] (ah j8):={}
theorem nA (T:Txt K mg t):FnOk P w K mg base CX0 1 t.f_whole t.d_whole ["_law_found"] mO:=by
 refine T.F_whole.ok scWh (fun vs H Q E h=>?_) (fun cdv A outer s H vs Q E hr h=>?_)
 ·obtain⟨_,rfl,_⟩:=h
  rfl
 ·obtain⟨i,rfl,k⟩:=h
  refine⟨_,(af (aq (dc (aG eS (by rfl) T.z_isinstance (by rfl) (aa (pv 0) (aa (fH (v:=.ty "int") (by rfl) T.z_int (by rfl) rfl) ae))) (cQ (rL (aG eS (by rfl) T.z_isinstance (by rfl) (aa (pv 0) (aa (fH (v:=.ty "bool") (by rfl) T.z_bool (by rfl) rfl) ae)))))))),?_⟩
  refine⟨_,U,_,_,_,_,U,.int i,sf K,_,U,df ?_⟩
  exact⟨_,U,_,_,_,_,U,.int i,sg K,_,U,k⟩
theorem scIs:FnScope ["_law_found","_law_due"] ["_law_found","_law_due"] (ah sS):={}
theorem fZ (T:Txt K mg t):FnOk P w K mg base CX0 2 t.f_is t.d_is ["_law_found","_law_due"] sp_is:=by
 refine T.F_is.ok scIs (fun vs H Q E h=>?_) (fun cdv A outer s H vs Q E hr h=>?_)
 ·obtain⟨_,_,rfl,_⟩:=h
  rfl
 ·obtain⟨i,j,rfl,k⟩:=h
  refine⟨_,(af (aq (dc (pcl (nA T) hr T.m_whole T.F_whole.kp (pR T) (aa (pv 0) ae)) (cQ (bO bq (pv 0) (pv 1) (am _)))))),?_⟩
  refine⟨_,U,i,U,_,U,df ?_⟩
  refine⟨_,U,_,U,U,?_⟩
  have e:decide (V.int i=V.int j)=decide (i=j):=by by_cases h:i=j <;> simp[h]
  rw[e]
  exact k
end
inductive Kd where | line | bell | still | lazy | turning | stop
 deriving DecidableEq
noncomputable def Kd.str:Kd->Str
 | .line => "line" | .bell => "bell" | .still => "still" | .lazy => "lazy" | .turning => "turning" | .stop => "stop"
noncomputable def Kd.many:Kd->Int
 | .line=>2 | .bell=>2 | .still=>3 | .lazy=>3 | .turning=>3 | .stop=>1
noncomputable def Kd.point:Kd->Bool
 | .still=>true | .lazy=>true | .turning=>true | _=>false
noncomputable def endsD:List (Str×PyData):=[("line",.int 2),("bell",.int 2),("stop",.int 1),("still",.int 3),("lazy",.int 3),("turning",.int 3)]
theorem Kd.inEnds (k:Kd):(endsD.any fun p=>decide (k.str=p.1))=true:=by cases k <;> decide +kernel
theorem Kd.atEnds (k:Kd):endsD.lookup k.str=some (.int k.many):=by cases k <;> rfl
theorem lQ:(endsD.all fun p=>match p.2 with | .int _=>true | _=>false)=true:=by decide +kernel
theorem Kd.inPoints (k:Kd):inV (.str k.str) [.str "still",.str "lazy",.str "turning"]=k.point:=by cases k <;> decide +kernel
theorem Kd.isStop (k:Kd):decide (V.str k.str=V.str "stop")=decide (k=.stop):=by cases k <;> decide +kernel
theorem Kd.isTurning (k:Kd):decide (V.str k.str=V.str "turning")=decide (k=.turning):=by cases k <;> decide +kernel
theorem Kd.isLazy (k:Kd):decide (V.str k.str=V.str "lazy")=decide (k=.lazy):=by cases k <;> decide +kernel
theorem Kd.isBell (k:Kd):decide (V.str k.str=V.str "bell")=decide (k=.bell):=by cases k <;> decide +kernel
noncomputable def Kd.out (k:Kd) (e s:Int):V:=if k=.stop then .non else if k.point then(if e=0 then .int s else .int 0) else .int (1 - e)
noncomputable def Kd.side (k:Kd) (e s:Int):Int:=if k.point then(if e=0 then(if k=.turning then 3 - s else s) else(if k=.lazy then e else s)) else s
noncomputable def rj:Sp:=fun vs H Q _=>∃ k:Kd,vs=[.str k.str]/\Q (.int k.many) H
noncomputable def rm:Sp:=fun vs H Q _=>∃ k:Kd,vs=[.str k.str]/\Q (.bl k.point) H
inductive sp_Jy (vs:List V) (H:Hp) (Q:VK) (E_:XK):Prop
 | mk (k:Kd) (e:Int) (_:vs=[.str k.str,.int e]) (_:0<=e) (_:e<k.many) (_:Q .non H):sp_Jy vs H Q E_
inductive sp_Jm (vs:List V) (H:Hp) (Q:VK) (E_:XK):Prop
 | mk (s:Int) (_:vs=[.int s]) (_:(s=1∨s=2)) (_:Q .non H):sp_Jm vs H Q E_
inductive sp_Je1 (vs:List V) (H:Hp) (Q:VK) (E_:XK):Prop
 | mk (k:Kd) (e s:Int) (v:V) (_:vs=[.str k.str,.int e,v]) (_:0<=e) (_:e<k.many) (_:(k.point=true->v=.int s/\(s=1∨s=2))) (_:∀ p,H p=none->Q (.ref p) (upd H p (.tup [k.out e s,if k.point then .int (k.side e s) else v]))):sp_Je1 vs H Q E_
inductive sp_J8 (vs:List V) (H:Hp) (Q:VK) (E_:XK):Prop
 | mk (k:Kd) (e s:Int) (_:vs=[.str k.str,.int e,.int s]) (_:k.point=true) (_:∀ p,H p=none->Q (.ref p) (upd H p (.tup [k.out e s,.int (k.side e s)]))):sp_J8 vs H Q E_
section
variable {P:Program}{w:World}{K:PySem.W.Frag}{mg:Str->Option Value}{base:Heap}{t:Adr}
theorem dh (i j:Int):decide (V.int i=V.int j)=decide (i=j):=by by_cases h:i=j <;> simp[h]
theorem scEo:FnScope ["kind"] ["kind"] (ah qj):={}
theorem jM (T:Txt K mg t):FnOk P w K mg base CX0 1 t.f_Jd1 t.d_Jd1 ["kind"] rj:=by
 refine T.F_Jd1.ok scEo (fun vs H Q E h=>?_) (fun cdv A outer s H vs Q E hr h=>?_)
 ·obtain⟨_,rfl,_⟩:=h
  rfl
 ·obtain⟨k,rfl,q⟩:=h
  obtain⟨aE,eE,hE⟩:=T.x_ENDS
  have T_r_ENDS:RelV (.ref aE) t.u_ENDS:=by rw[eE]; rfl
  refine⟨_,(ac (aA (ai gX (pv 0) (bU (by rfl) T.g_ENDS T_r_ENDS) (by rfl))
    (af aR)
    aj)
   (af (aq (aF sw (bU (by rfl) T.g_ENDS T_r_ENDS) (pv 0))))),?_⟩
  refine⟨_,U,_,aE,endsD,U,U,hE,_,U,?_⟩
  rw[k.inEnds]
  exact⟨_,U,_,aE,endsD,_,U,U,hE,k.atEnds,lQ,q⟩
theorem scIp:FnScope ["kind"] ["kind"] (ah qo):={}
theorem iA (T:Txt K mg t):FnOk P w K mg base CX0 1 t.f_J91 t.d_J91 ["kind"] rm:=by
 refine T.F_J91.ok scIp (fun vs H Q E h=>?_) (fun cdv A outer s H vs Q E hr h=>?_)
 ·obtain⟨_,rfl,_⟩:=h
  rfl
 ·obtain⟨k,rfl,q⟩:=h
  obtain⟨aE,eE,hE⟩:=T.x_ENDS
  have T_r_ENDS:RelV (.ref aE) t.u_ENDS:=by rw[eE]; rfl
  obtain⟨aP,oP,its,n,eP,h1,h2,h3,h4,h5⟩:=T.x_POINTS
  have T_r_POINTS:RelV (.ref aP) t.u_POINTS:=by rw[eP]; rfl
  refine⟨_,(ac (aA (ai gX (pv 0) (bU (by rfl) T.g_ENDS T_r_ENDS) (by rfl))
    (af aR)
    aj)
   (af (aq (bO gY (pv 0) (bU (by rfl) T.g_POINTS T_r_POINTS) (by rfl))))),?_⟩
  refine⟨_,U,_,aE,endsD,U,U,hE,_,U,?_⟩
  rw[k.inEnds]
  refine⟨_,U,aP,_,U,.inr (.inr ⟨oP,its,n,h1,h2,h3,h4,h5⟩),U,by decide,?_⟩
  rw[if_neg Bool.false_ne_true,k.inPoints]
  exact q
theorem scCe:FnScope ["kind","end","many"] ["kind","end"] (ah sU):={}
theorem qB (T:Txt K mg t):FnOk P w K mg base CX0 2 t.f_Jy t.d_Jy ["kind","end"] sp_Jy:=by
 refine T.F_Jy.ok scCe (fun vs H Q E h=>?_) (fun cdv A outer s H vs Q E hr h=>?_)
 ·obtain⟨_,_,rfl,_⟩:=h
  rfl
 ·obtain⟨k,e,rfl,e0,e1,q⟩:=h
  refine⟨_,(ac (aD (i:=2) scCe.nd rfl (Or.inl rfl) (pcl (jM T) hr T.m_Jd1 T.F_Jd1.kp (oI T) (aa (pv 0) ae)))
   (af (aA (PW.pt (dl (ai fh (pv 1) ag (am _)) (cO (ai nw (pv 1) (pv 2) (am _)))))
    (af aR)
    aj))),?_⟩
  refine⟨_,U,k,U,?_⟩
  refine⟨_,U,_,_,U,U,_,U,?_⟩
  refine ifF (decide_eq_false (by omega)) ?_
  refine⟨_,U,_,U,_,_,U,U,_,U,?_⟩
  exact ifF (decide_eq_false (by omega)) q
theorem scCs:FnScope ["side"] ["side"] (ah tt):={}
theorem nI (T:Txt K mg t):FnOk P w K mg base CX0 1 t.f_Jm t.d_Jm ["side"] sp_Jm:=by
 refine T.F_Jm.ok scCs (fun vs H Q E h=>?_) (fun cdv A outer s H vs Q E hr h=>?_)
 ·obtain⟨_,rfl,_⟩:=h
  rfl
 ·obtain⟨z,rfl,hz,q⟩:=h
  refine⟨_,(af (aA (PW.pt (dL (ai dF (pv 0) ag (am _)) (da (ai dF (pv 0) ag (am _)))))
    (af aR)
    aj)),?_⟩
  refine⟨_,U,U,_,U,?_⟩
  rw[dh]
  refine tZ (fun hc=>?_) (fun hc=>bA q)
  refine⟨_,U,U,_,U,?_⟩
  rw[dh]
  exact ifF (by simp; omega) q
theorem scPp:FnScope ["kind","end","side"] ["kind","end","side"] (ah tN):={}
theorem ok_J8 (T:Txt K mg t):FnOk P w K mg base CX0 1 t.f_J8 t.d_J8 ["kind","end","side"] sp_J8:=by
 refine T.F_J8.ok scPp (fun vs H Q E h=>?_) (fun cdv A outer s H vs Q E hr h=>?_)
 ·obtain⟨_,_,_,rfl,_⟩:=h
  rfl
 ·obtain⟨k,e,z,rfl,hk,q⟩:=h
  have ns:¬ k=.stop:=fun h=>by rw[h] at hk; cases hk
  refine⟨_,(ac (aA (ai bq (pv 1) (bU (by rfl) T.g_STEM T.r_STEM) (am _))
    (af (aq (aI (aa (pv 2) (aa (dn (ai bq (pv 0) aJ (am _)) (az cR ag (pv 2)) (pv 2)) ae)))))
    aj)
   (af (aq (aI (aa (bU (by rfl) T.g_STEM T.r_STEM) (aa (dn (ai bq (pv 0) aJ (am _)) (pv 1) (pv 2)) ae)))))),?_⟩
  refine⟨_,U,U,_,U,?_⟩
  rw[dh]
  refine jo (fun hc=>?_) (fun hc=>?_)
  ·have he:e=0:=of_decide_eq_true hc
   refine⟨_,U,_,U,U,_,U,?_⟩
   rw[k.isTurning]
   have o1:k.out e z=.int z:=by unfold Kd.out; rw[if_neg ns,if_pos hk,if_pos he]
   have o2:k.side e z=if k=.turning then 3 - z else z:=by unfold Kd.side; rw[if_pos hk,if_pos he]
   rw[o1,o2] at q
   refine jo (fun hc=>?_) (fun hc=>?_)
   ·rw[if_pos (of_decide_eq_true hc)] at q
    exact⟨_,U,_,_,U,U,(show 2<=sizeLine by decide),fun p hp=>q p hp⟩
   ·rw[if_neg (fun h=>hc (decide_eq_true h))] at q
    exact⟨_,U,(show 2<=sizeLine by decide),fun p hp=>q p hp⟩
  ·have he:¬ e=0:=fun h=>hc (decide_eq_true h)
   refine⟨_,U,U,_,U,?_⟩
   rw[k.isLazy]
   have o1:k.out e z=.int 0:=by unfold Kd.out; rw[if_neg ns,if_pos hk,if_neg he]
   have o2:k.side e z=if k=.lazy then e else z:=by unfold Kd.side; rw[if_pos hk,if_neg he]
   rw[o1,o2] at q
   refine jo (fun hc=>?_) (fun hc=>?_)
   ·rw[if_pos (of_decide_eq_true hc)] at q
    exact⟨_,U,(show 2<=sizeLine by decide),fun p hp=>q p hp⟩
   ·rw[if_neg (fun h=>hc (decide_eq_true h))] at q
    exact⟨_,U,(show 2<=sizeLine by decide),fun p hp=>q p hp⟩
theorem scPa:FnScope ["kind","end","side"] ["kind","end","side"] (ah qi):={}
theorem rV (T:Txt K mg t):FnOk P w K mg base CX0 3 t.f_Je1 t.d_Je1 ["kind","end","side"] sp_Je1:=by
 refine T.F_Je1.ok scPa (fun vs H Q E h=>?_) (fun cdv A outer s H vs Q E hr h=>?_)
 ·obtain⟨_,_,_,_,rfl,_⟩:=h
  rfl
 ·obtain⟨k,e,z,v,rfl,e0,e1,hs,q⟩:=h
  refine⟨_,(ac (al (pcl (qB T) hr T.m_Jy T.F_Jy.kp (ub T) (aa (pv 0) (aa (pv 1) ae))))
   (ac (aA (bx (pcl (iA T) hr T.m_J91 T.F_J91.kp (kW T) (aa (pv 0) ae)))
    (ac (al (pcl (nI T) hr T.m_Jm T.F_Jm.kp (sK T) (aa (pv 2) ae)))
     (af (aq (pcl (ok_J8 T) hr T.m_J8 T.F_J8.kp (b_J8 T) (aa (pv 0) (aa (pv 1) (aa (pv 2) ae)))))))
    aj)
   (ac (aA (ai bq (pv 0) aJ (am _))
    (af (aq (aI (aa aV (aa (pv 2) ae)))))
    aj)
   (af (aq (aI (aa (az cR ag (pv 1)) (aa (pv 2) ae)))))))),?_⟩
  refine⟨_,U,_,U,k,e,U,e0,e1,?_⟩
  refine⟨_,U,k,U,_,U,?_⟩
  refine jo (fun hc=>?_) (fun hc=>?_)
  ·obtain⟨rfl,hz⟩:=hs hc
   rw[if_pos hc] at q
   exact⟨_,U,z,U,hz,_,U,_,U,_,U,k,e,z,U,hc,q⟩
  ·rw[if_neg hc] at q
   refine⟨_,U,U,_,U,?_⟩
   rw[k.isStop]
   refine jo (fun hc2=>?_) (fun hc2=>?_)
   ·have hk:k=.stop:=of_decide_eq_true hc2
    subst hk
    exact⟨_,U,(show 2<=sizeLine by decide),fun p hp=>q p hp⟩
   ·have hk:¬ k=.stop:=fun h=>hc2 (decide_eq_true h)
    have o1:k.out e z=.int (1 - e):=by unfold Kd.out; rw[if_neg hk,if_neg hc]
    rw[o1] at q
    exact⟨_,U,_,_,U,U,_,U,(show 2<=sizeLine by decide),fun p hp=>q p hp⟩
end
structure YA where
 p:Addr
 dx:Addr
 tr:Addr
 k:Addr
 n:Addr
 r:Addr
 s:Addr
 m:Addr
 g:Addr
structure YR where
 next:Int
 kinds:List (Key×V)
 notes:List (Key×V)
 rods:List (Key×V)
 sides:List V
 mates:List (List Key×V)
 eng:V
 rung:List V
 trail:List V
noncomputable def fl (A:YA) (next:Int) (eng:V):List (Str×V) :=
 [("next_piece",.int next),("kinds",.ref A.k),("notes",.ref A.n),("rods_under",.ref A.r),("sides",.ref A.s),("mates",.ref A.m),("engine_end",eng),("rung",.ref A.g),("trail",.ref A.tr)]
noncomputable def yL (C:Addr) (A:YA) (y:YR):Kn :=
 [(A.tr,.lst y.trail),(A.p,.ins C A.dx (fl A y.next y.eng)),(A.dx,.own A.p),(A.k,.dK y.kinds),(A.n,.dK y.notes),(A.r,.dK y.rods),(A.s,.lst y.sides),(A.m,.dT y.mates),(A.g,.lst y.rung)]
noncomputable def y0:YR:=⟨0,[],[],[],[],[],.non,[],[]⟩
section
variable (A:YA) (next:Int) (eng:V)
theorem eK:(fl A next eng).lookup ("next_piece" : Str)=some (.int next):=by kernel_rfl
theorem bY:(fl A next eng).lookup ("kinds" : Str)=some (.ref A.k):=by kernel_rfl
theorem bK:(fl A next eng).lookup ("notes" : Str)=some (.ref A.n):=by kernel_rfl
theorem cq:(fl A next eng).lookup ("rods_under" : Str)=some (.ref A.r):=by kernel_rfl
theorem bE:(fl A next eng).lookup ("sides" : Str)=some (.ref A.s):=by kernel_rfl
theorem cJ:(fl A next eng).lookup ("mates" : Str)=some (.ref A.m):=by kernel_rfl
theorem dS:(fl A next eng).lookup ("engine_end" : Str)=some eng:=by kernel_rfl
theorem fN:(fl A next eng).lookup ("rung" : Str)=some (.ref A.g):=by kernel_rfl
theorem jp:(fl A next eng).lookup ("trail" : Str)=some (.ref A.tr):=by kernel_rfl
theorem iI (q:Addr):bg "trail" (.ref q) (fl A next eng)=fl { A with tr:=q } next eng:=by kernel_rfl
theorem cN (n':Int):bg "next_piece" (.int n') (fl A next eng)=fl A n' eng:=by kernel_rfl
theorem ck (e':V):bg "engine_end" e' (fl A next eng)=fl A next e':=by kernel_rfl
end
theorem aY (A:YA) (next:Int) (eng:V):(fl A next eng).lookup ("lay" : Str)=none/\(fl A next eng).lookup ("new_rod" : Str)=none/\(fl A next eng).lookup ("throw" : Str)=none/\(fl A next eng).lookup ("rods" : Str)=none/\(fl A next eng).lookup ("rod" : Str)=none /\
  (fl A next eng).lookup ("side" : Str)=none/\(fl A next eng).lookup ("end_trail" : Str)=none/\(fl A next eng).lookup ("check_piece" : Str)=none/\(fl A next eng).lookup ("check_rod" : Str)=none :=
 ⟨by kernel_rfl,by kernel_rfl,by kernel_rfl,by kernel_rfl,by kernel_rfl,by kernel_rfl,by kernel_rfl,by kernel_rfl,by kernel_rfl⟩
inductive sp_init (C:Addr) (vs:List V) (H:Hp) (Q:VK) (E_:XK):Prop
 | mk (p dx:Addr) (L:Kn) (_:vs=[.ref p]) (_:Has H ((p,.ins C dx [])::(dx,.own p)::L)) (_:∀ H' A,A.p=p->Has H' (yL C A y0++L)->Q .non H'):sp_init C vs H Q E_
inductive sp_end_trail (C:Addr) (vs:List V) (H:Hp) (Q:VK) (E_:XK):Prop
 | mk (A:YA) (y:YR) (L:Kn) (_:vs=[.ref A.p]) (_:Has H (yL C A y++L)) (_:∀ H' q,Has H' (yL C { A with tr:=q } { y with trail:=[] }++L)->Q .non H'):sp_end_trail C vs H Q E_
theorem lL {H:Hp}{C p dx a1 a2 a3 a4 a5 a7 a8:Addr}{fs:List (Str×V)}{L:Kn} (h:Has H ((a8,.lst [])::(a7,.lst [])::(a5,.dT [])::(a4,.lst [])::(a3,.dK [])::(a2,.dK [])::(a1,.dK [])::(p,.ins C dx fs)::(dx,.own p)::L)) :
  Has H ([(a8,.lst []),(p,.ins C dx fs),(dx,.own p),(a1,.dK []),(a2,.dK []),(a3,.dK []),(a4,.lst []),(a5,.dT []),(a7,.lst [])]++L):=by
 refine h.perm ?_
 refine .cons _ ?_
 show List.Perm ([(a7,HO.lst []),(a5,.dT []),(a4,.lst []),(a3,.dK []),(a2,.dK []),(a1,.dK []),(p,.ins C dx fs),(dx,.own p)]++L) ([(p,.ins C dx fs),(dx,.own p),(a1,.dK []),(a2,.dK []),(a3,.dK []),(a4,.lst []),(a5,.dT []),(a7,.lst [])]++L)
 refine List.Perm.append_right L ?_
 have e:[(a7,HO.lst []),(a5,.dT []),(a4,.lst []),(a3,.dK []),(a2,.dK []),(a1,.dK []),(p,.ins C dx fs),(dx,.own p)]=[(a7,HO.lst []),(a5,.dT []),(a4,.lst []),(a3,.dK []),(a2,.dK []),(a1,.dK [])]++[(p,.ins C dx fs),(dx,.own p)]:=rfl
 rw[e]
 refine List.perm_append_comm.trans ?_
 refine .cons _ (.cons _ ?_)
 exact List.reverse_perm [(a1,HO.dK []),(a2,.dK []),(a3,.dK []),(a4,.lst []),(a5,.dT []),(a7,.lst [])]
section
variable {P:Program}{w:World}{K:PySem.W.Frag}{mg:Str->Option Value}{base:Heap}{t:Adr}
theorem scYi:FnScope ["self"] ["self"] (ah sT):={}
theorem nG (T:Txt K mg t):FnOk P w K mg base CX0 1 t.f_Jz t.d_Jz ["self"] (sp_init t.c_Yard):=by
 refine T.F_Jz.ok scYi (fun vs H Q E h=>?_) (fun cdv A outer s H vs Q E hr h=>?_)
 ·obtain⟨_,_,_,rfl,_⟩:=h
  rfl
 ·obtain⟨p,dx,L,rfl,hH,q⟩:=h
  refine⟨_,(ac (ba (pv 0) ag rfl)
   (ac (ba (pv 0) d7 rfl)
   (ac (ba (pv 0) d7 rfl)
   (ac (ba (pv 0) d7 rfl)
   (ac (ba (pv 0) (bb ae) rfl)
   (ac (ba (pv 0) np rfl)
   (ac (ba (pv 0) aV rfl)
   (ac (ba (pv 0) (bb ae) rfl)
   (af (ba (pv 0) (bb ae) rfl)))))))))),?_⟩
  refine⟨_,U,p,_,dx,_,U,hH.get 0 U,T.cl_Yard,T.n_Yard_next_piece,(show 0<1000 by decide),?_⟩
  have h1:=hH.puti 0 U (.ins t.c_Yard dx (bg ("next_piece" : Str) (V.int 0) ([]:List (Str×V))))
  rw[show bg ("next_piece" : Str) (V.int 0) ([]:List (Str×V))=([(("next_piece" : Str),V.int 0)]:List (Str×V)) from by kernel_rfl] at h1 ⊢
  generalize upd H p _=H1 at h1 ⊢
  intro a1 n1
  refine⟨_,U,p,_,dx,_,U,(h1.alloc n1 (.dK [])).get 1 U,T.cl_Yard,T.n_Yard_kinds,(show 1<1000 by decide),?_⟩
  have h2:=(h1.alloc n1 (.dK [])).puti 1 U (.ins t.c_Yard dx (bg ("kinds" : Str) (V.ref a1) ([(("next_piece" : Str),V.int 0)]:List (Str×V))))
  rw[show bg ("kinds" : Str) (V.ref a1) ([(("next_piece" : Str),V.int 0)]:List (Str×V))=([(("next_piece" : Str),V.int 0),(("kinds" : Str),V.ref a1)]:List (Str×V)) from by kernel_rfl] at h2 ⊢
  generalize upd (upd H1 a1 _) p _=H2 at h2 ⊢
  intro a2 n2
  refine⟨_,U,p,_,dx,_,U,(h2.alloc n2 (.dK [])).get 2 U,T.cl_Yard,T.n_Yard_notes,(show 2<1000 by decide),?_⟩
  have h3:=(h2.alloc n2 (.dK [])).puti 2 U (.ins t.c_Yard dx (bg ("notes" : Str) (V.ref a2) ([(("next_piece" : Str),V.int 0),(("kinds" : Str),V.ref a1)]:List (Str×V))))
  rw[show bg ("notes" : Str) (V.ref a2) ([(("next_piece" : Str),V.int 0),(("kinds" : Str),V.ref a1)]:List (Str×V))=([(("next_piece" : Str),V.int 0),(("kinds" : Str),V.ref a1),(("notes" : Str),V.ref a2)]:List (Str×V)) from by kernel_rfl] at h3 ⊢
  generalize upd (upd H2 a2 _) p _=H3 at h3 ⊢
  intro a3 n3
  refine⟨_,U,p,_,dx,_,U,(h3.alloc n3 (.dK [])).get 3 U,T.cl_Yard,T.n_J31_under,(show 3<1000 by decide),?_⟩
  have h4:=(h3.alloc n3 (.dK [])).puti 3 U (.ins t.c_Yard dx (bg ("rods_under" : Str) (V.ref a3) ([(("next_piece" : Str),V.int 0),(("kinds" : Str),V.ref a1),(("notes" : Str),V.ref a2)]:List (Str×V))))
  rw[show bg ("rods_under" : Str) (V.ref a3) ([(("next_piece" : Str),V.int 0),(("kinds" : Str),V.ref a1),(("notes" : Str),V.ref a2)]:List (Str×V))=([(("next_piece" : Str),V.int 0),(("kinds" : Str),V.ref a1),(("notes" : Str),V.ref a2),(("rods_under" : Str),V.ref a3)]:List (Str×V)) from by kernel_rfl] at h4 ⊢
  generalize upd (upd H3 a3 _) p _=H4 at h4 ⊢
  refine⟨by decide,fun a4 n4=>?_⟩
  refine⟨_,U,p,_,dx,_,U,(h4.alloc n4 (.lst [])).get 4 U,T.cl_Yard,T.n_Yard_sides,(show 4<1000 by decide),?_⟩
  have h5:=(h4.alloc n4 (.lst [])).puti 4 U (.ins t.c_Yard dx (bg ("sides" : Str) (V.ref a4) ([(("next_piece" : Str),V.int 0),(("kinds" : Str),V.ref a1),(("notes" : Str),V.ref a2),(("rods_under" : Str),V.ref a3)]:List (Str×V))))
  rw[show bg ("sides" : Str) (V.ref a4) ([(("next_piece" : Str),V.int 0),(("kinds" : Str),V.ref a1),(("notes" : Str),V.ref a2),(("rods_under" : Str),V.ref a3)]:List (Str×V))=([(("next_piece" : Str),V.int 0),(("kinds" : Str),V.ref a1),(("notes" : Str),V.ref a2),(("rods_under" : Str),V.ref a3),(("sides" : Str),V.ref a4)]:List (Str×V)) from by kernel_rfl] at h5 ⊢
  generalize upd (upd H4 a4 _) p _=H5 at h5 ⊢
  intro a5 n5
  refine⟨_,U,p,_,dx,_,U,(h5.alloc n5 (.dT [])).get 5 U,T.cl_Yard,T.n_Yard_mates,(show 5<1000 by decide),?_⟩
  have h6:=(h5.alloc n5 (.dT [])).puti 5 U (.ins t.c_Yard dx (bg ("mates" : Str) (V.ref a5) ([(("next_piece" : Str),V.int 0),(("kinds" : Str),V.ref a1),(("notes" : Str),V.ref a2),(("rods_under" : Str),V.ref a3),(("sides" : Str),V.ref a4)]:List (Str×V))))
  rw[show bg ("mates" : Str) (V.ref a5) ([(("next_piece" : Str),V.int 0),(("kinds" : Str),V.ref a1),(("notes" : Str),V.ref a2),(("rods_under" : Str),V.ref a3),(("sides" : Str),V.ref a4)]:List (Str×V))=([(("next_piece" : Str),V.int 0),(("kinds" : Str),V.ref a1),(("notes" : Str),V.ref a2),(("rods_under" : Str),V.ref a3),(("sides" : Str),V.ref a4),(("mates" : Str),V.ref a5)]:List (Str×V)) from by kernel_rfl] at h6 ⊢
  generalize upd (upd H5 a5 _) p _=H6 at h6 ⊢
  refine⟨_,U,p,_,dx,_,U,h6.get 5 U,T.cl_Yard,T.n_Jd_end,(show 6<1000 by decide),?_⟩
  have h7:=h6.puti 5 U (.ins t.c_Yard dx (bg ("engine_end" : Str) (V.non) ([(("next_piece" : Str),V.int 0),(("kinds" : Str),V.ref a1),(("notes" : Str),V.ref a2),(("rods_under" : Str),V.ref a3),(("sides" : Str),V.ref a4),(("mates" : Str),V.ref a5)]:List (Str×V))))
  rw[show bg ("engine_end" : Str) (V.non) ([(("next_piece" : Str),V.int 0),(("kinds" : Str),V.ref a1),(("notes" : Str),V.ref a2),(("rods_under" : Str),V.ref a3),(("sides" : Str),V.ref a4),(("mates" : Str),V.ref a5)]:List (Str×V))=([(("next_piece" : Str),V.int 0),(("kinds" : Str),V.ref a1),(("notes" : Str),V.ref a2),(("rods_under" : Str),V.ref a3),(("sides" : Str),V.ref a4),(("mates" : Str),V.ref a5),(("engine_end" : Str),V.non)]:List (Str×V)) from by kernel_rfl] at h7 ⊢
  generalize upd H6 p _=H7 at h7 ⊢
  refine⟨by decide,fun a7 n7=>?_⟩
  refine⟨_,U,p,_,dx,_,U,(h7.alloc n7 (.lst [])).get 6 U,T.cl_Yard,T.n_Yard_rung,(show 7<1000 by decide),?_⟩
  have h8:=(h7.alloc n7 (.lst [])).puti 6 U (.ins t.c_Yard dx (bg ("rung" : Str) (V.ref a7) ([(("next_piece" : Str),V.int 0),(("kinds" : Str),V.ref a1),(("notes" : Str),V.ref a2),(("rods_under" : Str),V.ref a3),(("sides" : Str),V.ref a4),(("mates" : Str),V.ref a5),(("engine_end" : Str),V.non)]:List (Str×V))))
  rw[show bg ("rung" : Str) (V.ref a7) ([(("next_piece" : Str),V.int 0),(("kinds" : Str),V.ref a1),(("notes" : Str),V.ref a2),(("rods_under" : Str),V.ref a3),(("sides" : Str),V.ref a4),(("mates" : Str),V.ref a5),(("engine_end" : Str),V.non)]:List (Str×V))=([(("next_piece" : Str),V.int 0),(("kinds" : Str),V.ref a1),(("notes" : Str),V.ref a2),(("rods_under" : Str),V.ref a3),(("sides" : Str),V.ref a4),(("mates" : Str),V.ref a5),(("engine_end" : Str),V.non),(("rung" : Str),V.ref a7)]:List (Str×V)) from by kernel_rfl] at h8 ⊢
  generalize upd (upd H7 a7 _) p _=H8 at h8 ⊢
  refine⟨by decide,fun a8 n8=>?_⟩
  refine⟨_,U,p,_,dx,_,U,(h8.alloc n8 (.lst [])).get 7 U,T.cl_Yard,T.n_Yard_trail,(show 8<1000 by decide),?_⟩
  refine q _ ⟨p,dx,a8,a1,a2,a3,a4,a5,a7⟩ rfl ?_
  have h9:=(h8.alloc n8 (.lst [])).puti 7 U (.ins t.c_Yard dx (bg ("trail" : Str) (V.ref a8) ([(("next_piece" : Str),V.int 0),(("kinds" : Str),V.ref a1),(("notes" : Str),V.ref a2),(("rods_under" : Str),V.ref a3),(("sides" : Str),V.ref a4),(("mates" : Str),V.ref a5),(("engine_end" : Str),V.non),(("rung" : Str),V.ref a7)]:List (Str×V))))
  rw[show bg ("trail" : Str) (V.ref a8) ([(("next_piece" : Str),V.int 0),(("kinds" : Str),V.ref a1),(("notes" : Str),V.ref a2),(("rods_under" : Str),V.ref a3),(("sides" : Str),V.ref a4),(("mates" : Str),V.ref a5),(("engine_end" : Str),V.non),(("rung" : Str),V.ref a7)]:List (Str×V))=([(("next_piece" : Str),V.int 0),(("kinds" : Str),V.ref a1),(("notes" : Str),V.ref a2),(("rods_under" : Str),V.ref a3),(("sides" : Str),V.ref a4),(("mates" : Str),V.ref a5),(("engine_end" : Str),V.non),(("rung" : Str),V.ref a7),(("trail" : Str),V.ref a8)]:List (Str×V)) from by kernel_rfl] at h9 ⊢
  exact lL h9
end
noncomputable def aN (y:YR) (k:Kd) (note:Int) (rod:V):YR :=
 { y with next:=y.next+1,kinds:=aH y.kinds (Sum.inl y.next) (.str k.str),notes:=if k=.bell then aH y.notes (Sum.inl y.next) (.int note) else y.notes,rods:=if k.point then aH y.rods (Sum.inl y.next) (if rod=.non then .int y.sides.length else rod) else y.rods,sides:=if k.point/\rod=.non then y.sides++[.int 1] else y.sides,trail:=[] }
structure cc (y:YR):Prop where
 k:y.kinds.length<=10000
 n:y.notes.length<=10000
 r:y.rods.length<=10000
 s:y.sides.length<=10000
 m:y.mates.length<=30000
 g:y.rung.length<=300000
 t:y.trail.length<=300000
inductive sp_check_piece (C:Addr) (vs:List V) (H:Hp) (Q:VK) (E_:XK):Prop
 | mk (A:YA) (y:YR) (L:Kn) (n:Int) (v:V) (_:vs=[.ref A.p,.int n]) (_:Has H (yL C A y++L)) (_:ak y.kinds (Sum.inl n)=some v) (_:Q .non H):sp_check_piece C vs H Q E_
inductive sp_check_rod (C:Addr) (vs:List V) (H:Hp) (Q:VK) (E_:XK):Prop
 | mk (A:YA) (y:YR) (L:Kn) (r:Int) (_:vs=[.ref A.p,.int r]) (_:Has H (yL C A y++L)) (_:0<=r) (_:r<y.sides.length) (_:Q .non H):sp_check_rod C vs H Q E_
inductive sp_Jh (vs:List V) (H:Hp) (Q:VK) (E_:XK):Prop
 | mk (n:Int) (_:vs=[.int n]) (_:0<=n) (_:n<=9999) (_:Q .non H):sp_Jh vs H Q E_
inductive sp_new_rod (C:Addr) (vs:List V) (H:Hp) (Q:VK) (E_:XK):Prop
 | mk (A:YA) (y:YR) (L:Kn) (s:Int) (_:vs=[.ref A.p,.int s]) (_:Has H (yL C A y++L)) (_:(s=1∨s=2)) (_:y.sides.length<=10000) (_:∀ H' q,Has H' (yL C { A with tr:=q } { y with sides:=y.sides++[.int s],trail:=[] }++L)->Q (.int y.sides.length) H'):sp_new_rod C vs H Q E_
inductive sp_throw (C:Addr) (vs:List V) (H:Hp) (Q:VK) (E_:XK):Prop
 | mk (A:YA) (y:YR) (L:Kn) (r s:Int) (_:vs=[.ref A.p,.int r,.int s]) (_:Has H (yL C A y++L)) (_:0<=r) (_:r<y.sides.length) (_:(s=1∨s=2)) (_:∀ H' q,Has H' (yL C { A with tr:=q } { y with sides:=y.sides.set r.toNat (.int s),trail:=[] }++L)->Q .non H'):sp_throw C vs H Q E_
inductive sp_rods (C:Addr) (vs:List V) (H:Hp) (Q:VK) (E_:XK):Prop
 | mk (A:YA) (y:YR) (L:Kn) (_:vs=[.ref A.p]) (_:Has H (yL C A y++L)) (_:cc y) (_:∀ H' l,Has H' ((l,.lst (aX y.sides.length))::(yL C A y++L))->Q (.ref l) H'):sp_rods C vs H Q E_
inductive sp_side (C:Addr) (vs:List V) (H:Hp) (Q:VK) (E_:XK):Prop
 | mk (A:YA) (y:YR) (L:Kn) (r:Int) (v:V) (_:vs=[.ref A.p,.int r]) (_:Has H (yL C A y++L)) (_:0<=r) (_:y.sides[r.toNat]?=some v) (_:Q v H):sp_side C vs H Q E_
inductive sp_rod (C:Addr) (vs:List V) (H:Hp) (Q:VK) (E_:XK):Prop
 | mk (A:YA) (y:YR) (L:Kn) (n:Int) (u v:V) (_:vs=[.ref A.p,.int n]) (_:Has H (yL C A y++L)) (_:ak y.kinds (Sum.inl n)=some u) (_:ak y.rods (Sum.inl n)=some v) (_:Q v H):sp_rod C vs H Q E_
inductive sp_lay (C:Addr) (vs:List V) (H:Hp) (Q:VK) (E_:XK):Prop
 | mk (A:YA) (y:YR) (L:Kn) (k:Kd) (note:Int) (rod:V) (_:vs=[.ref A.p,.str k.str,.int note,rod]) (_:Has H (yL C A y++L)) (_:cc y) (_:(k=.bell->0<=note/\note<=9999)) (_:(k.point=true->rod≠.non->∃ r:Int,rod=.int r/\0<=r/\r<y.sides.length)) (_:∀ H' q,Has H' (yL C { A with tr:=q } (aN y k note rod)++L)->Q (.int y.next) H'):sp_lay C vs H Q E_
section
variable {P:Program}{w:World}{K:PySem.W.Frag}{mg:Str->Option Value}{base:Heap}{t:Adr}
theorem scEt:FnScope ["self"] ["self"] (ah tQ):={}
theorem g7 (T:Txt K mg t):FnOk P w K mg base CX0 1 t.f_J5 t.d_J5 ["self"] (sp_end_trail t.c_Yard):=by
 refine T.F_J5.ok scEt (fun vs H Q E h=>?_) (fun cdv A outer s H vs Q E hr h=>?_)
 ·obtain⟨_,_,_,rfl,_⟩:=h
  rfl
 ·obtain⟨A,y,L,rfl,hH,q⟩:=h
  refine⟨_,(af (ba (pv 0) (bb ae) rfl)),?_⟩
  refine⟨by decide,fun a ha=>?_⟩
  have h1:=hH.alloc ha (.lst [])
  refine⟨_,U,A.p,_,A.dx,_,U,h1.get 2 U,T.cl_Yard,T.n_Yard_trail,(show 9<1000 by decide),?_⟩
  refine q _ a ?_
  rw[iI]
  have h2:=(h1.puti 2 U (.ins t.c_Yard A.dx (fl { A with tr:=a } y.next y.eng)))
  exact(h2.swap2).tail
theorem scCr:FnScope ["self","rod"] ["self","rod"] (ah tP):={}
theorem nK (T:Txt K mg t):FnOk P w K mg base CX0 1 t.f_J6 t.d_J6 ["self","rod"] (sp_check_rod t.c_Yard):=by
 refine T.F_J6.ok scCr (fun vs H Q E h=>?_) (fun cdv A outer s H vs Q E hr h=>?_)
 ·obtain⟨_,_,_,_,rfl,_⟩:=h
  rfl
 ·obtain⟨A,y,L,r,rfl,hH,r0,r1,q⟩:=h
  refine⟨_,(af (aA (PW.pt (dl (ai fh (pv 1) ag (am _)) (cO (ai nw (pv 1) (aG ay (by rfl) T.z_len (by rfl) (aa (aB (pv 0) rfl) ae)) (am _)))))
    (af aR)
    aj)),?_⟩
  refine⟨_,U,_,_,U,U,_,U,ifF (decide_eq_false (by omega)) ?_⟩
  refine⟨_,U,_,U,A.p,_,A.dx,_,_,U,hH.get 1 U,T.cl_Yard,T.n_Yard_sides,bE _ _ _,A.s,_,U,.inl (SqL.of (hH.get 6 U)),_,_,U,U,_,U,?_⟩
  exact ifF (decide_eq_false (by omega)) q
theorem scCn:FnScope ["note"] ["note"] (ah tE):={}
theorem qE (T:Txt K mg t):FnOk P w K mg base CX0 1 t.f_Jh t.d_Jh ["note"] sp_Jh:=by
 refine T.F_Jh.ok scCn (fun vs H Q E h=>?_) (fun cdv A outer s H vs Q E hr h=>?_)
 ·obtain⟨_,rfl,_⟩:=h
  rfl
 ·obtain⟨n,rfl,n0,n1,q⟩:=h
  refine⟨_,(af (aA (PW.pt (dl (ai fh (pv 0) ag (am _)) (cO (ai dG (pv 0) (bU (by rfl) T.g_LAST_NOTE T.r_LAST_NOTE) (am _)))))
    (af aR)
    aj)),?_⟩
  refine⟨_,U,_,_,U,U,_,U,ifF (decide_eq_false (by omega)) ?_⟩
  refine⟨_,U,_,_,U,U,_,U,ifF (decide_eq_false (by omega)) q⟩
theorem scCp:FnScope ["self","piece"] ["self","piece"] (ah tS):={}
theorem jf (T:Txt K mg t):FnOk P w K mg base CX0 1 t.f_J2 t.d_J2 ["self","piece"] (sp_check_piece t.c_Yard):=by
 refine T.F_J2.ok scCp (fun vs H Q E h=>?_) (fun cdv A outer s H vs Q E hr h=>?_)
 ·obtain⟨_,_,_,_,_,rfl,_⟩:=h
  rfl
 ·obtain⟨A,y,L,n,v,rfl,hH,hv,q⟩:=h
  have hu:=cV hr
  refine⟨_,(af (aA (dM (dD hu (pv 1) (aB (pv 0) rfl)))
    (af aR)
    aj)),?_⟩
  refine⟨_,U,_,U,A.p,_,A.dx,_,_,U,hH.get 1 U,T.cl_Yard,T.n_Yard_kinds,bY _ _ _,A.k,_,U,DGet.k (k:=Sum.inl n) (hH.get 3 U),_,U,?_⟩
  exact ifF (by rw[hv]; rfl) q
theorem scNr:FnScope ["self","side"] ["self","side"] (ah tM):={}
theorem qF (T:Txt K mg t):FnOk P w K mg base CX0 2 t.f_J9 t.d_J9 ["self","side"] (sp_new_rod t.c_Yard):=by
 refine T.F_J9.ok scNr (fun vs H Q E h=>?_) (fun cdv A outer s H vs Q E hr h=>?_)
 ·obtain⟨_,_,_,_,rfl,_⟩:=h
  rfl
 ·obtain⟨A,y,L,z,rfl,hH,hz,sm,q⟩:=h
  refine⟨_,(ac (al (pcl (nI T) hr T.m_Jm T.F_Jm.kp (sK T) (aa (pv 1) ae)))
   (ac (al (bV PySem.F.plainAttrs_list PySem.F.slot_list_append PySem.F.type_list_append aZ (aB (pv 0) rfl) (aa (pv 1) ae)))
   (ac (al (aC (pv 0) T.cl_Yard T.M_J5 (g7 T) hr (lY T) .nil ap))
   (af (aq (az cR (aG ay (by rfl) T.z_len (by rfl) (aa (aB (pv 0) rfl) ae)) ag)))))),?_⟩
  refine⟨_,U,z,U,hz,?_⟩
  refine⟨_,U,A.p,_,A.dx,_,_,U,hH.get 1 U,T.cl_Yard,T.n_Yard_sides,bE _ _ _,.inl ⟨U,_,SqL.of (hH.get 6 U)⟩,_,U,A.s,_,_,U,U,hH.get 6 U,sizeOk (by omega),?_⟩
  have h1:Has _ (yL t.c_Yard A { y with sides:=y.sides++[.int z] }++L):=hH.puti 6 U (.lst (y.sides++[.int z]))
  refine⟨_,U,A.p,A.dx,_,U,h1.get 1 U,(aY _ _ _).2.2.2.2.2.2.1,A,_,L,U,h1,fun H' a h2=>?_⟩
  refine⟨_,U,A.p,_,A.dx,_,_,U,h2.get 1 U,T.cl_Yard,T.n_Yard_sides,bE _ _ _,A.s,_,U,.inl (SqL.of (h2.get 6 U)),_,_,U,U,?_⟩
  have e:((y.sides++[V.int z]).length:Int) - 1=y.sides.length:=by rw[uq,uB]; omega
  show Q (.int (((y.sides++[V.int z]).length:Int) - 1)) H'
  rw[e]
  exact q H' a h2
theorem scTh:FnScope ["self","rod","side"] ["self","rod","side"] (ah tf):={}
theorem nH (T:Txt K mg t):FnOk P w K mg base CX0 2 t.f_Jr t.d_Jr ["self","rod","side"] (sp_throw t.c_Yard):=by
 refine T.F_Jr.ok scTh (fun vs H Q E h=>?_) (fun cdv A outer s H vs Q E hr h=>?_)
 ·obtain⟨_,_,_,_,_,rfl,_⟩:=h
  rfl
 ·obtain⟨A,y,L,r,z,rfl,hH,r0,r1,hz,q⟩:=h
  refine⟨_,(ac (al (ao (pv 0) T.cl_Yard T.M_J6 (nK T) hr (sM T) .nil ap (aa (pv 1) ae)))
   (ac (al (pcl (nI T) hr T.m_Jm T.F_Jm.kp (sK T) (aa (pv 2) ae)))
   (ac (bJ (pv 2) (dN (aB (pv 0) rfl) (pv 1) cE))
   (af (al (aC (pv 0) T.cl_Yard T.M_J5 (g7 T) hr (lY T) .nil ap)))))),?_⟩
  refine⟨_,U,A.p,A.dx,_,U,hH.get 1 U,(aY _ _ _).2.2.2.2.2.2.2.2,_,U,A,y,L,r,U,hH,r0,r1,?_⟩
  refine⟨_,U,z,U,hz,?_⟩
  have hj:ixN y.sides.length r=some r.toNat:=by unfold ixN; rw[if_pos r0,if_pos r1]
  refine⟨_,U,_,U,A.p,_,A.dx,_,_,U,hH.get 1 U,T.cl_Yard,T.n_Yard_sides,bE _ _ _,_,U,A.s,_,r,r.toNat,U,U,hH.get 6 U,hj,?_⟩
  have h1:Has _ (yL t.c_Yard A { y with sides:=y.sides.set r.toNat (.int z) }++L):=hH.puti 6 U (.lst (y.sides.set r.toNat (.int z)))
  exact⟨_,U,A.p,A.dx,_,U,h1.get 1 U,(aY _ _ _).2.2.2.2.2.2.1,A,_,L,U,h1,fun H' a h2=>q H' a h2⟩
theorem scRs:FnScope ["self"] ["self"] (ah qv):={}
theorem du (T:Txt K mg t):FnOk P w K mg base CX0 1 t.f_J31 t.d_J31 ["self"] (sp_rods t.c_Yard):=by
 refine T.F_J31.ok scRs (fun vs H Q E h=>?_) (fun cdv A outer s H vs Q E hr h=>?_)
 ·obtain⟨_,_,_,rfl,_⟩:=h
  rfl
 ·obtain⟨A,y,L,rfl,hH,sm,q⟩:=h
  refine⟨_,(af (aq (aU (gN rfl) (by rfl) T.z_list (by rfl) (aa (aU jy (by rfl) T.z_range (by rfl) (aa (aG ay (by rfl) T.z_len (by rfl) (aa (aB (pv 0) rfl) ae)) ae)) ae)))),?_⟩
  have:=sm.s
  refine⟨_,U,A.p,_,A.dx,_,_,U,hH.get 1 U,T.cl_Yard,T.n_Yard_sides,bE _ _ _,A.s,_,U,.inl (SqL.of (hH.get 6 U)),_,U,fun a ha=>?_⟩
  have h1:=hH.alloc ha (.rng 0 y.sides.length)
  refine⟨a,_,U,h1.get 0 U,by omega,by omega,fun l hl=>?_⟩
  have h2:=h1.alloc hl (.lst (aX ((y.sides.length:Int)).toNat))
  refine q _ l ?_
  exact h2.swap2.tail
theorem scSi:FnScope ["self","rod"] ["self","rod"] (ah qu):={}
theorem dt (T:Txt K mg t):FnOk P w K mg base CX0 2 t.f_J41 t.d_J41 ["self","rod"] (sp_side t.c_Yard):=by
 refine T.F_J41.ok scSi (fun vs H Q E h=>?_) (fun cdv A outer s H vs Q E hr h=>?_)
 ·obtain⟨_,_,_,_,_,rfl,_⟩:=h
  rfl
 ·obtain⟨A,y,L,r,v,rfl,hH,r0,hv,q⟩:=h
  have r1:r<y.sides.length:=by have:=(List.getElem?_eq_some_iff.mp hv).1; omega
  have er:(r.toNat:Int)=r:=by omega
  refine⟨_,(ac (al (ao (pv 0) T.cl_Yard T.M_J6 (nK T) hr (sM T) .nil ap (aa (pv 1) ae)))
   (af (aq (aF ar (aB (pv 0) rfl) (pv 1))))),?_⟩
  refine⟨_,U,A.p,A.dx,_,U,hH.get 1 U,(aY _ _ _).2.2.2.2.2.2.2.2,_,U,A,y,L,r,U,hH,r0,r1,?_⟩
  exact⟨_,U,A.p,_,A.dx,_,_,U,hH.get 1 U,T.cl_Yard,T.n_Yard_sides,bE _ _ _,_,U,A.s,_,r,v,U,U,SqL.of (hH.get 6 U),(by rw[<- er]; exact aL hv),q⟩
theorem scRo:FnScope ["self","piece"] ["self","piece"] (ah qk):={}
theorem jN (T:Txt K mg t):FnOk P w K mg base CX0 2 t.f_Jc1 t.d_Jc1 ["self","piece"] (sp_rod t.c_Yard):=by
 refine T.F_Jc1.ok scRo (fun vs H Q E h=>?_) (fun cdv A outer s H vs Q E hr h=>?_)
 ·obtain⟨_,_,_,_,_,_,rfl,_⟩:=h
  rfl
 ·obtain⟨A,y,L,n,u,v,rfl,hH,hk,hv,q⟩:=h
  have hu:=cV hr
  refine⟨_,(ac (al (ao (pv 0) T.cl_Yard T.M_J2 (jf T) hr (oM T) .nil ap (aa (pv 1) ae)))
   (ac (aA (dM (dD hu (pv 1) (aB (pv 0) rfl)))
    (af aR)
    aj)
   (af (aq (db hu (aB (pv 0) rfl) (pv 1)))))),?_⟩
  refine⟨_,U,A.p,A.dx,_,U,hH.get 1 U,(aY _ _ _).2.2.2.2.2.2.2.1,_,U,A,y,L,n,u,U,hH,hk,?_⟩
  refine⟨_,U,_,U,A.p,_,A.dx,_,_,U,hH.get 1 U,T.cl_Yard,T.n_J31_under,cq _ _ _,A.r,_,U,DGet.k (k:=Sum.inl n) (hH.get 5 U),_,U,ifF (by rw[hv]; rfl) ?_⟩
  refine⟨_,U,A.p,_,A.dx,_,_,U,hH.get 1 U,T.cl_Yard,T.n_J31_under,cq _ _ _,_,U,A.r,_,U,?_,q⟩
  rw[<- hv]
  exact DGet.k (k:=Sum.inl n) (hH.get 5 U)
theorem scLy:FnScope ["self","kind","note","rod","point","piece"] ["self","kind","note","rod"] (ah qm):={}
theorem cG (T:Txt K mg t):FnOk P w K mg base CX0 3 t.f_Ja1 t.d_Ja1 ["self","kind","note","rod"] (sp_lay t.c_Yard):=by
 obtain⟨ds_nr,hd_J9_1,hb_J9_1⟩:=pZ T
 refine T.F_Ja1.ok scLy (fun vs H Q E h=>?_) (fun cdv A outer s H vs Q E hr h=>?_)
 ·obtain⟨_,_,_,_,_,_,rfl,_⟩:=h
  rfl
 ·obtain⟨A,y,L,k,note,rod,rfl,hH,sm,hnote,hrod,q⟩:=h
  have hu:=cV hr
  refine⟨_,(ac (aD (i:=4) scLy.nd rfl (Or.inl rfl) (pcl (iA T) hr T.m_J91 T.F_J91.kp (kW T) (aa (pv 1) ae)))
   (ac (aA (ai bq (pv 1) aJ (am _))
    (af (al (pcl (qE T) hr T.m_Jh T.F_Jh.kp (ue T) (aa (pv 2) ae))))
    aj)
   (ac (aA (PW.pt (dL (bx (pv 4)) (da (ai cz (pv 3) aV (am _)))))
    (af (al (ao (pv 0) T.cl_Yard T.M_J6 (nK T) hr (sM T) .nil ap (aa (pv 3) ae))))
    aj)
   (ac (aD (i:=5) scLy.nd rfl (Or.inl rfl) (aB (pv 0) rfl))
   (ac (gU (pv 0) ag og)
   (ac (dA hu (aB (pv 0) rfl) (pv 5) (pv 1) rfl)
   (ac (aA (ai bq (pv 1) aJ (am _))
    (af (dA hu (aB (pv 0) rfl) (pv 5) (pv 2) rfl))
    aj)
   (ac (aA (bx (pv 4))
    (af (dA hu (aB (pv 0) rfl) (pv 5) (dn (ai dq (pv 3) aV (am _)) (aC (pv 0) T.cl_Yard T.M_J9 (qF T) hr hb_J9_1 hd_J9_1 ap) (pv 3)) rfl))
    aj)
   (ac (al (aC (pv 0) T.cl_Yard T.M_J5 (g7 T) hr (lY T) .nil ap))
   (af (aq (pv 5)))))))))))),?_⟩
  refine⟨_,U,k,U,?_⟩
  refine⟨_,U,U,_,U,ifJ (fun hc g=>?_) ?_⟩
  ·rw[k.isBell] at hc
   have hb:=hnote (of_decide_eq_true hc)
   exact⟨_,U,note,U,hb.1,hb.2,g⟩
  refine⟨_,U,_,U,?_⟩
  refine(fun(g:_)=>if2 (fun hp=>⟨_,U,U,_,U,ifJ (fun hc g'=>?a) g⟩) (fun hp=>bA g)) ?b
  case a=>
   have hn:rod≠.non:=by simpa using hc
   obtain⟨r,rfl,r0,r1⟩:=hrod hp hn
   exact⟨_,U,A.p,A.dx,_,U,hH.get 1 U,(aY _ _ _).2.2.2.2.2.2.2.2,_,U,A,y,L,r,U,hH,r0,r1,g'⟩
  refine⟨_,U,A.p,_,A.dx,_,_,U,hH.get 1 U,T.cl_Yard,T.n_Yard_next_piece,eK _ _ _,?_⟩
  refine⟨_,U,A.p,_,A.dx,_,_,U,hH.get 1 U,T.cl_Yard,T.n_Yard_next_piece,eK _ _ _,_,_,U,U,_,_,hH.get 1 U,(show 9<1000 by decide),?_⟩
  rw[cN]
  have h1:Has _ (yL t.c_Yard A { y with next:=y.next+1 }++L):=hH.puti 1 U (.ins t.c_Yard A.dx (fl A (y.next+1) y.eng))
  generalize upd H A.p _=H1 at h1 ⊢
  refine⟨_,U,_,U,A.p,_,A.dx,_,_,U,h1.get 1 U,T.cl_Yard,T.n_Yard_kinds,bY _ _ _,_,U,A.k,_,U,DPut.k (k:=Sum.inl y.next) (h1.get 3 U) (sizeOk (show y.kinds.length<=1000000 by have:=sm.k; omega)),?_⟩
  have h2:Has _ (yL t.c_Yard A { y with next:=y.next+1,kinds:=aH y.kinds (Sum.inl y.next) (.str k.str) }++L):=h1.puti 3 U (.dK (aH y.kinds (Sum.inl y.next) (.str k.str)))
  generalize upd H1 A.k _=H2 at h2 ⊢
  refine⟨_,U,U,_,U,?_⟩
  rw[k.isBell]
  have fin:∀ (H3:Hp) (A3:YA) (y3:YR),A3.p=A.p->(∀ q,{ A3 with tr:=q }={ A with tr:=q })->{ y3 with trail:=[] }=aN y k note rod->Has H3 (yL t.c_Yard A3 y3++L) ->
    sP (qb (mI t.c_Yard "end_trail" (sp_end_trail t.c_Yard) [] E0 (oU 0) jG)) (sQ (oU 5)) { nx:=fun _ H'=>Q .non H',rt:=Q } [some (.ref A.p),some (.str k.str),some (.int note),some rod,some (.bl k.point),some (.int y.next)] H3:=fun H3 A3 y3 e1 e2 e3 h3=>by
   have g1:=h3.get 1 rfl
   rw[e1] at g1
   refine⟨_,U,A.p,A3.dx,_,U,g1,(aY _ _ _).2.2.2.2.2.2.1,A3,y3,L,(by rw[e1]; rfl),h3,fun H4 a h4=>⟨_,U,?_⟩⟩
   rw[e2,e3] at h4
   exact q H4 a h4
  refine ifd (fun hb=>?_) (fun hb=>?_)
  ·subst hb
   refine⟨_,U,_,U,A.p,_,A.dx,_,_,U,h2.get 1 U,T.cl_Yard,T.n_Yard_notes,bK _ _ _,_,U,A.n,_,U,DPut.k (k:=Sum.inl y.next) (h2.get 4 U) (sizeOk (show y.notes.length<=1000000 by have:=sm.n; omega)),?_⟩
   have h3:Has _ (yL t.c_Yard A { y with next:=y.next+1,kinds:=aH y.kinds (Sum.inl y.next) (.str Kd.bell.str),notes:=aH y.notes (Sum.inl y.next) (.int note) }++L):=h2.puti 4 U (.dK (aH y.notes (Sum.inl y.next) (.int note)))
   refine⟨_,U,_,U,bA ?_⟩
   exact fin _ A _ rfl (fun _=>rfl) rfl h3
  ·refine⟨_,U,_,U,if2 (fun hp=>?_) (fun hp=>?_)⟩
   ·refine⟨_,U,U,_,U,ifd (fun hn=>?_) (fun hn=>?_)⟩
    ·subst hn
     refine⟨_,U,A.p,A.dx,_,U,h2.get 1 U,(aY _ _ _).2.1,A,_,L,1,U,h2,.inl rfl,sm.s,fun H3 a h3=>?_⟩
     refine⟨_,U,A.p,_,A.dx,_,_,U,h3.get 1 U,T.cl_Yard,T.n_J31_under,cq _ _ _,_,U,A.r,_,U,DPut.k (k:=Sum.inl y.next) (h3.get 5 U) (sizeOk (show y.rods.length<=1000000 by have:=sm.r; omega)),?_⟩
     have h4:Has _ (yL t.c_Yard { A with tr:=a } { y with next:=y.next+1,kinds:=aH y.kinds (Sum.inl y.next) (.str k.str),rods:=aH y.rods (Sum.inl y.next) (.int y.sides.length),sides:=y.sides++[.int 1],trail:=[] }++L):=h3.puti 5 U (.dK (aH y.rods (Sum.inl y.next) (.int y.sides.length)))
     exact fin _ { A with tr:=a } _ rfl (fun _=>rfl) (by unfold aN; rw[if_neg hb,if_pos hp,if_pos rfl,if_pos ⟨hp,U⟩]) h4
    ·refine⟨_,U,_,U,A.p,_,A.dx,_,_,U,h2.get 1 U,T.cl_Yard,T.n_J31_under,cq _ _ _,_,U,A.r,_,U,DPut.k (k:=Sum.inl y.next) (h2.get 5 U) (sizeOk (show y.rods.length<=1000000 by have:=sm.r; omega)),?_⟩
     have h3:Has _ (yL t.c_Yard A { y with next:=y.next+1,kinds:=aH y.kinds (Sum.inl y.next) (.str k.str),rods:=aH y.rods (Sum.inl y.next) rod }++L):=h2.puti 5 U (.dK (aH y.rods (Sum.inl y.next) rod))
     exact fin _ A _ rfl (fun _=>rfl) (by unfold aN; rw[if_neg hb,if_pos hp,if_neg hn,if_neg (fun z=>hn z.2)]) h3
   ·exact fin _ A _ rfl (fun _=>rfl) (by unfold aN; rw[if_neg hb,if_neg (by rw[hp]; exact Bool.false_ne_true),if_neg (fun z=>by rw[hp] at z; exact Bool.false_ne_true z.1)]) h2
end
theorem Kd.out_point {k:Kd} (h:k.point=true) (e s:Int):k.out e s=if e=0 then .int s else .int 0:=by
 have ns:¬ k=.stop:=fun h'=>by rw[h'] at h; cases h
 unfold Kd.out; rw[if_neg ns,if_pos h]
theorem Kd.out_int {k:Kd} (h:¬ k=.stop) (e s:Int):∃ i,k.out e s=.int i:=by
 unfold Kd.out; rw[if_neg h]
 split
 ·split
  ·exact⟨_,U⟩
  ·exact⟨_,U⟩
 ·exact⟨_,U⟩
theorem Kd.many_point {k:Kd} (h:k.point=true):k.many=3:=by cases k <;> first | rfl | cases h
theorem Kd.side12 {k:Kd}{e s:Int} (e0:0<=e) (e1:e<k.many) (h:s=1∨s=2):k.side e s=1∨k.side e s=2:=by
 unfold Kd.side
 split
 ·rename_i hp
  have:=Kd.many_point hp
  split
  ·split <;> omega
  ·split <;> omega
 ·exact h
noncomputable abbrev kE (n e:Int):List Key:=[Sum.inl n,Sum.inl e]
theorem b7 (A:YA) (next:Int) (eng:V):(fl A next eng).lookup ("check_there" : Str)=none/\(fl A next eng).lookup ("mate" : Str)=none/\(fl A next eng).lookup ("link" : Str)=none/\(fl A next eng).lookup ("unlink" : Str)=none :=
 ⟨by kernel_rfl,by kernel_rfl,by kernel_rfl,by kernel_rfl⟩
noncomputable def bw (y:YR) (n e:Int):Prop:=∃ k:Kd,ak y.kinds (Sum.inl n)=some (.str k.str)/\0<=e/\e<k.many
inductive sp_check_there (C:Addr) (vs:List V) (H:Hp) (Q:VK) (E_:XK):Prop
 | mk (A:YA) (y:YR) (L:Kn) (b:Addr) (n e:Int) (j:Nat) (_:vs=[.ref A.p,.ref b]) (_:Has H (yL C A y++L)) (_:L[j]?=some (b,.tup [.int n,.int e])) (_:bw y n e) (_:Q .non H):sp_check_there C vs H Q E_
inductive sp_mate (C:Addr) (vs:List V) (H:Hp) (Q:VK) (E_:XK):Prop
 | mk (A:YA) (y:YR) (L:Kn) (b:Addr) (n e:Int) (j:Nat) (_:vs=[.ref A.p,.ref b]) (_:Has H (yL C A y++L)) (_:L[j]?=some (b,.tup [.int n,.int e])) (_:bw y n e) (_:Q ((ak y.mates (kE n e)).getD .non) H):sp_mate C vs H Q E_
inductive sp_link (C:Addr) (vs:List V) (H:Hp) (Q:VK) (E_:XK):Prop
 | mk (A:YA) (y:YR) (L:Kn) (b1 b2:Addr) (n1 e1 n2 e2:Int) (j1 j2:Nat) (_:vs=[.ref A.p,.ref b1,.ref b2]) (_:Has H (yL C A y++L)) (_:L[j1]?=some (b1,.tup [.int n1,.int e1])) (_:L[j2]?=some (b2,.tup [.int n2,.int e2])) (_:bw y n1 e1) (_:bw y n2 e2) (_:¬ kE n1 e1=kE n2 e2) (_:ak y.mates (kE n1 e1)=none) (_:ak y.mates (kE n2 e2)=none) (_:y.mates.length<=30000) (_:∀ H' q,Has H' (yL C { A with tr:=q } { y with mates:=aH (aH y.mates (kE n1 e1) (.ref b2)) (kE n2 e2) (.ref b1),trail:=[] }++L)->Q .non H'):sp_link C vs H Q E_
inductive sp_unlink (C:Addr) (vs:List V) (H:Hp) (Q:VK) (E_:XK):Prop
 | mk (A:YA) (y:YR) (L:Kn) (b1 b2:Addr) (n1 e1 n2 e2:Int) (j1 j2:Nat) (v:V) (_:vs=[.ref A.p,.ref b1]) (_:Has H (yL C A y++L)) (_:L[j1]?=some (b1,.tup [.int n1,.int e1])) (_:L[j2]?=some (b2,.tup [.int n2,.int e2])) (_:bw y n1 e1) (_:¬ kE n2 e2=kE n1 e1) (_:ak y.mates (kE n1 e1)=some (.ref b2)) (_:ak y.mates (kE n2 e2)=some v) (_:∀ H' q,Has H' (yL C { A with tr:=q } { y with mates:=ax (ax y.mates (kE n1 e1)) (kE n2 e2),trail:=[] }++L)->Q .non H'):sp_unlink C vs H Q E_
theorem bF {κ:Type} [DecidableEq κ] {kvs:List (κ×V)}{k j:κ} (h:¬ j=k):ak (ax kvs k) j=ak kvs j:=by
 induction kvs with
 | nil=>rfl
 | cons p r ih=>
  by_cases e:p.1=k
  ·rw[cW e,ih,aW (fun z=>h (z.symm.trans e))]
  ·rw[cC e]
   by_cases e2:p.1=j
   ·rw[bc e2,bc e2]
   ·rw[aW e2,aW e2,ih]
theorem valV_drop_self {κ:Type} [DecidableEq κ] {kvs:List (κ×V)}{k:κ}:ak (ax kvs k) k=none:=by
 induction kvs with
 | nil=>rfl
 | cons p r ih=>
  by_cases e:p.1=k
  ·rw[cW e,ih]
  ·rw[cC e,aW e,ih]
section
variable {P:Program}{w:World}{K:PySem.W.Frag}{mg:Str->Option Value}{base:Heap}{t:Adr}
theorem scCt:FnScope ["self","end","piece","place"] ["self","end"] (ah tT):={}
theorem kF (T:Txt K mg t):FnOk P w K mg base CX0 3 t.f_J1 t.d_J1 ["self","end"] (sp_check_there t.c_Yard):=by
 refine T.F_J1.ok scCt (fun vs H Q E h=>?_) (fun cdv A outer s H vs Q E hr h=>?_)
 ·obtain⟨_,_,_,_,_,_,_,rfl,_⟩:=h
  rfl
 ·obtain⟨A,y,L,b,n,e,j,rfl,hH,hj,⟨k,hk,e0,e1⟩,q⟩:=h
  have hu:=cV hr
  refine⟨_,(ac (bJ (pv 1) (cP rfl (aK (aw (i:=2) scCt.nd rfl (Or.inl rfl)) (aK (aw (i:=3) scCt.nd rfl (Or.inl rfl)) bH))))
   (ac (al (ao (pv 0) T.cl_Yard T.M_J2 (jf T) hr (oM T) .nil ap (aa (pv 2) ae)))
   (af (al (pcl (qB T) hr T.m_Jy T.F_Jy.kp (ub T) (aa (db hu (aB (pv 0) rfl) (pv 2)) (aa (pv 3) ae))))))),?_⟩
  have gb:=hH.get (j+9) (by simpa [yL] using hj)
  refine⟨_,U,b,_,U,SqT.of gb,U,_,_,U,_,_,U,U,?_⟩
  refine⟨_,U,A.p,A.dx,_,U,hH.get 1 U,(aY _ _ _).2.2.2.2.2.2.2.1,_,U,A,y,L,n,_,U,hH,hk,?_⟩
  refine⟨_,U,A.p,_,A.dx,_,_,U,hH.get 1 U,T.cl_Yard,T.n_Yard_kinds,bY _ _ _,_,U,A.k,_,U,?_,_,U,k,e,U,e0,e1,q⟩
  rw[<- hk]
  exact DGet.k (k:=Sum.inl n) (hH.get 3 U)
theorem scMt:FnScope ["self","end"] ["self","end"] (ah qy):={}
theorem eY (T:Txt K mg t):FnOk P w K mg base CX0 4 t.f_J01 t.d_J01 ["self","end"] (sp_mate t.c_Yard):=by
 refine T.F_J01.ok scMt (fun vs H Q E h=>?_) (fun cdv A outer s H vs Q E hr h=>?_)
 ·obtain⟨_,_,_,_,_,_,_,rfl,_⟩:=h
  rfl
 ·obtain⟨A,y,L,b,n,e,j,rfl,hH,hj,th,q⟩:=h
  have hu:=cV hr
  refine⟨_,(ac (al (ao (pv 0) T.cl_Yard T.M_J1 (kF T) hr (pX T) .nil ap (aa (pv 1) ae)))
   (af (aq (je hu (aB (pv 0) rfl) (pv 1) ⟨U,U,U,U⟩)))),?_⟩
  have gb:=hH.get (j+9) (by simpa [yL] using hj)
  refine⟨_,U,A.p,A.dx,_,U,hH.get 1 U,(b7 _ _ _).1,_,U,A,y,L,b,n,e,j,U,hH,hj,th,?_⟩
  exact⟨_,U,A.p,_,A.dx,_,_,U,hH.get 1 U,T.cl_Yard,T.n_Yard_mates,cJ _ _ _,A.m,U,.inr ⟨_,.inl (hH.get 7 U)⟩,_,U,_,DGet.t (k:=kE n e) (hH.get 7 U) gb,q⟩
theorem scLk:FnScope ["self","one","other","end"] ["self","one","other"] (ah qx):={}
theorem dO (T:Txt K mg t):FnOk P w K mg base CX0 4 t.f_J11 t.d_J11 ["self","one","other"] (sp_link t.c_Yard):=by
 refine T.F_J11.ok scLk (fun vs H Q E h=>?_) (fun cdv A outer s H vs Q E hr h=>?_)
 ·obtain⟨_,_,_,_,_,_,_,_,_,_,_,rfl,_⟩:=h
  rfl
 ·obtain⟨A,y,L,b1,b2,n1,e1,n2,e2,j1,j2,rfl,hH,hj1,hj2,t1,t2,ne,v1,v2,hl,q⟩:=h
  have hu:=cV hr
  refine⟨_,(ac (al (ao (pv 0) T.cl_Yard T.M_J1 (kF T) hr (pX T) .nil ap (aa (pv 1) ae)))
   (ac (al (ao (pv 0) T.cl_Yard T.M_J1 (kF T) hr (pX T) .nil ap (aa (pv 2) ae)))
   (ac (aA (ai (rP hr.units) (pv 1) (pv 2) (am _))
    (af aR)
    aj)
   (ac (bD PassesOwn.never rfl (rG (aI (aa (pv 1) (aa (pv 2) ae)))) (aw (i:=3) scLk.nd rfl (Or.inl rfl))
    (af (aA (dM (jL hu (pv 3) (aB (pv 0) rfl)))
      (af aR)
      aj)))
   (ac (dA hu (aB (pv 0) rfl) (pv 1) (pv 2) rfl)
   (ac (dA hu (aB (pv 0) rfl) (pv 2) (pv 1) rfl)
   (af (al (aC (pv 0) T.cl_Yard T.M_J5 (g7 T) hr (lY T) .nil ap))))))))),?_⟩
  have g1:=hH.get (j1+9) (by simpa [yL] using hj1)
  have g2:=hH.get (j2+9) (by simpa [yL] using hj2)
  refine⟨_,U,A.p,A.dx,_,U,hH.get 1 U,(b7 _ _ _).1,_,U,A,y,L,b1,n1,e1,j1,U,hH,hj1,t1,?_⟩
  refine⟨_,U,A.p,A.dx,_,U,hH.get 1 U,(b7 _ _ _).1,_,U,A,y,L,b2,n2,e2,j2,U,hH,hj2,t2,?_⟩
  have ne':¬ [n1,e1]=[n2,e2]:=fun z=>ne (by cases z; rfl)
  refine⟨_,U,_,U,b1,b2,[n1,e1],[n2,e2],U,U,g1,g2,_,U,ifF (decide_eq_false ne') ?_⟩
  refine⟨_,U,_,U,(show 2<=sizeLine by decide),fun p hp=>?_⟩
  have h1:=(hH.alloc hp (.tup [.ref b1,.ref b2]))
  generalize upd H p _=H1 at h1 ⊢
  refine⟨p,U,⟨_,SqT.of (h1.get 0 U)⟩,pM (xs:=[.ref b1,.ref b2]) (fun i σ H'=>H'=H1/\∃ o,σ=[some (.ref A.p),some (.ref b1),some (.ref b2),o]) ⟨U,_,U⟩ (fun i σ H' _ ⟨e,_⟩=>by rw[e]; exact SqT.of (h1.get 0 U)) ?_ ?_⟩
  ·rintro i x σ H' hx ⟨rfl,o,rfl⟩
   have k1:=h1.get (j1+10) (by simpa [yL] using hj1)
   have k2:=h1.get (j2+10) (by simpa [yL] using hj2)
   match i,hx with
   | 0,hx=>
    cases hx
    refine⟨_,U,_,U,A.p,_,A.dx,_,_,U,h1.get 2 U,T.cl_Yard,T.n_Yard_mates,cJ _ _ _,A.m,_,U,DGet.t (k:=kE n1 e1) (h1.get 8 U) k1,_,U,ifF (by rw[v1]; rfl) ⟨U,_,U⟩⟩
   | 1,hx=>
    cases hx
    refine⟨_,U,_,U,A.p,_,A.dx,_,_,U,h1.get 2 U,T.cl_Yard,T.n_Yard_mates,cJ _ _ _,A.m,_,U,DGet.t (k:=kE n2 e2) (h1.get 8 U) k2,_,U,ifF (by rw[v2]; rfl) ⟨U,_,U⟩⟩
  ·rintro σ H' ⟨rfl,o,rfl⟩
   have h2:=h1.tail
   have k1:=h2.get (j1+9) (by simpa [yL] using hj1)
   refine⟨_,U,_,U,A.p,_,A.dx,_,_,U,h2.get 1 U,T.cl_Yard,T.n_Yard_mates,cJ _ _ _,_,U,A.m,_,U,DPut.t (k:=kE n1 e1) (h2.get 7 U) k1 (sizeOk (by omega)),?_⟩
   have h3:Has _ (yL t.c_Yard A { y with mates:=aH y.mates (kE n1 e1) (.ref b2) }++L):=h2.puti 7 U (.dT (aH y.mates (kE n1 e1) (.ref b2)))
   generalize upd H' A.m _=H3 at h3 ⊢
   have k2:=h3.get (j2+9) (by simpa [yL] using hj2)
   refine⟨_,U,_,U,A.p,_,A.dx,_,_,U,h3.get 1 U,T.cl_Yard,T.n_Yard_mates,cJ _ _ _,_,U,A.m,_,U,DPut.t (k:=kE n2 e2) (h3.get 7 U) k2 (sizeOk (Nat.le_trans (bv _ _ _) (by omega))),?_⟩
   have h4:Has _ (yL t.c_Yard A { y with mates:=aH (aH y.mates (kE n1 e1) (.ref b2)) (kE n2 e2) (.ref b1) }++L):=h3.puti 7 U (.dT (aH (aH y.mates (kE n1 e1) (.ref b2)) (kE n2 e2) (.ref b1)))
   exact⟨_,U,A.p,A.dx,_,U,h4.get 1 U,(aY _ _ _).2.2.2.2.2.2.1,A,_,L,U,h4,fun H' a h2=>q H' a h2⟩
end
theorem bo (A:YA) (next:Int) (eng:V):(fl A next eng).lookup ("put" : Str)=none/\(fl A next eng).lookup ("off" : Str)=none/\(fl A next eng).lookup ("carry" : Str)=none/\(fl A next eng).lookup ("pieces" : Str)=none/\(fl A next eng).lookup ("kind" : Str)=none /\
  (fl A next eng).lookup ("note" : Str)=none/\(fl A next eng).lookup ("engine" : Str)=none/\(fl A next eng).lookup ("bells" : Str)=none/\(fl A next eng).lookup ("steps" : Str)=none :=
 ⟨by kernel_rfl,by kernel_rfl,by kernel_rfl,by kernel_rfl,by kernel_rfl,by kernel_rfl,by kernel_rfl,by kernel_rfl,by kernel_rfl⟩
inductive sp_put (C:Addr) (vs:List V) (H:Hp) (Q:VK) (E_:XK):Prop
 | mk (A:YA) (y:YR) (L:Kn) (b:Addr) (n e:Int) (j:Nat) (_:vs=[.ref A.p,.ref b]) (_:Has H (yL C A y++L)) (_:L[j]?=some (b,.tup [.int n,.int e])) (_:bw y n e) (_:∀ H' q,Has H' (yL C { A with tr:=q } { y with eng:=.ref b,trail:=[] }++L)->Q .non H'):sp_put C vs H Q E_
inductive sp_off (C:Addr) (vs:List V) (H:Hp) (Q:VK) (E_:XK):Prop
 | mk (A:YA) (y:YR) (L:Kn) (_:vs=[.ref A.p]) (_:Has H (yL C A y++L)) (_:∀ H' q,Has H' (yL C { A with tr:=q } { y with eng:=.non,trail:=[] }++L)->Q .non H'):sp_off C vs H Q E_
inductive sp_engine (C:Addr) (vs:List V) (H:Hp) (Q:VK) (E_:XK):Prop
 | mk (A:YA) (y:YR) (L:Kn) (_:vs=[.ref A.p]) (_:Has H (yL C A y++L)) (_:Q y.eng H):sp_engine C vs H Q E_
inductive sp_steps (C:Addr) (vs:List V) (H:Hp) (Q:VK) (E_:XK):Prop
 | mk (A:YA) (y:YR) (L:Kn) (_:vs=[.ref A.p]) (_:Has H (yL C A y++L)) (_:Q (.int y.trail.length) H):sp_steps C vs H Q E_
inductive sp_bells (C:Addr) (vs:List V) (H:Hp) (Q:VK) (E_:XK):Prop
 | mk (A:YA) (y:YR) (L:Kn) (_:vs=[.ref A.p]) (_:Has H (yL C A y++L)) (_:∀ H' l,Has H' ((l,.lst y.rung)::(yL C A y++L))->Q (.ref l) H'):sp_bells C vs H Q E_
inductive sp_pieces (C:Addr) (vs:List V) (H:Hp) (Q:VK) (E_:XK):Prop
 | mk (A:YA) (y:YR) (L:Kn) (_:vs=[.ref A.p]) (_:Has H (yL C A y++L)) (_:∀ H' l,Has H' ((l,.lst (y.kinds.map fun kv=>kV kv.1))::(yL C A y++L))->Q (.ref l) H'):sp_pieces C vs H Q E_
inductive sp_ykind (C:Addr) (vs:List V) (H:Hp) (Q:VK) (E_:XK):Prop
 | mk (A:YA) (y:YR) (L:Kn) (n:Int) (v:V) (_:vs=[.ref A.p,.int n]) (_:Has H (yL C A y++L)) (_:ak y.kinds (Sum.inl n)=some v) (_:Q v H):sp_ykind C vs H Q E_
inductive sp_ynote (C:Addr) (vs:List V) (H:Hp) (Q:VK) (E_:XK):Prop
 | mk (A:YA) (y:YR) (L:Kn) (n:Int) (u v:V) (_:vs=[.ref A.p,.int n]) (_:Has H (yL C A y++L)) (_:ak y.kinds (Sum.inl n)=some u) (_:ak y.notes (Sum.inl n)=some v) (_:Q v H):sp_ynote C vs H Q E_
section
variable {P:Program}{w:World}{K:PySem.W.Frag}{mg:Str->Option Value}{base:Heap}{t:Adr}
theorem scPu:FnScope ["self","end"] ["self","end"] (ah ql):={}
theorem f7 (T:Txt K mg t):FnOk P w K mg base CX0 4 t.f_Jb1 t.d_Jb1 ["self","end"] (sp_put t.c_Yard):=by
 refine T.F_Jb1.ok scPu (fun vs H Q E h=>?_) (fun cdv A outer s H vs Q E hr h=>?_)
 ·obtain⟨_,_,_,_,_,_,_,rfl,_⟩:=h
  rfl
 ·obtain⟨A,y,L,b,n,e,j,rfl,hH,hj,th,q⟩:=h
  refine⟨_,(ac (al (ao (pv 0) T.cl_Yard T.M_J1 (kF T) hr (pX T) .nil ap (aa (pv 1) ae)))
   (ac (ba (pv 0) (pv 1) rfl)
   (af (al (aC (pv 0) T.cl_Yard T.M_J5 (g7 T) hr (lY T) .nil ap))))),?_⟩
  refine⟨_,U,A.p,A.dx,_,U,hH.get 1 U,(b7 _ _ _).1,_,U,A,y,L,b,n,e,j,U,hH,hj,th,?_⟩
  refine⟨_,U,_,U,A.p,_,A.dx,_,U,hH.get 1 U,T.cl_Yard,T.n_Jd_end,(show 9<1000 by decide),?_⟩
  rw[ck]
  have h1:Has _ (yL t.c_Yard A { y with eng:=.ref b }++L):=hH.puti 1 U (.ins t.c_Yard A.dx (fl A y.next (.ref b)))
  exact⟨_,U,A.p,A.dx,_,U,h1.get 1 U,(aY _ _ _).2.2.2.2.2.2.1,A,_,L,U,h1,fun H' a h2=>q H' a h2⟩
theorem scEg:FnScope ["self"] ["self"] (ah tI):={}
theorem d9 (T:Txt K mg t):FnOk P w K mg base CX0 1 t.f_Jd t.d_Jd ["self"] (sp_engine t.c_Yard):=by
 refine T.F_Jd.ok scEg (fun vs H Q E h=>?_) (fun cdv A outer s H vs Q E hr h=>?_)
 ·obtain⟨_,_,_,rfl,_⟩:=h
  rfl
 ·obtain⟨A,y,L,rfl,hH,q⟩:=h
  refine⟨_,(af (aq (aB (pv 0) rfl))),?_⟩
  exact⟨_,U,A.p,_,A.dx,_,_,U,hH.get 1 U,T.cl_Yard,T.n_Jd_end,dS _ _ _,q⟩
theorem scSt:FnScope ["self"] ["self"] (ah sW):={}
theorem qC (T:Txt K mg t):FnOk P w K mg base CX0 1 t.f_Ju t.d_Ju ["self"] (sp_steps t.c_Yard):=by
 refine T.F_Ju.ok scSt (fun vs H Q E h=>?_) (fun cdv A outer s H vs Q E hr h=>?_)
 ·obtain⟨_,_,_,rfl,_⟩:=h
  rfl
 ·obtain⟨A,y,L,rfl,hH,q⟩:=h
  refine⟨_,(af (aq (aG ay (by rfl) T.z_len (by rfl) (aa (aB (pv 0) rfl) ae)))),?_⟩
  exact⟨_,U,A.p,_,A.dx,_,_,U,hH.get 1 U,T.cl_Yard,T.n_Yard_trail,jp _ _ _,A.tr,_,U,.inl (SqL.of (hH.get 0 U)),q⟩
theorem scBe:FnScope ["self"] ["self"] (ah tj):={}
theorem kC (T:Txt K mg t):FnOk P w K mg base CX0 1 t.f_Jq t.d_Jq ["self"] (sp_bells t.c_Yard):=by
 refine T.F_Jq.ok scBe (fun vs H Q E h=>?_) (fun cdv A outer s H vs Q E hr h=>?_)
 ·obtain⟨_,_,_,rfl,_⟩:=h
  rfl
 ·obtain⟨A,y,L,rfl,hH,q⟩:=h
  refine⟨_,(af (aq (aU bI (by rfl) T.z_list (by rfl) (aa (aB (pv 0) rfl) ae)))),?_⟩
  exact⟨_,U,A.p,_,A.dx,_,_,U,hH.get 1 U,T.cl_Yard,T.n_Yard_rung,fN _ _ _,A.g,_,U,.inl (SqL.of (hH.get 8 U)),fun l hl=>q _ l (hH.alloc hl _)⟩
theorem scPc:FnScope ["self"] ["self"] (ah tH):={}
theorem gZ (T:Txt K mg t):FnOk P w K mg base CX0 1 t.f_Je t.d_Je ["self"] (sp_pieces t.c_Yard):=by
 refine T.F_Je.ok scPc (fun vs H Q E h=>?_) (fun cdv A outer s H vs Q E hr h=>?_)
 ·obtain⟨_,_,_,rfl,_⟩:=h
  rfl
 ·obtain⟨A,y,L,rfl,hH,q⟩:=h
  refine⟨_,(af (aq (aU (iQ rfl) (by rfl) T.z_list (by rfl) (aa (aB (pv 0) rfl) ae)))),?_⟩
  exact⟨_,U,A.p,_,A.dx,_,_,U,hH.get 1 U,T.cl_Yard,T.n_Yard_kinds,bY _ _ _,A.k,_,U,.inl (hH.get 3 U),fun l hl=>q _ l (hH.alloc hl _)⟩
theorem scYk:FnScope ["self","piece"] ["self","piece"] (ah qt):={}
theorem jO (T:Txt K mg t):FnOk P w K mg base CX0 2 t.f_J51 t.d_J51 ["self","piece"] (sp_ykind t.c_Yard):=by
 refine T.F_J51.ok scYk (fun vs H Q E h=>?_) (fun cdv A outer s H vs Q E hr h=>?_)
 ·obtain⟨_,_,_,_,_,rfl,_⟩:=h
  rfl
 ·obtain⟨A,y,L,n,v,rfl,hH,hv,q⟩:=h
  have hu:=cV hr
  refine⟨_,(ac (al (ao (pv 0) T.cl_Yard T.M_J2 (jf T) hr (oM T) .nil ap (aa (pv 1) ae)))
   (af (aq (db hu (aB (pv 0) rfl) (pv 1))))),?_⟩
  refine⟨_,U,A.p,A.dx,_,U,hH.get 1 U,(aY _ _ _).2.2.2.2.2.2.2.1,_,U,A,y,L,n,v,U,hH,hv,?_⟩
  refine⟨_,U,A.p,_,A.dx,_,_,U,hH.get 1 U,T.cl_Yard,T.n_Yard_kinds,bY _ _ _,_,U,A.k,_,U,?_,q⟩
  rw[<- hv]
  exact DGet.k (k:=Sum.inl n) (hH.get 3 U)
theorem scYn:FnScope ["self","piece"] ["self","piece"] (ah qr):={}
theorem rY (T:Txt K mg t):FnOk P w K mg base CX0 2 t.f_J61 t.d_J61 ["self","piece"] (sp_ynote t.c_Yard):=by
 refine T.F_J61.ok scYn (fun vs H Q E h=>?_) (fun cdv A outer s H vs Q E hr h=>?_)
 ·obtain⟨_,_,_,_,_,_,rfl,_⟩:=h
  rfl
 ·obtain⟨A,y,L,n,u,v,rfl,hH,hk,hv,q⟩:=h
  have hu:=cV hr
  refine⟨_,(ac (al (ao (pv 0) T.cl_Yard T.M_J2 (jf T) hr (oM T) .nil ap (aa (pv 1) ae)))
   (ac (aA (dM (dD hu (pv 1) (aB (pv 0) rfl)))
    (af aR)
    aj)
   (af (aq (db hu (aB (pv 0) rfl) (pv 1)))))),?_⟩
  refine⟨_,U,A.p,A.dx,_,U,hH.get 1 U,(aY _ _ _).2.2.2.2.2.2.2.1,_,U,A,y,L,n,u,U,hH,hk,?_⟩
  refine⟨_,U,_,U,A.p,_,A.dx,_,_,U,hH.get 1 U,T.cl_Yard,T.n_Yard_notes,bK _ _ _,A.n,_,U,DGet.k (k:=Sum.inl n) (hH.get 4 U),_,U,ifF (by rw[hv]; rfl) ?_⟩
  refine⟨_,U,A.p,_,A.dx,_,_,U,hH.get 1 U,T.cl_Yard,T.n_Yard_notes,bK _ _ _,_,U,A.n,_,U,?_,q⟩
  rw[<- hv]
  exact DGet.k (k:=Sum.inl n) (hH.get 4 U)
end
noncomputable abbrev En:=Addr×Int×Int
structure Wd where
 kf:Int->Option Kd
 nf:Int->Int
 rf:Int->Int
 mf:Int->Int->Option En
structure Sd where
 ss:List Int
 at_:Option En
 rg:List Int
noncomputable def Wd.sv (w:Wd) (s:Sd) (n:Int):Int:=s.ss.getD (w.rf n).toNat 0
noncomputable def Wd.ok (w:Wd) (z:En):Prop:=∃ k,w.kf z.2.1=some k/\0<=z.2.2/\z.2.2<k.many
noncomputable def bd (w:Wd) (s:Sd) (z:En) (k:Kd) (z':En):Sd :=
 ⟨if k.point then s.ss.set (w.rf z.2.1).toNat (k.side z.2.2 (w.sv s z.2.1)) else s.ss,some z',if k=.bell then s.rg++[w.nf z.2.1] else s.rg⟩
noncomputable def Wd.nx (w:Wd) (s:Sd):Option Sd :=
 match s.at_ with
 | none=>none
 | some z=>match w.kf z.2.1 with
  | none=>none
  | some k=>match k.out z.2.2 (w.sv s z.2.1) with
   | .int o=>(w.mf z.2.1 o).map (bd w s z k)
   | _=>none
noncomputable def Wd.why (w:Wd) (s:Sd):V :=
 match s.at_ with
 | none=>.str "none"
 | some z=>match w.kf z.2.1 with
  | none=>.non
  | some k=>match k.out z.2.2 (w.sv s z.2.1) with
   | .int o=>(match w.mf z.2.1 o with | none=>.str "loose" | some _=>.non)
   | _=>.str "stop"
noncomputable def Wd.go (w:Wd):Nat->Sd->Sd
 | 0,s=>s
 | n+1,s=>match w.nx s with | none=>s | some s'=>w.go n s'
noncomputable def Wd.hist (w:Wd):Nat->Sd->List Sd
 | 0,_=>[]
 | n+1,s=>match w.nx s with | none=>[] | some s'=>s::w.hist n s'
noncomputable def Wd.tv (w:Wd) (s:Sd) (z:En):V:=match w.kf z.2.1 with | some k=>if k.point then .int (w.sv s z.2.1) else .non | none=>.non
noncomputable def Wd.tr (w:Wd) (s:Sd):HO:=match s.at_ with | some z=>.tup [.ref z.1,w.tv s z] | none=>.tup []
noncomputable def trK (w:Wd) (ts:List (Addr×Sd)):Kn:=ts.map fun x=>(x.1,w.tr x.2)
noncomputable def trV (ts:List (Addr×Sd)):List V:=ts.map fun x=>V.ref x.1
noncomputable def enV:Option En->V
 | none=>.non
 | some z=>.ref z.1
structure Rep (w:Wd) (s:Sd) (y:YR):Prop where
 kd:∀ n k,w.kf n=some k->ak y.kinds (Sum.inl n)=some (.str k.str)
 no:∀ n k,w.kf n=some k->ak y.notes (Sum.inl n)=if k=.bell then some (.int (w.nf n)) else none
 ro:∀ n k,w.kf n=some k->ak y.rods (Sum.inl n)=if k.point=true then some (.int (w.rf n)) else none
 rr:∀ n k,w.kf n=some k->k.point=true->0<=w.rf n/\w.rf n<s.ss.length
 sd:y.sides=s.ss.map V.int
 s12:∀ x ∈ s.ss,x=1∨x=2
 mt:∀ n e,ak y.mates (kE n e)=(w.mf n e).map fun z=>V.ref z.1
 mo:∀ n e z,w.mf n e=some z->w.ok z
 en:y.eng=enV s.at_
 eo:∀ z,s.at_=some z->w.ok z
 rg:y.rung=s.rg.map V.int
structure Pool (w:Wd) (s:Sd) (L:Kn):Prop where
 m:∀ n e z,w.mf n e=some z->∃ j:Nat,L[j]?=some (z.1,HO.tup [.int z.2.1,.int z.2.2])
 e:∀ z,s.at_=some z->∃ j:Nat,L[j]?=some (z.1,HO.tup [.int z.2.1,.int z.2.2])
variable{s:Sd}{w:Wd}
theorem Rep.s1 {y:YR} (R:Rep w s y) {n:Int}{k:Kd} (hk:w.kf n=some k) (hp:k.point=true):w.sv s n=1∨w.sv s n=2:=by
 obtain⟨h0,h1⟩:=R.rr n k hk hp
 refine R.s12 _ ?_
 unfold Wd.sv
 rw[List.getD_eq_getElem?_getD,uo (by omega)]
 exact List.getElem_mem _
theorem Rep.sideAt {y:YR} (R:Rep w s y) {n:Int}{k:Kd} (hk:w.kf n=some k) (hp:k.point=true):y.sides[(w.rf n).toNat]?=some (.int (w.sv s n)):=by
 obtain⟨h0,h1⟩:=R.rr n k hk hp
 rw[R.sd,ur,uo (by omega)]
 unfold Wd.sv
 rw[List.getD_eq_getElem?_getD,uo (by omega)]
 rfl
theorem Kd.out_in {k:Kd}{e s o:Int} (e0:0<=e) (e1:e<k.many) (hs:k.point=true->s=1∨s=2) (h:k.out e s=.int o):0<=o/\o<k.many:=by
 unfold Kd.out at h
 by_cases c:k=.stop
 ·rw[if_pos c] at h; cases h
 rw[if_neg c] at h
 by_cases p:k.point=true
 ·rw[if_pos p] at h
  have m:=Kd.many_point p
  rcases hs p with r | r <;> split at h <;> (injection h with h; omega)
 ·rw[if_neg p] at h
  have m:k.many = 2:=by cases k <;> first | rfl | (exfalso; exact c rfl) | (exfalso; exact p rfl)
  injection h with h
  omega
theorem i5 (w:Wd) (s:Sd) (z:En) (k:Kd) (z':En):(bd w s z k z').at_=some z':=rfl
theorem pD {s s':Sd} (h:w.nx s=some s'):∃ (z:En) (k:Kd) (o:Int) (z':En),s.at_=some z/\w.kf z.2.1=some k/\k.out z.2.2 (w.sv s z.2.1)=.int o/\w.mf z.2.1 o=some z'/\s'=bd w s z k z':=by
 unfold Wd.nx at h
 split at h
 ·cases h
 ·rename_i z hz
  split at h
  ·cases h
  ·rename_i k hk
   split at h
   ·rename_i o ho
    obtain⟨z',hm,e⟩:=Option.map_eq_some_iff.mp h
    exact⟨z,k,o,z',hz,hk,ho,hm,e.symm⟩
   ·cases h
theorem nx_of {z:En}{k:Kd}{o:Int}{z':En} (hz:s.at_=some z) (hk:w.kf z.2.1=some k) (ho:k.out z.2.2 (w.sv s z.2.1)=.int o) (hm:w.mf z.2.1 o=some z'):w.nx s=some (bd w s z k z'):=by
 unfold Wd.nx
 simp only[hz,hk,ho,hm,Option.map_some]
theorem jH {y y':YR}{z:En}{k:Kd}{z':En}{o:Int} (R:Rep w s y) (hz:s.at_=some z) (hk:w.kf z.2.1=some k) (hm:w.mf z.2.1 o=some z')
  (e1:y'.kinds=y.kinds) (e2:y'.notes=y.notes) (e3:y'.rods=y.rods) (e4:y'.mates=y.mates) (e5:y'.sides=(bd w s z k z').ss.map V.int) (e6:y'.eng=.ref z'.1) (e7:y'.rung=(bd w s z k z').rg.map V.int) :
  Rep w (bd w s z k z') y':=by
 have hl:(bd w s z k z').ss.length=s.ss.length:=by
  unfold bd; dsimp only; split
  ·exact List.length_set
  ·rfl
 refine⟨fun n k h=>by rw[e1]; exact R.kd n k h,fun n k h=>by rw[e2]; exact R.no n k h,fun n k h=>by rw[e3]; exact R.ro n k h,fun n k h1 h2=>by rw[hl]; exact R.rr n k h1 h2,e5,fun x hx=>?_,fun n e=>by rw[e4]; exact R.mt n e,R.mo,e6,fun u hu=>?_,e7⟩
 ·unfold bd at hx
  dsimp only at hx
  split at hx
  ·rename_i hp
   rcases List.mem_or_eq_of_mem_set hx with hx | hx
   ·exact R.s12 x hx
   ·obtain⟨k',h1,h2,h3⟩:=R.eo z hz
    rw[hk] at h1
    cases h1
    rw[hx]
    exact Kd.side12 h2 h3 (R.s1 hk hp)
  ·exact R.s12 x hx
 ·rw[i5] at hu
  cases hu
  exact R.mo _ _ _ hm
theorem Pool.step {w:Wd}{s s':Sd}{L:Kn} (p:Pool w s L) (h:w.nx s=some s'):Pool w s' L:=by
 obtain⟨z,k,o,z',_,_,_,hm,rfl⟩:=pD h
 refine⟨p.m,fun u hu=>?_⟩
 rw[i5] at hu
 cases hu
 exact p.m _ _ _ hm
inductive Nxt (w:Wd) (s:Sd):List V->Prop
 | held (h:w.nx s=none) (x:Str) (e:w.why s=.str x):Nxt w s [.str x,.non,.non]
 | goes (z:En) (k:Kd) (o:Int) (z':En) (hz:s.at_=some z) (hk:w.kf z.2.1=some k) (ho:k.out z.2.2 (w.sv s z.2.1)=.int o) (hm:w.mf z.2.1 o=some z') :
   Nxt w s [.non,.ref z'.1,if k.point then .int (k.side z.2.2 (w.sv s z.2.1)) else .non]
inductive sp_carry (C:Addr) (vs:List V) (H:Hp) (Q:VK) (E_:XK):Prop
 | mk (A:YA) (y:YR) (L:Kn) (w:Wd) (s:Sd) (z:En) (k:Kd) (z':En) (_:vs=[.ref A.p,.ref z'.1,if k.point then .int (k.side z.2.2 (w.sv s z.2.1)) else .non]) (_:Has H (yL C A y++L)) (_:Rep w s y) (_:s.at_=some z) (_:w.kf z.2.1=some k) (_:(∃ j:Nat,L[j]?=some (z.1,HO.tup [.int z.2.1,.int z.2.2]))) (_:y.trail.length<=900000) (_:y.rung.length<=900000) (_:∀ H' a,Has H' (yL C A { y with sides:=(bd w s z k z').ss.map V.int,eng:=.ref z'.1,rung:=(bd w s z k z').rg.map V.int,trail:=y.trail++[.ref a] }++((a,w.tr s)::L))->Q .non H'):sp_carry C vs H Q E_
inductive sp_next (C:Addr) (vs:List V) (H:Hp) (Q:VK) (E_:XK):Prop
 | mk (A:YA) (y:YR) (L:Kn) (w:Wd) (s:Sd) (_:vs=[.ref A.p]) (_:Has H (yL C A y++L)) (_:Rep w s y) (_:Pool w s L) (_:∀ H' p xs,Nxt w s xs->Has H' ((p,.tup xs)::(yL C A y++L))->Q (.ref p) H'):sp_next C vs H Q E_
inductive sp_held (C:Addr) (vs:List V) (H:Hp) (Q:VK) (E_:XK):Prop
 | mk (A:YA) (y:YR) (L:Kn) (w:Wd) (s:Sd) (_:vs=[.ref A.p]) (_:Has H (yL C A y++L)) (_:Rep w s y) (_:Pool w s L) (_:∀ H',Has H' (yL C A y++L)->Q (w.why s) H'):sp_held C vs H Q E_
inductive sp_run (C:Addr) (vs:List V) (H:Hp) (Q:VK) (E_:XK):Prop
 | mk (A:YA) (y:YR) (L:Kn) (w:Wd) (s:Sd) (ts:List (Addr×Sd)) (m:Int) (_:vs=[.ref A.p,.int m]) (_:Has H (yL C A y++(trK w ts++L))) (_:Rep w s y) (_:Pool w s L) (_:y.trail=trV ts) (_:ts.length+m<=900000) (_:y.rung.length+m<=900000) (_:ts.length<=900000) (_:y.rung.length<=900000) (_:∀ H' y' ts',Has H' (yL C A y'++(trK w (ts++ts')++L))->Rep w (w.go m.toNat s) y'->y'.trail=trV (ts++ts')->ts'.map (·.2)=w.hist m.toNat s->y'.next=y.next->y'.kinds=y.kinds->y'.notes=y.notes->y'.rods=y.rods->y'.mates=y.mates->Pool w (w.go m.toNat s) L->Q (.int ts'.length) H'):sp_run C vs H Q E_
theorem mj {w:Wd} (h:s.at_=none):w.nx s=none/\w.why s=.str "none":=by
 unfold Wd.nx Wd.why; simp only[h]; exact⟨trivial,trivial⟩
theorem iX {z:En}{k:Kd} (hz:s.at_=some z) (hk:w.kf z.2.1=some k) (ho:k.out z.2.2 (w.sv s z.2.1)=.non):w.nx s=none/\w.why s=.str "stop":=by
 unfold Wd.nx Wd.why; simp only[hz,hk,ho]; exact⟨trivial,trivial⟩
theorem gO {z:En}{k:Kd}{o:Int} (hz:s.at_=some z) (hk:w.kf z.2.1=some k) (ho:k.out z.2.2 (w.sv s z.2.1)=.int o) (hm:w.mf z.2.1 o=none):w.nx s=none/\w.why s=.str "loose":=by
 unfold Wd.nx Wd.why; simp only[hz,hk,ho,hm,Option.map_none]; exact⟨trivial,trivial⟩
theorem pJ (w:Wd) {s s':Sd} (h:w.nx s=some s') (n:Nat):w.go (n+1) s=w.go n s':=by show(match w.nx s with | none=>s | some s'=>w.go n s')=_; rw[h]
theorem lM (w:Wd) {s s':Sd} (h:w.nx s=some s') (n:Nat):w.hist (n+1) s=s::w.hist n s':=by show(match w.nx s with | none=>[] | some s'=>s::w.hist n s')=_; rw[h]
theorem pK (w:Wd) (h:w.nx s=none):∀ n,w.go n s=s
 | 0=>rfl
 | n+1=>by show(match w.nx s with | none=>s | some s'=>w.go n s')=_; rw[h]
theorem lN (w:Wd) (h:w.nx s=none):∀ n,w.hist n s=[]
 | 0=>rfl
 | n+1=>by show(match w.nx s with | none=>[] | some s'=>s::w.hist n s')=_; rw[h]
theorem mF (w:Wd) (ts:List (Addr×Sd)) (a:Addr) (s:Sd) (L:Kn):trK w (ts++[(a,s)])++L=trK w ts++((a,w.tr s)::L):=by
 unfold trK; rw[uw,uJ]; rfl
theorem i4 {w:Wd}{s:Sd}{z:En}{k:Kd}{z':En}:(bd w s z k z').rg.length<=s.rg.length+1:=by
 unfold bd; dsimp only; split
 ·simp
 ·omega
theorem Pool.app {L:Kn} (p:Pool w s L) (M:Kn):Pool w s (M++L):=by
 have sh:∀ {x:Addr×HO},(∃ j:Nat,L[j]?=some x)->∃ j:Nat,(M++L)[j]?=some x:=fun {x} ⟨j,h⟩=>⟨M.length+j,by rw[uG (by omega),show M.length+j - M.length=j by omega]; exact h⟩
 exact⟨fun n e z h=>sh (p.m n e z h),fun z h=>sh (p.e z h)⟩
inductive runInv (C:Addr) (A:YA) (y:YR) (L:Kn) (W:Wd) (s:Sd) (ts:List (Addr×Sd)) (m:Int) (r:Nat) (σ:St) (H:Hp):Prop
 | mk (i:Nat) (y1:YR) (ts1:List (Addr×Sd)) (s1:Sd) (o1 o2 o3:Option V) (_:r=m.toNat - i) (_:i<=m.toNat) (_:σ=[some (.ref A.p),some (.int m),some (.int i),o1,o2,o3]) (_:Has H (yL C A y1++(trK W (ts++ts1)++L))) (_:Rep W s1 y1) (_:Pool W s1 L) (_:y1.trail=trV (ts++ts1)) (_:ts1.length=i) (_:W.go m.toNat s=W.go (m.toNat - i) s1) (_:W.hist m.toNat s=ts1.map (·.2)++W.hist (m.toNat - i) s1) (_:y1.rung.length<=y.rung.length+i) (_:y1.next=y.next) (_:y1.kinds=y.kinds) (_:y1.notes=y.notes) (_:y1.rods=y.rods) (_:y1.mates=y.mates):runInv C A y L W s ts m r σ H
section
variable {P:Program}{w:World}{K:PySem.W.Frag}{mg:Str->Option Value}{base:Heap}{t:Adr}
theorem scCy:FnScope ["self","end","side","piece","rod"] ["self","end","side"] (ah sY):={}
theorem ok_Jt (T:Txt K mg t):FnOk P w K mg base CX0 1 t.f_Jt t.d_Jt ["self","end","side"] (sp_carry t.c_Yard):=by
 refine T.F_Jt.ok scCy (fun vs H Q E h=>?_) (fun cdv A outer s H vs Q E hr h=>?_)
 ·obtain⟨_,_,_,_,_,_,_,_,rfl,_⟩:=h
  rfl
 ·obtain⟨A,y,L,W,s1,z,k,z',rfl,hH,R,hz,hk,⟨j,hj⟩,tl,rl,q⟩:=h
  have hu:=cV hr
  refine⟨_,(ac (aD (i:=3) scCy.nd rfl (Or.inl rfl) (aF cS (aB (pv 0) rfl) ag))
   (ac (aD (i:=4) scCy.nd rfl (Or.inl rfl) (je hu (aB (pv 0) rfl) (pv 3) ⟨U,U,U,U⟩))
   (ac (al (bV PySem.F.plainAttrs_list PySem.F.slot_list_append PySem.F.type_list_append aZ (aB (pv 0) rfl) (@aa _ _ _ _ _ (aI (aa (aB (pv 0) rfl) (aa (dn (ai dq (pv 4) aV (am _)) aV (aF ar (aB (pv 0) rfl) (pv 4))) ae))) ae (by rfl))))
   (ac (aA (ai cz (pv 4) aV (am _))
    (af (bJ (pv 2) (dN (aB (pv 0) rfl) (pv 4) cE)))
    aj)
   (ac (aA (dM (jL hu (pv 3) (aB (pv 0) rfl)))
    (af (al (bV PySem.F.plainAttrs_list PySem.F.slot_list_append PySem.F.type_list_append aZ (aB (pv 0) rfl) (aa (db hu (aB (pv 0) rfl) (pv 3)) ae))))
    aj)
   (af (ba (pv 0) (pv 1) rfl))))))),?_⟩
  have gz:=hH.get (j+9) (by simpa [yL] using hj)
  have en:y.eng=.ref z.1:=by rw[R.en,hz]; rfl
  refine⟨_,U,A.p,_,A.dx,_,_,U,hH.get 1 U,T.cl_Yard,T.n_Jd_end,dS _ _ _,z.1,_,_,_,en,U,SqT.of gz,U,?_⟩
  refine⟨_,U,A.p,_,A.dx,_,_,U,hH.get 1 U,T.cl_Yard,T.n_J31_under,cq _ _ _,A.r,U,.inl ⟨_,.inl (hH.get 5 U)⟩,_,U,_,DGet.k (k:=Sum.inl z.2.1) (hH.get 5 U),?_⟩
  refine⟨_,U,A.p,_,A.dx,_,_,U,hH.get 1 U,T.cl_Yard,T.n_Yard_trail,jp _ _ _,.inl ⟨U,_,SqL.of (hH.get 0 U)⟩,?_⟩
  refine⟨_,U,A.p,_,A.dx,_,_,U,hH.get 1 U,T.cl_Yard,T.n_Jd_end,dS _ _ _,_,U,U,_,U,?_⟩
  rw[R.ro _ _ hk,en]
  have etr:W.tr s1=.tup [.ref z.1,if k.point then .int (W.sv s1 z.2.1) else .non]:=by unfold Wd.tr; rw[hz]; show HO.tup [.ref z.1,W.tv s1 z]=_; unfold Wd.tv; rw[hk]
  by_cases hp:k.point=true
  ·rw[if_pos hp] at etr ⊢
   try rw[if_pos hp]
   obtain⟨r0,r1⟩:=R.rr _ _ hk hp
   have sa:=R.sideAt hk hp
   refine ifF rfl ?_
   refine⟨_,U,A.p,_,A.dx,_,_,U,hH.get 1 U,T.cl_Yard,T.n_Yard_sides,bE _ _ _,_,U,A.s,_,W.rf z.2.1,_,U,U,SqL.of (hH.get 6 U),(by rw[show W.rf z.2.1=(((W.rf z.2.1).toNat:Nat):Int) by omega]; exact aL sa),?_⟩
   refine⟨(show 2<=sizeLine by decide),fun a ha=>?_⟩
   have h1:=hH.alloc ha (.tup [.ref z.1,.int (W.sv s1 z.2.1)])
   refine⟨A.tr,_,_,U,U,h1.get 1 U,sizeOk (by omega),?_⟩
   have h2:=Has.comm (X:=[_]) (Y:=yL t.c_Yard A { y with trail:=y.trail++[.ref a] }) (R:=L) (h1.puti 1 U (.lst (y.trail++[.ref a])))
   generalize upd (upd H a _) A.tr _=H2 at h2 ⊢
   replace h2:Has H2 (yL t.c_Yard A { y with trail:=y.trail++[.ref a] }++((a,W.tr s1)::L)):=by rw[etr]; exact h2
   clear h1 ha
   refine⟨_,U,U,_,U,ifT rfl ?_⟩
   have sl:y.sides.length=s1.ss.length:=by rw[R.sd,um]
   have hjx:ixN y.sides.length (W.rf z.2.1)=some (W.rf z.2.1).toNat:=by unfold ixN; rw[if_pos r0,if_pos (by omega)]
   refine⟨_,U,_,U,A.p,_,A.dx,_,_,U,h2.get 1 U,T.cl_Yard,T.n_Yard_sides,bE _ _ _,_,U,A.s,_,_,_,U,U,h2.get 6 U,hjx,?_⟩
   have h3:=h2.puti 6 U (.lst (y.sides.set (W.rf z.2.1).toNat (.int (k.side z.2.2 (W.sv s1 z.2.1)))))
   have es:(bd W s1 z k z').ss.map V.int=y.sides.set (W.rf z.2.1).toNat (.int (k.side z.2.2 (W.sv s1 z.2.1))):=by unfold bd; dsimp only; rw[if_pos hp,List.map_set,R.sd]
   have hT:Has _ (yL t.c_Yard A { y with sides:=y.sides.set (W.rf z.2.1).toNat (.int (k.side z.2.2 (W.sv s1 z.2.1))),trail:=y.trail++[.ref a] }++((a,W.tr s1)::L)):=h3
   refine⟨_,U,_,U,A.p,_,A.dx,_,_,U,hT.get 1 U,T.cl_Yard,T.n_Yard_notes,bK _ _ _,A.n,_,U,DGet.k (k:=Sum.inl z.2.1) (hT.get 4 U),_,U,if2 (fun hb=>?_) (fun hb=>?_)⟩
   ·have kb:k=.bell:=by
     rw[R.no _ _ hk] at hb
     by_cases c:k=.bell
     ·exact c
     ·rw[if_neg c] at hb; cases hb
    have nv:ak y.notes (Sum.inl z.2.1)=some (.int (W.nf z.2.1)):=by rw[R.no _ _ hk,if_pos kb]
    refine⟨_,U,A.p,_,A.dx,_,_,U,hT.get 1 U,T.cl_Yard,T.n_Yard_rung,fN _ _ _,.inl ⟨U,_,SqL.of (hT.get 8 U)⟩,_,U,A.p,_,A.dx,_,_,U,hT.get 1 U,T.cl_Yard,T.n_Yard_notes,bK _ _ _,_,U,A.n,_,U,(by rw[<- nv]; exact DGet.k (k:=Sum.inl z.2.1) (hT.get 4 U)),A.g,_,_,U,U,hT.get 8 U,sizeOk (show y.rung.length<=1000000 by omega),?_⟩
    have h4:Has _ (yL t.c_Yard A { y with sides:=y.sides.set (W.rf z.2.1).toNat (.int (k.side z.2.2 (W.sv s1 z.2.1))),rung:=y.rung++[.int (W.nf z.2.1)],trail:=y.trail++[.ref a] }++((a,W.tr s1)::L)):=hT.puti 8 U (.lst (y.rung++[.int (W.nf z.2.1)]))
    refine⟨_,U,_,U,A.p,_,A.dx,_,U,h4.get 1 U,T.cl_Yard,T.n_Jd_end,(show 9<1000 by decide),?_⟩
    rw[ck]
    have h5:=h4.puti 1 U (.ins t.c_Yard A.dx (fl A y.next (.ref z'.1)))
    have er:(bd W s1 z k z').rg.map V.int=y.rung++[.int (W.nf z.2.1)]:=by unfold bd; dsimp only; rw[if_pos kb,uw,R.rg]; rfl
    refine q _ a ?_
    rw[er,es]
    exact h5
   ·have kb:¬ k=.bell:=fun c=>by rw[R.no _ _ hk,if_pos c] at hb; cases hb
    refine⟨_,U,_,U,A.p,_,A.dx,_,U,hT.get 1 U,T.cl_Yard,T.n_Jd_end,(show 9<1000 by decide),?_⟩
    rw[ck]
    have h5:=hT.puti 1 U (.ins t.c_Yard A.dx (fl A y.next (.ref z'.1)))
    have er:(bd W s1 z k z').rg.map V.int=y.rung:=by unfold bd; dsimp only; rw[if_neg kb,R.rg]
    refine q _ a ?_
    rw[er,es]
    exact h5
  ·rw[if_neg hp] at etr ⊢
   try rw[if_neg hp]
   refine ifT rfl ?_
   refine⟨(show 2<=sizeLine by decide),fun a ha=>?_⟩
   have h1:=hH.alloc ha (.tup [.ref z.1,.non])
   refine⟨A.tr,_,_,U,U,h1.get 1 U,sizeOk (by omega),?_⟩
   have h2:=Has.comm (X:=[_]) (Y:=yL t.c_Yard A { y with trail:=y.trail++[.ref a] }) (R:=L) (h1.puti 1 U (.lst (y.trail++[.ref a])))
   generalize upd (upd H a _) A.tr _=H2 at h2 ⊢
   replace h2:Has H2 (yL t.c_Yard A { y with trail:=y.trail++[.ref a] }++((a,W.tr s1)::L)):=by rw[etr]; exact h2
   clear h1 ha
   refine⟨_,U,U,_,U,ifF rfl ?_⟩
   have h3:=h2
   have es:(bd W s1 z k z').ss.map V.int=y.sides:=by unfold bd; dsimp only; rw[if_neg hp,R.sd]
   have hT:Has _ (yL t.c_Yard A { y with sides:=y.sides,trail:=y.trail++[.ref a] }++((a,W.tr s1)::L)):=h3
   refine⟨_,U,_,U,A.p,_,A.dx,_,_,U,hT.get 1 U,T.cl_Yard,T.n_Yard_notes,bK _ _ _,A.n,_,U,DGet.k (k:=Sum.inl z.2.1) (hT.get 4 U),_,U,if2 (fun hb=>?_) (fun hb=>?_)⟩
   ·have kb:k=.bell:=by
     rw[R.no _ _ hk] at hb
     by_cases c:k=.bell
     ·exact c
     ·rw[if_neg c] at hb; cases hb
    have nv:ak y.notes (Sum.inl z.2.1)=some (.int (W.nf z.2.1)):=by rw[R.no _ _ hk,if_pos kb]
    refine⟨_,U,A.p,_,A.dx,_,_,U,hT.get 1 U,T.cl_Yard,T.n_Yard_rung,fN _ _ _,.inl ⟨U,_,SqL.of (hT.get 8 U)⟩,_,U,A.p,_,A.dx,_,_,U,hT.get 1 U,T.cl_Yard,T.n_Yard_notes,bK _ _ _,_,U,A.n,_,U,(by rw[<- nv]; exact DGet.k (k:=Sum.inl z.2.1) (hT.get 4 U)),A.g,_,_,U,U,hT.get 8 U,sizeOk (show y.rung.length<=1000000 by omega),?_⟩
    have h4:Has _ (yL t.c_Yard A { y with sides:=y.sides,rung:=y.rung++[.int (W.nf z.2.1)],trail:=y.trail++[.ref a] }++((a,W.tr s1)::L)):=hT.puti 8 U (.lst (y.rung++[.int (W.nf z.2.1)]))
    refine⟨_,U,_,U,A.p,_,A.dx,_,U,h4.get 1 U,T.cl_Yard,T.n_Jd_end,(show 9<1000 by decide),?_⟩
    rw[ck]
    have h5:=h4.puti 1 U (.ins t.c_Yard A.dx (fl A y.next (.ref z'.1)))
    have er:(bd W s1 z k z').rg.map V.int=y.rung++[.int (W.nf z.2.1)]:=by unfold bd; dsimp only; rw[if_pos kb,uw,R.rg]; rfl
    refine q _ a ?_
    rw[er,es]
    exact h5
   ·have kb:¬ k=.bell:=fun c=>by rw[R.no _ _ hk,if_pos c] at hb; cases hb
    refine⟨_,U,_,U,A.p,_,A.dx,_,U,hT.get 1 U,T.cl_Yard,T.n_Jd_end,(show 9<1000 by decide),?_⟩
    rw[ck]
    have h5:=hT.puti 1 U (.ins t.c_Yard A.dx (fl A y.next (.ref z'.1)))
    have er:(bd W s1 z k z').rg.map V.int=y.rung:=by unfold bd; dsimp only; rw[if_neg kb,R.rg]
    refine q _ a ?_
    rw[er,es]
    exact h5
theorem scNs:FnScope ["yard","stand","piece","end","kind","side","out","behind","mate"] ["yard"] (ah sV):={}
theorem ok_Jx (T:Txt K mg t):FnOk P w K mg base CX0 5 t.f_Jx t.d_Jx ["yard"] (sp_next t.c_Yard):=by
 refine T.F_Jx.ok scNs (fun vs H Q E h=>?_) (fun cdv A outer s H vs Q E hr h=>?_)
 ·obtain⟨_,_,_,_,_,rfl,_⟩:=h
  rfl
 ·obtain⟨A,y,L,W,s1,rfl,hH,R,PL,q⟩:=h
  have three:3<=sizeLine:=by decide
  refine⟨_,(ac (aD (i:=1) scNs.nd rfl (Or.inl rfl) (aC (pv 0) T.cl_Yard T.M_Jd (d9 T) hr (iT T) .nil ap))
   (ac (aA (ai dq (pv 1) aV (am _))
    (af (aq (aI (aa aJ (aa aV (aa aV ae))))))
    aj)
   (ac (bJ (pv 1) (cP rfl (aK (aw (i:=2) scNs.nd rfl (Or.inl rfl)) (aK (aw (i:=3) scNs.nd rfl (Or.inl rfl)) bH))))
   (ac (aD (i:=4) scNs.nd rfl (Or.inl rfl) (ao (pv 0) T.cl_Yard T.M_J51 (jO T) hr (oK T) .nil ap (aa (pv 2) ae)))
   (ac (aD (i:=5) scNs.nd rfl (Or.inl rfl) (dn (bx (pcl (iA T) hr T.m_J91 T.F_J91.kp (kW T) (aa (pv 4) ae))) (ao (pv 0) T.cl_Yard T.M_J41 (dt T) hr (fD T) .nil ap (aa (ao (pv 0) T.cl_Yard T.M_Jc1 (jN T) hr (oJ T) .nil ap (aa (pv 2) ae)) ae)) aV))
   (ac (bJ (pcl (rV T) hr T.m_Je1 T.F_Je1.kp (b_Je1 T) (aa (pv 4) (aa (pv 3) (aa (pv 5) ae)))) (cP rfl (aK (aw (i:=6) scNs.nd rfl (Or.inl rfl)) (aK (aw (i:=7) scNs.nd rfl (Or.inl rfl)) bH))))
   (ac (aA (ai dq (pv 6) aV (am _))
    (af (aq (aI (aa aJ (aa aV (aa aV ae))))))
    aj)
   (ac (aD (i:=8) scNs.nd rfl (Or.inl rfl) (ao (pv 0) T.cl_Yard T.M_J01 (eY T) hr (ij T) .nil ap (@aa _ _ _ _ _ (aI (aa (pv 2) (aa (pv 6) ae))) ae (by rfl))))
   (ac (aA (ai dq (pv 8) aV (am _))
    (af (aq (aI (aa aJ (aa aV (aa aV ae))))))
    aj)
   (af (aq (aI (aa aV (aa (pv 8) (aa (pv 7) ae))))))))))))))),?_⟩
  refine⟨_,U,A.p,A.dx,_,U,hH.get 1 U,(bo _ _ _).2.2.2.2.2.2.1,A,y,L,U,hH,?_⟩
  refine⟨_,U,U,_,U,?_⟩
  rw[R.en]
  cases hz:s1.at_ with
  | none=>
   obtain⟨n1,n2⟩:=mj (w:=W) hz
   exact df ⟨three,fun p hp=>q _ p _ (.held n1 _ n2) (hH.alloc hp _)⟩
  | some z=>
   obtain⟨j,hj⟩:=PL.e z hz
   obtain⟨k,hk,e0,e1⟩:=R.eo z hz
   have gz:=hH.get (j+9) (by simpa [yL] using hj)
   have vk:ak y.kinds (Sum.inl z.2.1)=some (.str k.str):=R.kd _ _ hk
   refine bA ?_
   refine⟨_,U,z.1,_,U,SqT.of gz,U,_,_,U,_,_,U,U,?_⟩
   refine⟨_,U,A.p,A.dx,_,U,hH.get 1 U,(bo _ _ _).2.2.2.2.1,_,U,A,y,L,z.2.1,_,U,hH,vk,?_⟩
   refine⟨_,U,k,U,_,U,?_⟩
   have thr:∀ o:Int,k.out z.2.2 (W.sv s1 z.2.1)=.int o->bw y z.2.1 o:=fun o ho=>by
    have:=Kd.out_in e0 e1 (fun hp=>R.s1 hk hp) ho
    exact⟨k,vk,this.1,this.2⟩
   refine if2 (fun hp=>?_) (fun hp=>?_)
   ·obtain⟨r0,r1⟩:=R.rr _ _ hk hp
    have vr:ak y.rods (Sum.inl z.2.1)=some (.int (W.rf z.2.1)):=by rw[R.ro _ _ hk,if_pos hp]
    refine⟨_,U,A.p,A.dx,_,U,hH.get 1 U,(aY _ _ _).2.2.2.2.2.1,_,U,A.p,A.dx,_,U,hH.get 1 U,(aY _ _ _).2.2.2.2.1,_,U,A,y,L,z.2.1,_,_,U,hH,vk,vr,A,y,L,W.rf z.2.1,_,U,hH,r0,R.sideAt hk hp,?_⟩
    refine⟨_,U,_,U,_,U,k,z.2.2,W.sv s1 z.2.1,V.int (W.sv s1 z.2.1),U,e0,e1,(fun h=>⟨U,R.s1 hk hp⟩),fun p hp1=>?_⟩
    have h1:=hH.alloc hp1 (.tup [k.out z.2.2 (W.sv s1 z.2.1),if k.point then .int (k.side z.2.2 (W.sv s1 z.2.1)) else V.int (W.sv s1 z.2.1)])
    refine⟨p,_,U,SqT.of (h1.get 0 U),U,_,_,U,_,_,U,U,?_⟩
    replace h1:=h1.tail
    generalize upd H p _=H1 at h1 ⊢
    refine⟨_,U,U,_,U,?_⟩
    by_cases c:k.out z.2.2 (W.sv s1 z.2.1)=.non
    ·obtain⟨n1,n2⟩:=iX hz hk c
     exact ifT (decide_eq_true c) ⟨three,fun p hp=>q _ p _ (.held n1 _ n2) (h1.alloc hp _)⟩
    ·refine ifF (decide_eq_false c) ?_
     obtain⟨o,ho⟩:=Kd.out_int (k:=k) (fun e=>c (by unfold Kd.out; rw[if_pos e])) z.2.2 (W.sv s1 z.2.1)
     rw[ho]
     refine⟨_,U,A.p,A.dx,_,U,h1.get 1 U,(b7 _ _ _).2.1,_,U,_,U,(show 2<=sizeLine by decide),fun b hb=>?_⟩
     have h2:=Has.comm (X:=[(b,.tup [.int z.2.1,.int o])]) (Y:=yL t.c_Yard A y) (R:=L) (h1.alloc hb (.tup [.int z.2.1,.int o]))
     generalize upd H1 b _=H2 at h2 ⊢
     refine⟨A,y,_,b,z.2.1,o,0,U,h2,U,thr o ho,?_⟩
     have h3:=(Has.comm (X:=yL t.c_Yard A y) (Y:=[(b,.tup [.int z.2.1,.int o])]) (R:=L) h2).tail
     refine⟨_,U,U,_,U,?_⟩
     rw[R.mt]
     cases hm:W.mf z.2.1 o with
     | none=>
      obtain⟨n1,n2⟩:=gO hz hk ho hm
      exact df ⟨three,fun p hp=>q _ p _ (.held n1 _ n2) (h3.alloc hp _)⟩
     | some z'=>
      exact bA ⟨_,U,_,U,three,fun p hp=>q _ p _ (.goes z k o z' hz hk ho hm) (by rw[if_pos (by assumption:k.point=true)]; have:=h3.alloc hp (.tup [.non,.ref z'.1,.int (k.side z.2.2 (W.sv s1 z.2.1))]); simpa [*] using this)⟩
   ·refine⟨_,U,_,U,_,U,k,z.2.2,W.sv s1 z.2.1,V.non,U,e0,e1,(fun h=>absurd h (by rw[hp]; decide)),fun p hp1=>?_⟩
    have h1:=hH.alloc hp1 (.tup [k.out z.2.2 (W.sv s1 z.2.1),if k.point then .int (k.side z.2.2 (W.sv s1 z.2.1)) else V.non])
    refine⟨p,_,U,SqT.of (h1.get 0 U),U,_,_,U,_,_,U,U,?_⟩
    replace h1:=h1.tail
    generalize upd H p _=H1 at h1 ⊢
    refine⟨_,U,U,_,U,?_⟩
    by_cases c:k.out z.2.2 (W.sv s1 z.2.1)=.non
    ·obtain⟨n1,n2⟩:=iX hz hk c
     exact ifT (decide_eq_true c) ⟨three,fun p hp=>q _ p _ (.held n1 _ n2) (h1.alloc hp _)⟩
    ·refine ifF (decide_eq_false c) ?_
     obtain⟨o,ho⟩:=Kd.out_int (k:=k) (fun e=>c (by unfold Kd.out; rw[if_pos e])) z.2.2 (W.sv s1 z.2.1)
     rw[ho]
     refine⟨_,U,A.p,A.dx,_,U,h1.get 1 U,(b7 _ _ _).2.1,_,U,_,U,(show 2<=sizeLine by decide),fun b hb=>?_⟩
     have h2:=Has.comm (X:=[(b,.tup [.int z.2.1,.int o])]) (Y:=yL t.c_Yard A y) (R:=L) (h1.alloc hb (.tup [.int z.2.1,.int o]))
     generalize upd H1 b _=H2 at h2 ⊢
     refine⟨A,y,_,b,z.2.1,o,0,U,h2,U,thr o ho,?_⟩
     have h3:=(Has.comm (X:=yL t.c_Yard A y) (Y:=[(b,.tup [.int z.2.1,.int o])]) (R:=L) h2).tail
     refine⟨_,U,U,_,U,?_⟩
     rw[R.mt]
     cases hm:W.mf z.2.1 o with
     | none=>
      obtain⟨n1,n2⟩:=gO hz hk ho hm
      exact df ⟨three,fun p hp=>q _ p _ (.held n1 _ n2) (h3.alloc hp _)⟩
     | some z'=>
      exact bA ⟨_,U,_,U,three,fun p hp=>q _ p _ (.goes z k o z' hz hk ho hm) (by exact h3.alloc hp _)⟩
theorem scRn:FnScope ["yard","most","done","why","end","side"] ["yard","most"] (ah qd):={}
theorem iz (T:Txt K mg t):FnOk P w K mg base CX0 6 t.f_run t.d_run ["yard","most"] (sp_run t.c_Yard):=by
 refine T.F_run.ok scRn (fun vs H Q E h=>?_) (fun cdv A outer s H vs Q E hr h=>?_)
 ·obtain⟨_,_,_,_,_,_,_,rfl,_⟩:=h
  rfl
 ·obtain⟨A,y,L,W,s0,ts,m,rfl,hH,R,PL,tl,b1,b2,b3,b4,q⟩:=h
  refine⟨_,(ac (aD (i:=2) scRn.nd rfl (Or.inl rfl) ag)
   (ac (fX PassesOwn.never (ai fh (pv 2) (pv 1) (am _))
    (ac (bJ (pcl (ok_Jx T) hr T.m_Jx T.F_Jx.kp (b_Jx T) (aa (pv 0) ae)) (cP rfl (aK (aw (i:=3) scRn.nd rfl (Or.inl rfl)) (aK (aw (i:=4) scRn.nd rfl (Or.inl rfl)) (aK (aw (i:=5) scRn.nd rfl (Or.inl rfl)) bH)))))
     (ac (aA (ai cz (pv 3) aV (am _))
      (af ng)
      aj)
     (ac (al (ao (pv 0) T.cl_Yard T.M_Jt (ok_Jt T) hr (b_Jt T) .nil ap (aa (pv 4) (aa (pv 5) ae))))
     (af (rD (i:=2) scRn.nd rfl (Or.inl rfl) ag sA))))))
   (af (aq (pv 2))))),?_⟩
  refine⟨runInv t.c_Yard A y L W s0 ts m,⟨_,0,y,[],s0,_,_,_,U,Nat.zero_le _,U,by rw[uN]; exact hH,R,PL,by rw[uN]; exact tl,U,U,U,Nat.le_refl _,U,U,U,U,U⟩,?_⟩
  rintro r σ H1 ⟨i,y1,ts1,s1,o1,o2,o3,rfl,im,rfl,h1,R1,P1,tl1,li,eg,eh,rg,f1,f2,f3,f4,f5⟩
  refine⟨_,U,_,U,_,_,U,U,_,U,if2 (fun hc=>?_) (fun hc=>?_)⟩
  ·have hlt:(i:Int)<m:=of_decide_eq_true hc
   refine⟨fun σ' H'=>∃ r',r'<m.toNat - i/\runInv t.c_Yard A y L W s0 ts m r' σ' H',fun _ _ h=>h,?_⟩
   refine⟨_,U,A,y1,_,W,s1,U,h1,R1,P1.app _,fun H2 p xs nx h2=>?_⟩
   cases nx with
   | held hn x e=>
    refine⟨p,_,U,SqT.of (h2.get 0 U),U,_,_,U,_,_,U,_,_,U,U,?_⟩
    refine⟨_,U,U,_,U,ifT rfl ?_⟩
    rw[pK W hn] at eg
    rw[lN W hn,uN] at eh
    refine⟨_,U,?_⟩
    have:=q H2 y1 ts1 h2.tail (by rw[eg]; exact R1) tl1 eh.symm f1 f2 f3 f4 f5 (by rw[eg]; exact P1)
    rw[li] at this
    exact this
   | goes z k o z' hz hk ho hm=>
    have hn:=nx_of hz hk ho hm
    refine⟨p,_,U,SqT.of (h2.get 0 U),U,_,_,U,_,_,U,_,_,U,U,?_⟩
    refine⟨_,U,U,_,U,ifF rfl ?_⟩
    replace h2:=h2.tail
    have tll:y1.trail.length=ts.length+i:=by rw[tl1]; unfold trV; rw[um,uq,li]
    refine⟨_,U,A.p,A.dx,_,U,h2.get 1 U,(bo _ _ _).2.2.1,_,U,_,U,A,y1,_,W,s1,z,k,z',U,h2,R1,hz,hk,(P1.app _).e z hz,by omega,by omega,fun H3 a h3=>?_⟩
    refine⟨_,U,_,_,U,U,?_⟩
    have em:m.toNat - i=(m.toNat - (i+1))+1:=by omega
    rw[em,pJ W hn] at eg
    rw[em,lM W hn] at eh
    refine⟨m.toNat - (i+1),by omega,i+1,{ y1 with sides:=(bd W s1 z k z').ss.map V.int,eng:=.ref z'.1,rung:=(bd W s1 z k z').rg.map V.int,trail:=y1.trail++[.ref a] },ts1++[(a,s1)],bd W s1 z k z',_,_,_,U,by omega,U,?_,jH R1 hz hk hm rfl rfl rfl rfl rfl rfl rfl,P1.step hn,?_,by simp[li],eg,by rw[eh]; simp,?_,f1,f2,f3,f4,f5⟩
    ·rw[<- uJ ts ts1,mF]
     exact h3.perm (List.Perm.append_left _ List.perm_middle.symm)
    ·show y1.trail++[.ref a]=_
     rw[tl1]; unfold trV; simp
    ·show((bd W s1 z k z').rg.map V.int).length<=_
     have:=i4 (w:=W) (s:=s1) (z:=z) (k:=k) (z':=z')
     have e:=congrArg List.length R1.rg
     rw[um] at e ⊢
     omega
  ·have hge:¬ (i:Int)<m:=of_decide_eq_false hc
   have e0:m.toNat - i=0:=by omega
   rw[e0] at eg eh
   refine⟨_,U,?_⟩
   have:=q H1 y1 ts1 h1 (by rw[eg]; exact R1) tl1 (by rw[eh]; exact(uN _).symm) f1 f2 f3 f4 f5 (by rw[eg]; exact P1)
   rw[li] at this
   exact this
end
theorem gD {α:Type}:∀ (L:List α) (i:Nat) (hi:i<L.length),L.Perm (L[i]::L.eraseIdx i)
 | x::L,0,_=>List.Perm.refl _
 | x::L,i+1,hi=>by
  have:=gD L i (by simpa using hi)
  simp only[List.getElem_cons_succ,List.eraseIdx_cons_succ]
  exact(this.cons x).trans (List.Perm.swap _ _ _)
theorem jW {H:Hp}{L:Kn} (h:Has H L) (i:Nat) {x:Addr×HO} (e:L[i]?=some x):Has H (x::L.eraseIdx i):=by
 obtain⟨hi,rfl⟩:=List.getElem?_eq_some_iff.mp e
 exact h.perm (gD L i hi)
theorem oi {H:Hp}{L L':Kn} (h:Has H L) (e:L=L'):Has H L':=e ▸ h
theorem sz {n:Nat} (h:n<=1000000):n<=sizeLine:=Nat.le_of_lt (sizeOk h)
theorem sz_ (n:Nat) (h:n<=1000000:=by decide):n<=sizeLine:=sz h
noncomputable def lnT (y:Str) (ns:List Int):Str:=Txt.join " " (y::ns.map nT)
noncomputable def dW (ns:List Int):Prop:=ns.length<=1000/\∀ n ∈ ns,0<=n/\n<10 ^ 10
inductive sp_wl (K:PySem.W.Frag) (vs:List V) (H:Hp) (Q:VK) (E_:XK):Prop
 | mk (y:Str) (a:Addr) (b:Bool) (ns:List Int) (L:Kn) (_:vs=[.str y,.ref a]) (_:Has H L) (_:((b=true/\(a,HO.lst (ns.map V.int)) ∈ L)∨(b=false/\(a,HO.tup (ns.map V.int)) ∈ L))) (_:y.length<=100) (_:dW ns) (_:∀ H',Has H' L->Q (.str (lnT y ns)) H'):sp_wl K vs H Q E_
inductive sp_plain (vs:List V) (H:Hp) (Q:VK) (E_:XK):Prop
 | mk (n:Nat) (_:vs=[.str (nT (n:Int))]) (_:n<10 ^ 10) (_:Q (.bl true) H):sp_plain vs H Q E_
inductive sp_rnum (vs:List V) (H:Hp) (Q:VK) (E_:XK):Prop
 | mk (n:Int) (_:vs=[.str (nT n)]) (_:0<=n) (_:n<10 ^ 10) (_:Q (.int n) H):sp_rnum vs H Q E_
theorem sB:∀ c:Nat,48<=c->c<=57->(!(!(Builtin.Str.occurrences ("0123456789" : Str) ⟨#[c]⟩ 0 ("0123456789" : Str).length 1).isEmpty))=false:=by
 intro c h1 h2
 have:c=48∨c=49∨c=50∨c=51∨c=52∨c=53∨c=54∨c=55∨c=56∨c=57:=by omega
 rcases this with rfl | rfl | rfl | rfl | rfl | rfl | rfl | rfl | rfl | rfl <;> decide +kernel
theorem rZ {n:Int} (h0:0<=n) (h1:n<10 ^ 10):n.natAbs.log2<1920:=by
 exact mQ (Nat.lt_of_le_of_lt (show n.natAbs<=10 ^ 10 by omega) (by decide))
noncomputable def gG (c:Nat) (y:Str):Prop:=c ∉ y.cps.toList
theorem kG {n:Int} (h0:0<=n) {c:Nat} (hc:c<48):gG c (nT n):=by
 obtain⟨m,rfl⟩:=Int.eq_ofNat_of_zero_le h0
 intro h
 have:=g8 m c h
 omega
variable{ns:List Int}
theorem lA {y:Str} (hy:gG 32 y) (hn:dW ns):Txt.split (lnT y ns) " " = y::ns.map nT:=by
 show Txt.split (Builtin.Str.glued " " (y::ns.map nT)) _=_
 rw[StrLaws.glued_eq_join]
 refine fT (c:=32) (by simp) (fun x hx=>?_)
 rcases uz.mp hx with rfl | hx
 ·exact hy
 ·obtain⟨n,hn',rfl⟩:=uK.mp hx
  exact kG (hn.2 n hn').1 (by decide)
theorem iF {sep:Str}{ys:List Str}{M:Nat} (h:∀ y ∈ ys,y.length<=M):(Txt.join sep ys).length<=ys.length*(M+sep.length):=by
 show(Builtin.Str.glued sep ys).length<=_
 rw[StrLaws.glued_eq_join]
 refine Nat.le_trans (StrLaws.join_length_le sep ys) ?_
 have:(ys.map (·.length)).sum<=ys.length*M:=by
  induction ys with
  | nil=>simp
  | cons a r ih=>
   rw[uH,List.sum_cons,uv,Nat.succ_mul]
   have:=h a uk
   have:=ih fun y hy=>h y (uj _ hy)
   omega
 rw[Nat.mul_add]
 omega
theorem nR {y:Str} (hy:y.length<=100) (hn:dW ns):∀ x ∈ y::ns.map nT,x.length<=100:=fun x hx=>by
 rcases uz.mp hx with rfl | hx
 ·exact hy
 ·obtain⟨n,hn',rfl⟩:=uK.mp hx
  exact Nat.le_trans (iB (hn.2 n hn').1 (hn.2 n hn').2) (by decide)
theorem pF {y:Str} (hy:y.length<=100) (hn:dW ns):(lnT y ns).length<=1000000:=by
 refine Nat.le_trans (iF (nR hy hn)) ?_
 have:=hn.1
 rw[uv,um,show(Str.ofString " ").length=1 from rfl]
 omega
inductive sp_rl (vs:List V) (H:Hp) (Q:VK) (E_:XK):Prop
 | mk (y:Str) (ns:List Int) (L:Kn) (_:vs=[.str (lnT y ns)]) (_:Has H L) (_:gG 32 y) (_:y.length<=100) (_:dW ns) (_:∀ H' p l,Has H' ((p,.tup [.str y,.ref l])::(l,.lst (ns.map V.int))::L)->Q (.ref p) H'):sp_rl vs H Q E_
section
variable {P:Program}{w:World}{K:PySem.W.Frag}{mg:Str->Option Value}{base:Heap}{t:Adr}
theorem scxWl:FnScope ["word","numbers"] ["word","numbers"] (ah rA):={}
theorem fi (T:Txt K mg t):FnOk P w K mg base CX0 1 t.f_Jj t.d_Jj ["word","numbers"] (sp_wl K):=by
 refine T.F_Jj.ok scxWl (fun vs H Q E h=>?_) (fun cdv A outer s H vs Q E hr h=>?_)
 ·obtain⟨_,_,_,_,_,rfl,_⟩:=h
  rfl
 ·obtain⟨y,a,b,ns,L,rfl,hH,ha,hy,hns,q⟩:=h
  have sq:∀ {H':Hp}{X:Kn},Has H' (X++L)->SqB b K H' a (ns.map V.int):=fun h=>by
   rcases ha with ⟨rfl,m⟩ | ⟨rfl,m⟩
   ·exact SqL.of (h.at_ _ (ul _ m))
   ·exact SqT.of (h.at_ _ (ul _ m))
  refine⟨_,(af (aq (bV PySem.F.plainAttrs_str PySem.F.slot_str_join PySem.F.type_str_join kH aJ (aa (az kA (bb (aa (pv 0) ae)) (d6 (esc:=ah rA) (k:=1) ["number","word","numbers"] rfl (rJ (pv 1)) (fun _ _ _ _ _=>by exact(aw (i:=0) (show List.Nodup (["number","word","numbers"]:List Str) from by decide +kernel) rfl (Or.inl rfl))) (fun _ _ _ _ _=>by exact bB) (fun _ _ _ _ _=>by exact(aU iP (by rfl) T.z_str (by rfl) (aa (pv 0) ae))) rfl (by decide +kernel) (by decide +kernel) rfl (by decide +kernel) (by rfl) (fun _ _ h _=>h) (by decide +kernel))) ae)))),?_⟩
  refine⟨U,_,U,(sz_ 1),fun l1 hl1=>?_⟩
  have h1:=hH.alloc hl1 (.lst [.str y])
  refine⟨_,U,a,b,U,⟨_,sq (X:=[_]) h1⟩,fun D hD=>?_⟩
  refine⟨fun n m zs H'=>m=ns.length - n/\n<=ns.length/\zs=(ns.take n).map (fun x=>V.str (nT x))/\Has H' ((D,.lst zs)::(l1,.lst [.str y])::L),⟨_,U,Nat.zero_le _,U,h1.alloc hD _⟩,?_⟩
  rintro n m zs H2 ⟨rfl,hn,ez,h2⟩
  refine⟨h2.get 0 U,?_⟩
  have g0:=sq (X:=[_,_]) h2
  have lz:zs.length<=1000:=by rw[ez,um,uI]; have:=hns.1; omega
  by_cases hlt:n<ns.length
  ·have hx0:(ns.map V.int)[n]?=some (.int ns[n]):=by rw[ur,uo hlt]; rfl
   refine .inr ⟨ItB.go g0 hx0,?_⟩
   intro x H3 hy3
   obtain⟨rfl,hx⟩:=ItB.yld hy3 g0
   rw[hx0] at hx
   cases hx
   have nb:=hns.2 ns[n] (List.getElem_mem hlt)
   refine⟨U,bT ?_⟩
   refine⟨_,U,_,U,rZ nb.1 nb.2,?_⟩
   refine⟨sizeOk (by omega),h2.get 0 U,ns.length - (n+1),by omega,U,hlt,?_,h2.puti 0 U _⟩
   rw[ez,List.take_succ,uo hlt,uw]
   rfl
  ·refine .inl ⟨ItB.stop g0 (by rw[um]; omega),?_⟩
   have en:n=ns.length:=by omega
   rw[en,List.take_length] at ez
   refine⟨l1,D,_,_,U,U,SqL.of (h2.get 1 U),SqL.of (h2.get 0 U),Nat.le_trans (show [V.str y].length+zs.length<=1001 by simp; omega) ((sz_ 1001)),fun l hl=>?_⟩
   have h3:=h2.alloc hl (.lst ([.str y]++zs))
   have e3:[V.str y]++zs=(y::ns.map nT).map V.str:=by rw[ez]; simp
   rw[e3] at h3 ⊢
   refine⟨_,l,y::ns.map nT,U,U,SqL.of (h3.get 0 U),nX (M:=100) (fun x hx=>?_) ?_,q _ h3.tail.tail.tail⟩
   ·rcases uz.mp hx with rfl | hx
    ·exact hy
    ·obtain⟨n,hn,rfl⟩:=uK.mp hx
     exact Nat.le_trans (iB (hns.2 n hn).1 (hns.2 n hn).2) (by decide)
   ·have:=hns.1
    rw[uv,um,show(Str.ofString " ").length=1 from rfl]
    exact Nat.le_trans (show(ns.length+1)*(100+1)<=1000000 by omega) (sz (Nat.le_refl _))
theorem scxIp:FnScope ["word","sign"] ["word"] (ah qp):={}
theorem rW (T:Txt K mg t):FnOk P w K mg base CX0 1 t.f_J81 t.d_J81 ["word"] sp_plain:=by
 refine T.F_J81.ok scxIp (fun vs H Q E h=>?_) (fun cdv A outer s H vs Q E hr h=>?_)
 ·obtain⟨_,rfl,_⟩:=h
  rfl
 ·obtain⟨n,rfl,hn,q⟩:=h
  refine⟨_,(ac (bD PassesOwn.never rfl (rH (pv 0)) (aw (i:=1) scxIp.nd rfl (Or.inl rfl))
    (af (aA (ai iw (pv 1) (bU (by rfl) T.g_FIGURES T.r_FIGURES) (by rfl))
      (af (aq cx))
      aj)))
   (af (aq (pe_or (bO bq (pv 0) aJ (am _)) (cQ (dc (bO dF (pv 0) aJ (am _)) (cQ (bO dF (aF su (pv 0) ag) aJ (am _))))))))),?_⟩
  obtain⟨z,ez⟩:∃ z,nT (n:Int)=z:=⟨_,U⟩
  have hd:=g8 n
  have hne:=nT_ne n
  have hhd:=@pE n
  have hz0:n=0->z = "0":=fun e=>by rw[<- ez,e]; rfl
  rw[ez] at hd hne hhd ⊢
  have asc:z.cps.all (· < 128)=true:=by
   rw[<- Array.all_toList,List.all_eq_true]
   intro c hc
   have:=hd c hc
   exact decide_eq_true (by omega)
  refine⟨_,U,z,U,asc,pN (fun i σ H'=>∃ o:Option V,σ=[some (.str z),o]/\H'=H) ⟨_,U,U⟩ ?_ ?_⟩
  ·rintro i c σ H' hc ⟨o,rfl,rfl⟩
   have hm:c ∈ z.cps.toList:=ut (by rw[Array.getElem?_toList]; exact hc)
   have:=hd c hm
   exact⟨_,U,_,_,U,U,_,U,ifF (sB c this.1 this.2) ⟨_,U,U⟩⟩
  ·rintro σ H' ⟨o,rfl,rfl⟩
   have decS:∀ x y:Str,decide (V.str x=V.str y)=decide (x=y):=fun x y=>by by_cases h:x=y <;> simp[h]
   refine⟨_,U,U,_,U,?_⟩
   rw[decS]
   refine ifd (fun e0=>?_) (fun e0=>?_)
   ·exact q
   refine⟨_,U,U,_,U,?_⟩
   rw[decS]
   have e1:z ≠ "":=fun e=>hne (by rw[e]; rfl)
   refine ifT (by rw[decide_eq_false e1]; rfl) ?_
   obtain⟨c,hc⟩:∃ c,z.cps.toList[0]?=some c:=⟨_,uo (List.length_pos_iff.mpr hne)⟩
   have c48:c≠48:=fun e=>e0 (hz0 (hhd hc e))
   have lz:z.length<=sizeLine:=by
    rw[<- ez]
    exact Nat.le_trans (iB (by omega) (by omega)) ((sz_ 10))
   refine⟨_,U,z,0,c,U,U,lz,aL (j:=0) hc,U,?_⟩
   rw[decS,decide_eq_false (fun e=>c48 (by injection e with e; injection e with e; injection e))]
   exact q
theorem scxRn:FnScope ["word"] ["word"] (ah tK):={}
theorem ok_Jb (T:Txt K mg t):FnOk P w K mg base CX0 2 t.f_Jb t.d_Jb ["word"] sp_rnum:=by
 refine T.F_Jb.ok scxRn (fun vs H Q E h=>?_) (fun cdv A outer s H vs Q E hr h=>?_)
 ·obtain⟨_,rfl,_⟩:=h
  rfl
 ·obtain⟨n,rfl,h0,h1,q⟩:=h
  refine⟨_,(ac (aA (bP (bx (pcl (rW T) hr T.m_J81 T.F_J81.kp (b_J81 T) (aa (pv 0) ae))))
    (af aR)
    aj)
   (af (aq (aU iR (by rfl) T.z_int (by rfl) (aa (pv 0) ae))))),?_⟩
  obtain⟨m,rfl⟩:=Int.eq_ofNat_of_zero_le h0
  refine⟨_,U,m,U,by omega,_,U,bA ?_⟩
  exact⟨_,U,(m:Int),U,h0,h1,q⟩
theorem scxRl:FnScope ["line","words"] ["line"] (ah rp):={}
theorem ok_Jw (T:Txt K mg t):FnOk P w K mg base CX0 3 t.f_Jw t.d_Jw ["line"] sp_rl:=by
 refine T.F_Jw.ok scxRl (fun vs H Q E h=>?_) (fun cdv A outer s H vs Q E hr h=>?_)
 ·obtain⟨_,_,_,rfl,_⟩:=h
  rfl
 ·obtain⟨y,ns,L,rfl,hH,fy,hy,hns,q⟩:=h
  refine⟨_,(ac (aD (i:=1) scxRl.nd rfl (Or.inl rfl) (bV PySem.F.plainAttrs_str PySem.F.slot_str_split PySem.F.type_str_split jg (pv 0) (aa aJ ae)))
   (af (aq (aI (aa (aF ar (pv 1) ag) (aa (d6 (esc:=ah rp) (k:=1) ["word","line","words"] rfl (br (dm dX (pv 1) (d3 ag) d4)) (fun _ _ _ _ _=>by exact(aw (i:=0) (show List.Nodup (["word","line","words"]:List Str) from by decide +kernel) rfl (Or.inl rfl))) (fun _ _ _ _ _=>by exact bB) (fun _ _ _ _ _=>by exact(pcl (ok_Jb T) hr T.m_Jb T.F_Jb.kp (b_Jb T) (aa (pv 0) ae))) rfl (by decide +kernel) (by decide +kernel) rfl (by decide +kernel) (by rfl) (fun _ _ h _=>h) (by decide +kernel)) ae)))))),?_⟩
  have es:=lA fy hns
  refine⟨_,U,U,lnT y ns,_,U,U,U,Nat.le_trans (pF hy hns) (sz (Nat.le_refl _)),?_,fun l hl=>?_⟩
  ·rw[es,uv,um]
   have:=hns.1
   exact sz (by omega)
  rw[es]
  have h1:=hH.alloc hl (.lst ((y::ns.map nT).map V.str))
  refine⟨_,U,l,_,_,_,U,U,SqL.of (h1.get 0 U),aL (j:=0) rfl,?_⟩
  refine⟨_,U,_,U,l,_,U,SqL.of (h1.get 0 U),fun l2 hl2=>?_⟩
  have ecut:di ((y::ns.map nT).map V.str) (some 1) none=ns.map fun n=>V.str (nT n):=by
   simp only[di,HT.sIx,uH,uv,um]
   simp
   rw[List.take_of_length_le (by simp)]
   rfl
  rw[ecut]
  have h2:=h1.alloc hl2 (.lst (ns.map fun n=>V.str (nT n)))
  refine⟨l2,U,⟨_,SqL.of (h2.get 0 U)⟩,fun D hD=>?_⟩
  refine⟨fun n m zs H'=>m=ns.length - n/\n<=ns.length/\zs=(ns.take n).map V.int/\Has H' ((D,.lst zs)::(l2,.lst (ns.map fun n=>V.str (nT n)))::(l,.lst ((y::ns.map nT).map V.str))::L),⟨_,U,Nat.zero_le _,U,h2.alloc hD _⟩,?_⟩
  rintro n m zs H3 ⟨rfl,hn,ez,h3⟩
  refine⟨h3.get 0 U,?_⟩
  have lz:zs.length<=1000:=by rw[ez,um,uI]; have:=hns.1; omega
  by_cases hlt:n<ns.length
  ·have hx0:(ns.map fun n=>V.str (nT n))[n]?=some (.str (nT ns[n])):=by rw[ur,uo hlt]; rfl
   refine .inr ⟨⟨_,_,SqL.of (h3.get 1 U),hx0⟩,?_⟩
   rintro x H4 ⟨rfl,hx⟩
   have e1:=hx _ (SqL.of (h3.get 1 U))
   rw[hx0] at e1
   cases e1
   have nb:=hns.2 ns[n] (List.getElem_mem hlt)
   refine⟨U,bT ?_⟩
   refine⟨_,U,ns[n],U,nb.1,nb.2,?_⟩
   refine⟨sizeOk (by omega),h3.get 0 U,ns.length - (n+1),by omega,U,hlt,?_,h3.puti 0 U _⟩
   rw[ez,List.take_succ,uo hlt,uw]
   rfl
  ·refine .inl ⟨⟨_,SqL.of (h3.get 1 U),by rw[um]; omega⟩,?_⟩
   have en:n=ns.length:=by omega
   rw[en,List.take_length] at ez
   subst ez
   refine⟨(sz_ 2),fun p hp=>?_⟩
   have h4:=h3.alloc hp (.tup [.str y,.ref D])
   exact q _ p D (h4.sub (by
    refine .cons_cons _ (.cons_cons _ ?_)
    exact .cons _ (.cons _ (List.Sublist.refl _))))
end
inductive sp_lift (C:Addr) (vs:List V) (H:Hp) (Q:VK) (E_:XK):Prop
 | mk (A:YA) (y:YR) (L:Kn) (n:Int) (k:Kd) (_:vs=[.ref A.p,.int n]) (_:Has H (yL C A y++L)) (_:ak y.kinds (Sum.inl n)=some (.str k.str)) (_:(∀ e:Int,0<=e->e<k.many->ak y.mates (kE n e)=none)) (_:(y.eng=.non∨∃ (b:Addr) (n1 e1:Int),y.eng=.ref b/\(b,HO.tup [.int n1,.int e1]) ∈ L/\n1≠n)) (_:∀ H' q,Has H' (yL C { A with tr:=q } { y with kinds:=ax y.kinds (Sum.inl n),notes:=ax y.notes (Sum.inl n),rods:=ax y.rods (Sum.inl n),trail:=[] }++L)->Q .non H'):sp_lift C vs H Q E_
theorem qN (A:YA) (next:Int) (eng:V):(fl A next eng).lookup ("lift" : Str)=none:=by kernel_rfl
theorem cm {κ:Type} [DecidableEq κ] {kvs:List (κ×V)}{k:κ} (h:ak kvs k=none):ax kvs k=kvs:=by
 induction kvs with
 | nil=>rfl
 | cons p r ih=>
  by_cases e:p.1=k
  ·rw[bc e] at h; cases h
  ·rw[aW e] at h
   rw[cC e,ih h]
section
variable {P:Program}{w:World}{K:PySem.W.Frag}{mg:Str->Option Value}{base:Heap}{t:Adr}
theorem scLf:FnScope ["self","piece","end"] ["self","piece"] (ah qw):={}
theorem nL (T:Txt K mg t):FnOk P w K mg base CX0 2 t.f_J21 t.d_J21 ["self","piece"] (sp_lift t.c_Yard):=by
 refine T.F_J21.ok scLf (fun vs H Q E h=>?_) (fun cdv A outer s H vs Q E hr h=>?_)
 ·obtain⟨_,_,_,_,_,rfl,_⟩:=h
  rfl
 ·obtain⟨A,y,L,n,k,rfl,hH,hk,hm,en,q⟩:=h
  have hu:=cV hr
  refine⟨_,(ac (al (ao (pv 0) T.cl_Yard T.M_J2 (jf T) hr (oM T) .nil ap (aa (pv 1) ae)))
   (ac (bD PassesOwn.never rfl (bG (by rfl) T.z_range (aa (pcl (jM T) hr T.m_Jd1 T.F_Jd1.kp (oI T) (aa (db hu (aB (pv 0) rfl) (pv 1)) ae)) ae)) (aw (i:=2) scLf.nd rfl (Or.inl rfl))
    (af (aA (dM (jL hu (aI (aa (pv 1) (aa (pv 2) ae))) (aB (pv 0) rfl)))
      (af aR)
      aj)))
   (ac (aA (PW.pt (dL (ai cz (aB (pv 0) rfl) aV (am _)) (da (ai bq (aF cS (aB (pv 0) rfl) ag) (pv 1) (am _)))))
    (af aR)
    aj)
   (ac (pj (aB (pv 0) rfl) (pv 1))
   (ac (al (jd (aB (pv 0) rfl) (pv 1) aV ⟨U,U,U,U⟩))
   (ac (al (jd (aB (pv 0) rfl) (pv 1) aV ⟨U,U,U,U⟩))
   (af (al (aC (pv 0) T.cl_Yard T.M_J5 (g7 T) hr (lY T) .nil ap))))))))),?_⟩
  refine⟨_,U,A.p,A.dx,_,U,hH.get 1 U,(aY _ _ _).2.2.2.2.2.2.2.1,_,U,A,y,L,n,_,U,hH,hk,?_⟩
  have km:1<=k.many/\k.many<=3:=by cases k <;> decide
  refine⟨_,U,A.p,_,A.dx,_,_,U,hH.get 1 U,T.cl_Yard,T.n_Yard_kinds,bY _ _ _,_,U,A.k,_,U,(by rw[<- hk]; exact DGet.k (k:=Sum.inl n) (hH.get 3 U)),k,U,k.many,U,by omega,by omega,bS (fun i σ H'=>∃ o1:Option V,σ=[some (.ref A.p),some (.int n),o1]/\Has H' (yL t.c_Yard A y++L)) ⟨_,U,hH⟩ ?_ ?_⟩
  ·rintro i σ H1 hi ⟨o1,rfl,h1⟩
   refine⟨_,U,_,U,(show 2<=sizeLine by decide),fun b hb=>?_⟩
   have h2:=h1.alloc hb (.tup [.int n,.int (0+(i:Int))])
   refine⟨_,U,A.p,_,A.dx,_,_,U,h2.get 2 U,T.cl_Yard,T.n_Yard_mates,cJ _ _ _,A.m,_,U,DGet.t (k:=kE n (0+(i:Int))) (h2.get 8 U) (h2.get 0 U),_,U,ifF (by rw[hm _ (by omega) (by omega)]; rfl) ?_⟩
   exact⟨_,U,h2.tail⟩
  ·rintro σ H1 ⟨o1,rfl,h1⟩
   rcases en with en | ⟨eb,n1,e1,en,eL,ne⟩
   ·refine⟨_,U,A.p,_,A.dx,_,_,U,h1.get 1 U,T.cl_Yard,T.n_Jd_end,dS _ _ _,U,_,U,ifF (by rw[en]; rfl) (bA ?_)⟩
    refine⟨_,U,A.p,_,A.dx,_,_,U,h1.get 1 U,T.cl_Yard,T.n_Yard_kinds,bY _ _ _,_,U,A.k,_,Sum.inl n,U,h1.get 3 U,U,by rw[hk]; rfl,?_⟩
    have h2:Has _ (yL t.c_Yard A { y with kinds:=ax y.kinds (Sum.inl n) }++L):=h1.puti 3 U (.dK (ax y.kinds (Sum.inl n)))
    generalize upd H1 A.k _=H2 at h2 ⊢
    refine⟨_,U,A.p,_,A.dx,_,_,U,h2.get 1 U,T.cl_Yard,T.n_Yard_notes,bK _ _ _,A.n,U,.inl ⟨_,.inl (h2.get 4 U)⟩,_,U,_,Sum.inl n,h2.get 4 U,U,fun v hv=>?_,fun hv=>?_⟩
    ·have h3:Has _ (yL t.c_Yard A { y with kinds:=ax y.kinds (Sum.inl n),notes:=ax y.notes (Sum.inl n) }++L):=h2.puti 4 U (.dK (ax y.notes (Sum.inl n)))
     refine⟨_,U,A.p,_,A.dx,_,_,U,h3.get 1 U,T.cl_Yard,T.n_J31_under,cq _ _ _,A.r,U,.inl ⟨_,.inl (h3.get 5 U)⟩,_,U,_,Sum.inl n,h3.get 5 U,U,fun v hv=>?_,fun hv=>?_⟩
     ·have h4:Has _ (yL t.c_Yard A { y with kinds:=ax y.kinds (Sum.inl n),notes:=ax y.notes (Sum.inl n),rods:=ax y.rods (Sum.inl n) }++L):=h3.puti 5 U (.dK (ax y.rods (Sum.inl n)))
      exact⟨_,U,A.p,A.dx,_,U,h4.get 1 U,(aY _ _ _).2.2.2.2.2.2.1,A,_,L,U,h4,fun H' a h5=>q H' a h5⟩
     ·have h4':∀ H,Has H (yL t.c_Yard A { y with kinds:=ax y.kinds (Sum.inl n),notes:=ax y.notes (Sum.inl n) }++L)->Has H (yL t.c_Yard A { y with kinds:=ax y.kinds (Sum.inl n),notes:=ax y.notes (Sum.inl n),rods:=ax y.rods (Sum.inl n) }++L):=fun H h=>by rw[cm (kvs:=y.rods) hv]; exact h
      have h4:=h4' _ h3
      exact⟨_,U,A.p,A.dx,_,U,h4.get 1 U,(aY _ _ _).2.2.2.2.2.2.1,A,_,L,U,h4,fun H' a h5=>q H' a h5⟩
    ·have h3:Has H2 (yL t.c_Yard A { y with kinds:=ax y.kinds (Sum.inl n),notes:=ax y.notes (Sum.inl n) }++L):=by rw[cm (kvs:=y.notes) hv]; exact h2
     refine⟨_,U,A.p,_,A.dx,_,_,U,h3.get 1 U,T.cl_Yard,T.n_J31_under,cq _ _ _,A.r,U,.inl ⟨_,.inl (h3.get 5 U)⟩,_,U,_,Sum.inl n,h3.get 5 U,U,fun v hv=>?_,fun hv=>?_⟩
     ·have h4:Has _ (yL t.c_Yard A { y with kinds:=ax y.kinds (Sum.inl n),notes:=ax y.notes (Sum.inl n),rods:=ax y.rods (Sum.inl n) }++L):=h3.puti 5 U (.dK (ax y.rods (Sum.inl n)))
      exact⟨_,U,A.p,A.dx,_,U,h4.get 1 U,(aY _ _ _).2.2.2.2.2.2.1,A,_,L,U,h4,fun H' a h5=>q H' a h5⟩
     ·have h4':∀ H,Has H (yL t.c_Yard A { y with kinds:=ax y.kinds (Sum.inl n),notes:=ax y.notes (Sum.inl n) }++L)->Has H (yL t.c_Yard A { y with kinds:=ax y.kinds (Sum.inl n),notes:=ax y.notes (Sum.inl n),rods:=ax y.rods (Sum.inl n) }++L):=fun H h=>by rw[cm (kvs:=y.rods) hv]; exact h
      have h4:=h4' _ h3
      exact⟨_,U,A.p,A.dx,_,U,h4.get 1 U,(aY _ _ _).2.2.2.2.2.2.1,A,_,L,U,h4,fun H' a h5=>q H' a h5⟩
   ·refine⟨_,U,A.p,_,A.dx,_,_,U,h1.get 1 U,T.cl_Yard,T.n_Jd_end,dS _ _ _,U,_,U,ifT (by rw[en]; rfl) ?_⟩
    have gb:H1 eb=some (.tup [.int n1,.int e1]):=h1.at_ _ (ul _ eL)
    refine⟨_,U,A.p,_,A.dx,_,_,U,h1.get 1 U,T.cl_Yard,T.n_Jd_end,dS _ _ _,eb,_,_,_,en,U,SqT.of gb,U,_,U,U,_,U,ifF (decide_eq_false (fun e=>ne (by injection e))) ?_⟩
    refine⟨_,U,A.p,_,A.dx,_,_,U,h1.get 1 U,T.cl_Yard,T.n_Yard_kinds,bY _ _ _,_,U,A.k,_,Sum.inl n,U,h1.get 3 U,U,by rw[hk]; rfl,?_⟩
    have h2:Has _ (yL t.c_Yard A { y with kinds:=ax y.kinds (Sum.inl n) }++L):=h1.puti 3 U (.dK (ax y.kinds (Sum.inl n)))
    generalize upd H1 A.k _=H2 at h2 ⊢
    refine⟨_,U,A.p,_,A.dx,_,_,U,h2.get 1 U,T.cl_Yard,T.n_Yard_notes,bK _ _ _,A.n,U,.inl ⟨_,.inl (h2.get 4 U)⟩,_,U,_,Sum.inl n,h2.get 4 U,U,fun v hv=>?_,fun hv=>?_⟩
    ·have h3:Has _ (yL t.c_Yard A { y with kinds:=ax y.kinds (Sum.inl n),notes:=ax y.notes (Sum.inl n) }++L):=h2.puti 4 U (.dK (ax y.notes (Sum.inl n)))
     refine⟨_,U,A.p,_,A.dx,_,_,U,h3.get 1 U,T.cl_Yard,T.n_J31_under,cq _ _ _,A.r,U,.inl ⟨_,.inl (h3.get 5 U)⟩,_,U,_,Sum.inl n,h3.get 5 U,U,fun v hv=>?_,fun hv=>?_⟩
     ·have h4:Has _ (yL t.c_Yard A { y with kinds:=ax y.kinds (Sum.inl n),notes:=ax y.notes (Sum.inl n),rods:=ax y.rods (Sum.inl n) }++L):=h3.puti 5 U (.dK (ax y.rods (Sum.inl n)))
      exact⟨_,U,A.p,A.dx,_,U,h4.get 1 U,(aY _ _ _).2.2.2.2.2.2.1,A,_,L,U,h4,fun H' a h5=>q H' a h5⟩
     ·have h4':∀ H,Has H (yL t.c_Yard A { y with kinds:=ax y.kinds (Sum.inl n),notes:=ax y.notes (Sum.inl n) }++L)->Has H (yL t.c_Yard A { y with kinds:=ax y.kinds (Sum.inl n),notes:=ax y.notes (Sum.inl n),rods:=ax y.rods (Sum.inl n) }++L):=fun H h=>by rw[cm (kvs:=y.rods) hv]; exact h
      have h4:=h4' _ h3
      exact⟨_,U,A.p,A.dx,_,U,h4.get 1 U,(aY _ _ _).2.2.2.2.2.2.1,A,_,L,U,h4,fun H' a h5=>q H' a h5⟩
    ·have h3:Has H2 (yL t.c_Yard A { y with kinds:=ax y.kinds (Sum.inl n),notes:=ax y.notes (Sum.inl n) }++L):=by rw[cm (kvs:=y.notes) hv]; exact h2
     refine⟨_,U,A.p,_,A.dx,_,_,U,h3.get 1 U,T.cl_Yard,T.n_J31_under,cq _ _ _,A.r,U,.inl ⟨_,.inl (h3.get 5 U)⟩,_,U,_,Sum.inl n,h3.get 5 U,U,fun v hv=>?_,fun hv=>?_⟩
     ·have h4:Has _ (yL t.c_Yard A { y with kinds:=ax y.kinds (Sum.inl n),notes:=ax y.notes (Sum.inl n),rods:=ax y.rods (Sum.inl n) }++L):=h3.puti 5 U (.dK (ax y.rods (Sum.inl n)))
      exact⟨_,U,A.p,A.dx,_,U,h4.get 1 U,(aY _ _ _).2.2.2.2.2.2.1,A,_,L,U,h4,fun H' a h5=>q H' a h5⟩
     ·have h4':∀ H,Has H (yL t.c_Yard A { y with kinds:=ax y.kinds (Sum.inl n),notes:=ax y.notes (Sum.inl n) }++L)->Has H (yL t.c_Yard A { y with kinds:=ax y.kinds (Sum.inl n),notes:=ax y.notes (Sum.inl n),rods:=ax y.rods (Sum.inl n) }++L):=fun H h=>by rw[cm (kvs:=y.rods) hv]; exact h
      have h4:=h4' _ h3
      exact⟨_,U,A.p,A.dx,_,U,h4.get 1 U,(aY _ _ _).2.2.2.2.2.2.1,A,_,L,U,h4,fun H' a h5=>q H' a h5⟩
end
noncomputable def cK (KS:List (Int×Kd)):List (Key×V):=KS.map fun p=>((Sum.inl p.1:Key),V.str p.2.str)
theorem g9 (KS:List (Int×Kd)):(cK KS).map (fun kv=>kV kv.1)=(KS.map (·.1)).map V.int:=by
 unfold cK; rw[uQ,uQ]; rfl
theorem n9 (n:Nat):aX n=((List.range n).map fun i:Nat=>(i:Int)).map V.int:=by
 unfold aX; rw[uQ]; rfl
noncomputable def de (W:Wd) (n:Int) (e:Nat):List (List Int):=match W.mf n e with
 | some z=>if HT.lexLt [n,(e:Int)] [z.2.1,z.2.2]=true then [[n,(e:Int),z.2.1,z.2.2]] else []
 | none=>[]
noncomputable def pcN (W:Wd) (p:Int×Kd):List Int:=if p.2=.bell then [p.1,W.nf p.1] else if p.2.point=true then [p.1,W.rf p.1] else [p.1]
noncomputable def pcL (W:Wd) (p:Int×Kd):Str:=lnT p.2.str (pcN W p)
noncomputable def lkP (W:Wd) (p:Int×Kd) (m:Nat):List Str:=(List.range m).flatMap fun e=>(de W p.1 e).map (lnT "link")
noncomputable def lkL (W:Wd) (KS:List (Int×Kd)):List Str:=KS.flatMap fun p=>lkP W p p.2.many.toNat
noncomputable def rdL (s:Sd):List Str:=(List.range s.ss.length).map fun i:Nat=>lnT "rod" [(i:Int),s.ss.getD i 0]
noncomputable def enL (s:Sd):List Str:=match s.at_ with
 | some z=>[lnT "engine" [z.2.1,z.2.2]]
 | none=>[]
noncomputable def rgL (s:Sd):List Str:=if s.rg=[] then [] else [lnT "rung" s.rg]
noncomputable def ytL (W:Wd) (s:Sd) (KS:List (Int×Kd)) (nx:Int):List Str:=lnT "next" [nx,(s.ss.length:Int)]::(rdL s++(KS.map (pcL W)++(lkL W KS++(enL s++rgL s))))
noncomputable def ytT (W:Wd) (s:Sd) (KS:List (Int×Kd)) (nx:Int):Str:=Txt.join "\n" (ytL W s KS nx)
structure YFit (W:Wd) (s:Sd) (KS:List (Int×Kd)) (nx:Int):Prop where
 nx:0<=nx/\nx<10000
 k:∀ n k,W.kf n=some k->0<=n/\n<10000
 n:∀ n k,W.kf n=some k->k=.bell->0<=W.nf n/\W.nf n<=9999
 ks:∀ p ∈ KS,W.kf p.1=some p.2
 kl:KS.length<=30
 sl:s.ss.length<=30
 rl:s.rg.length<=30
 rg:∀ x ∈ s.rg,0<=x/\x<=9999
theorem qG {a:Int} (h:0<=a/\a<100000):dW [a]:=⟨show 1<=1000 by decide,fun n hn=>by cases uu.mp hn; omega⟩
theorem cU {a b:Int} (h:0<=a/\a<100000) (h2:0<=b/\b<100000):dW [a,b]:=⟨show 2<=1000 by decide,fun n hn=>by
 simp only[uz,uL,or_false] at hn
 rcases hn with rfl | rfl <;> omega⟩
theorem nM {a b c d:Int} (h:0<=a/\a<100000) (h2:0<=b/\b<100000) (h3:0<=c/\c<100000) (h4:0<=d/\d<100000):dW [a,b,c,d]:=⟨show 4<=1000 by decide,fun n hn=>by
 simp only[uz,uL,or_false] at hn
 rcases hn with rfl | rfl | rfl | rfl <;> omega⟩
theorem Kd.strl (k:Kd):k.str.length<=10:=by cases k <;> decide +kernel
theorem Kd.m3 (k:Kd):1<=k.many/\k.many<=3:=by cases k <;> decide
variable{KS:List (Int×Kd)}
theorem kx {W:Wd}{nx:Int}{y:YR} (f:YFit W s KS nx) (R:Rep W s y) {p:Int×Kd} (hp:W.kf p.1=some p.2):dW (pcN W p):=by
 have h1:=f.k _ _ hp
 unfold pcN
 split
 ·have:=f.n _ _ hp (by assumption)
  exact cU ⟨h1.1,by omega⟩ ⟨this.1,by omega⟩
 ·split
  ·have:=R.rr _ _ hp (by assumption)
   have:=f.sl
   exact cU ⟨h1.1,by omega⟩ ⟨by omega,by omega⟩
  ·exact qG ⟨h1.1,by omega⟩
theorem fI {W:Wd}{nx:Int} (f:YFit W s KS nx) {z:En} (h:W.ok z):(0<=z.2.1/\z.2.1<100000)/\(0<=z.2.2/\z.2.2<100000):=by
 obtain⟨k,h1,h2,h3⟩:=h
 have:=f.k _ _ h1
 have:=k.m3
 exact⟨⟨by omega,by omega⟩,⟨h2,by omega⟩⟩
theorem pG (W:Wd) (p:Int×Kd) (m:Nat):(lkP W p m).length<=m:=by
 unfold lkP
 induction m with
 | zero=>simp
 | succ m ih=>
  rw[List.range_succ,List.flatMap_append,uq]
  have:((de W p.1 m).map (lnT "link")).length<=1:=by
   rw[um]
   unfold de
   split
   ·split <;> simp
   ·simp
  simp only[List.flatMap_cons,List.flatMap_nil,uN]
  omega
theorem fK (W:Wd):∀ KS:List (Int×Kd),(lkL W KS).length<=KS.length*3
 | []=>by simp[lkL]
 | p::KS=>by
  have h1:=fK W KS
  have h2:=pG W p p.2.many.toNat
  have h3:=p.2.m3
  unfold lkL at h1 ⊢
  rw[List.flatMap_cons,uq,uv]
  omega
theorem cj {x:Str} (hx:x.length<=10) (hn:dW ns) (hl:ns.length<=30):(lnT x ns).length<=400:=by
 have h1:∀ y ∈ x::ns.map nT,y.length<=10:=fun y hy=>by
  rcases uz.mp hy with rfl | hy
  ·exact hx
  ·obtain⟨n,hn',rfl⟩:=uK.mp hy
   exact iB (hn.2 n hn').1 (hn.2 n hn').2
 refine Nat.le_trans (iF h1) ?_
 rw[uv,um,show(Str.ofString " ").length=1 from rfl]
 omega
theorem ko {W:Wd}{nx:Int} (f:YFit W s KS nx):dW s.rg:=⟨by have:=f.rl; omega,fun n hn=>by have:=f.rg n hn; omega⟩
theorem lZ {W:Wd}{nx:Int}{y:YR} (f:YFit W s KS nx) (R:Rep W s y):∀ x ∈ ytL W s KS nx,x.length<=400:=by
 intro x hx
 have sl:=f.sl
 unfold ytL at hx
 rcases uz.mp hx with rfl | hx
 ·exact cj (by decide +kernel) (cU ⟨f.nx.1,by have:=f.nx.2; omega⟩ ⟨by omega,by omega⟩) (show 2<=30 by decide)
 rcases uA.mp hx with hx | hx
 ·unfold rdL at hx
  obtain⟨i,hi,rfl⟩:=uK.mp hx
  have hi:=uR.mp hi
  have gs:s.ss[i]?=some (s.ss.getD i 0):=by rw[List.getD_eq_getElem?_getD,uo hi]; rfl
  have v12:=R.s12 _ (ut gs)
  exact cj (by decide +kernel) (cU ⟨by omega,by omega⟩ ⟨by omega,by omega⟩) (show 2<=30 by decide)
 rcases uA.mp hx with hx | hx
 ·obtain⟨p,hp,rfl⟩:=uK.mp hx
  refine cj p.2.strl (kx f R (f.ks p hp)) ?_
  unfold pcN
  split
  ·show 2<=30; decide
  ·split
   ·show 2<=30; decide
   ·show 1<=30; decide
 rcases uA.mp hx with hx | hx
 ·obtain⟨p,hp,hx⟩:=List.mem_flatMap.mp hx
  obtain⟨e,he,hx⟩:=List.mem_flatMap.mp hx
  obtain⟨ns,hns,rfl⟩:=uK.mp hx
  have he:=uR.mp he
  have h3:=p.2.m3
  have kn:=f.k _ _ (f.ks p hp)
  unfold de at hns
  split at hns
  ·rename_i z hz
   split at hns
   ·cases uu.mp hns
    have oz:=fI f (R.mo _ _ _ hz)
    exact cj (by decide +kernel) (nM ⟨kn.1,by omega⟩ ⟨by omega,by omega⟩ oz.1 oz.2) (show 4<=30 by decide)
   ·cases hns
  ·cases hns
 rcases uA.mp hx with hx | hx
 ·unfold enL at hx
  split at hx
  ·rename_i z hz
   cases uu.mp hx
   have oz:=fI f (R.eo _ hz)
   exact cj (by decide +kernel) (cU oz.1 oz.2) (show 2<=30 by decide)
  ·cases hx
 ·unfold rgL at hx
  split at hx
  ·cases hx
  ·cases uu.mp hx
   exact cj (by decide +kernel) (ko f) f.rl
theorem oR {W:Wd}{nx:Int}{y:YR} (f:YFit W s KS nx) (R:Rep W s y):JoinOk "\n" (ytL W s KS nx)=true:=by
 refine nX (M:=400) (lZ f R) ?_
 have h1:=fK W KS
 have h2:=f.kl
 have h3:=f.sl
 have h4:(enL s).length<=1:=by unfold enL; split <;> simp
 have h5:(rgL s).length<=1:=by unfold rgL; split <;> simp
 have h6:(rdL s).length=s.ss.length:=by unfold rdL; rw[um,List.length_range]
 unfold ytL
 rw[show(Str.ofString "\n").length=1 from rfl,uv,uq,uq,uq,uq,um]
 refine sz ?_
 omega
inductive sp_pcl (C:Addr) (vs:List V) (H:Hp) (Q:VK) (E_:XK):Prop
 | mk (A:YA) (y:YR) (L:Kn) (W:Wd) (s:Sd) (KS:List (Int×Kd)) (nx:Int) (p:Int×Kd) (_:vs=[.ref A.p,.int p.1]) (_:Has H (yL C A y++L)) (_:Rep W s y) (_:YFit W s KS nx) (_:W.kf p.1=some p.2) (_:∀ H',Has H' (yL C A y++L)->Q (.str (pcL W p)) H'):sp_pcl C vs H Q E_
inductive sp_lkl (C:Addr) (vs:List V) (H:Hp) (Q:VK) (E_:XK):Prop
 | mk (A:YA) (y:YR) (L:Kn) (W:Wd) (s:Sd) (KS:List (Int×Kd)) (nx:Int) (_:vs=[.ref A.p]) (_:Has H (yL C A y++L)) (_:Rep W s y) (_:Pool W s L) (_:YFit W s KS nx) (_:y.kinds=cK KS) (_:∀ H' l,Has H' (yL C A y++((l,.lst ((lkL W KS).map V.str))::L))->Q (.ref l) H'):sp_lkl C vs H Q E_
inductive sp_wy (C:Addr) (vs:List V) (H:Hp) (Q:VK) (E_:XK):Prop
 | mk (A:YA) (y:YR) (L:Kn) (W:Wd) (s:Sd) (KS:List (Int×Kd)) (_:vs=[.ref A.p]) (_:Has H (yL C A y++L)) (_:Rep W s y) (_:Pool W s L) (_:cc y) (_:YFit W s KS y.next) (_:y.kinds=cK KS) (_:∀ H',Has H' (yL C A y++L)->Q (.str (ytT W s KS y.next)) H'):sp_wy C vs H Q E_
section
variable {P:Program}{w:World}{K:PySem.W.Frag}{mg:Str->Option Value}{base:Heap}{t:Adr}
theorem scPl:FnScope ["yard","piece","kind"] ["yard","piece"] (ah tu):={}
theorem ok_Jl (T:Txt K mg t):FnOk P w K mg base CX0 4 t.f_Jl t.d_Jl ["yard","piece"] (sp_pcl t.c_Yard):=by
 refine T.F_Jl.ok scPl (fun vs H Q E h=>?_) (fun cdv A outer s H vs Q E hr h=>?_)
 ·obtain⟨_,_,_,_,_,_,_,_,rfl,_⟩:=h
  rfl
 ·obtain⟨A,y,L,W,sd,KS,nx,p,rfl,hH,R,f,hp,q⟩:=h
  refine⟨_,(ac (aD (i:=2) scPl.nd rfl (Or.inl rfl) (ao (pv 0) T.cl_Yard T.M_J51 (jO T) hr (oK T) .nil ap (aa (pv 1) ae)))
   (ac (aA (ai bq (pv 2) aJ (am _))
    (af (aq (pcl (fi T) hr T.m_Jj T.F_Jj.kp (jC T) (@aa _ _ _ _ _ (pv 2) (@aa _ _ _ _ _ (bb (aa (pv 1) (aa (ao (pv 0) T.cl_Yard T.M_J61 (rY T) hr (b_J61 T) .nil ap (aa (pv 1) ae)) ae))) ae (by rfl)) (by rfl)))))
    aj)
   (ac (aA (bx (pcl (iA T) hr T.m_J91 T.F_J91.kp (kW T) (aa (pv 2) ae)))
    (af (aq (pcl (fi T) hr T.m_Jj T.F_Jj.kp (jC T) (@aa _ _ _ _ _ (pv 2) (@aa _ _ _ _ _ (bb (aa (pv 1) (aa (ao (pv 0) T.cl_Yard T.M_Jc1 (jN T) hr (oJ T) .nil ap (aa (pv 1) ae)) ae))) ae (by rfl)) (by rfl)))))
    aj)
   (af (aq (pcl (fi T) hr T.m_Jj T.F_Jj.kp (jC T) (@aa _ _ _ _ _ (pv 2) (@aa _ _ _ _ _ (bb (aa (pv 1) ae)) ae (by rfl)) (by rfl)))))))),?_⟩
  refine⟨_,U,A.p,A.dx,_,U,hH.get 1 U,(bo _ _ _).2.2.2.2.1,_,U,A,y,_,p.1,_,U,hH,R.kd _ _ hp,?_⟩
  refine⟨_,U,U,_,U,?_⟩
  rw[p.2.isBell]
  have nm:=kx f R hp
  have sl:p.2.str.length<=100:=Nat.le_trans p.2.strl (by decide)
  refine ifd (fun c=>?_) (fun c=>?_)
  ·have e:pcN W p=[p.1,W.nf p.1]:=by unfold pcN; rw[if_pos c]
   unfold pcL at q
   rw[e] at q nm
   refine⟨_,U,_,U,_,U,A.p,A.dx,_,U,hH.get 1 U,(bo _ _ _).2.2.2.2.2.1,_,U,A,y,_,p.1,_,_,U,hH,R.kd _ _ hp,(by rw[R.no _ _ hp,if_pos c]),(sz_ 2),fun l hl=>?_⟩
   exact⟨p.2.str,l,true,[p.1,W.nf p.1],_,U,hH.alloc hl _,.inl ⟨U,uk⟩,sl,nm,fun H2 h2=>q _ h2.tail⟩
  refine⟨_,U,p.2,U,_,U,?_⟩
  refine if2 (fun c2=>?_) (fun c2=>?_)
  ·have e:pcN W p=[p.1,W.rf p.1]:=by unfold pcN; rw[if_neg c,if_pos c2]
   unfold pcL at q
   rw[e] at q nm
   refine⟨_,U,_,U,_,U,A.p,A.dx,_,U,hH.get 1 U,(aY _ _ _).2.2.2.2.1,_,U,A,y,_,p.1,_,_,U,hH,R.kd _ _ hp,(by rw[R.ro _ _ hp,if_pos c2]),(sz_ 2),fun l hl=>?_⟩
   exact⟨p.2.str,l,true,[p.1,W.rf p.1],_,U,hH.alloc hl _,.inl ⟨U,uk⟩,sl,nm,fun H2 h2=>q _ h2.tail⟩
  ·have e:pcN W p=[p.1]:=by unfold pcN; rw[if_neg c,if_neg (by rw[c2]; exact Bool.false_ne_true)]
   unfold pcL at q
   rw[e] at q nm
   refine⟨_,U,_,U,(sz_ 1),fun l hl=>?_⟩
   exact⟨p.2.str,l,true,[p.1],_,U,hH.alloc hl _,.inl ⟨U,uk⟩,sl,nm,fun H2 h2=>q _ h2.tail⟩
theorem scLl:FnScope ["yard","lines","piece","end","mate"] ["yard"] (ah tw):={}
theorem ok_Jk (T:Txt K mg t):FnOk P w K mg base CX0 5 t.f_Jk t.d_Jk ["yard"] (sp_lkl t.c_Yard):=by
 refine T.F_Jk.ok scLl (fun vs H Q E h=>?_) (fun cdv A outer s H vs Q E hr h=>?_)
 ·obtain⟨_,_,_,_,_,_,_,rfl,_⟩:=h
  rfl
 ·obtain⟨A,y,L,W,sd,KS,nx,rfl,hH,R,PL,f,ek,q⟩:=h
  refine⟨_,(ac (aD (i:=1) scLl.nd rfl (Or.inl rfl) (bb ae))
   (ac (bD PassesOwn.never rfl (br (aC (pv 0) T.cl_Yard T.M_Je (gZ T) hr (lX T) .nil ap)) (aw (i:=2) scLl.nd rfl (Or.inl rfl))
    (af (bD PassesOwn.never rfl (bG (by rfl) T.z_range (aa (pcl (jM T) hr T.m_Jd1 T.F_Jd1.kp (oI T) (aa (ao (pv 0) T.cl_Yard T.M_J51 (jO T) hr (oK T) .nil ap (aa (pv 2) ae)) ae)) ae)) (aw (i:=3) scLl.nd rfl (Or.inl rfl))
      (ac (aD (i:=4) scLl.nd rfl (Or.inl rfl) (ao (pv 0) T.cl_Yard T.M_J01 (eY T) hr (ij T) .nil ap (@aa _ _ _ _ _ (aI (aa (pv 2) (aa (pv 3) ae))) ae (by rfl))))
       (af (aA (PW.pt (dL (ai cz (pv 4) aV (am _)) (da (ai (nu (Nat.lt_of_le_of_lt (Nat.le_add_right _ 64) hr.units)) (aI (aa (pv 2) (aa (pv 3) ae))) (pv 4) (am _)))))
        (af (al (bV PySem.F.plainAttrs_list PySem.F.slot_list_append PySem.F.type_list_append aZ (pv 1) (aa (pcl (fi T) hr T.m_Jj T.F_Jj.kp (jC T) (@aa _ _ _ _ _ aJ (@aa _ _ _ _ _ (bb (aa (pv 2) (aa (pv 3) (aa (aF cS (pv 4) ag) (aa (aF cS (pv 4) ag) ae))))) ae (by rfl)) (by rfl))) ae))))
        aj))))))
   (af (aq (pv 1))))),?_⟩
  rw[show L2.start ["yard","lines","piece","end","mate"] [V.ref A.p]=([some (V.ref A.p),none,none,none,none]:St) from rfl]
  have ekk:(y.kinds.map fun kv=>kV kv.1)=(KS.map (·.1)).map V.int:=by rw[ek]; exact g9 _
  refine⟨(sz_ 0),fun ll hll=>?_⟩
  have h1:=Has.comm (X:=[_]) (Y:=yL t.c_Yard A y) (hH.alloc hll (.lst []))
  generalize upd H ll _=H1 at h1 ⊢
  dsimp only[List.set]
  refine⟨_,U,A.p,A.dx,_,U,h1.get 1 U,(bo _ _ _).2.2.2.1,A,y,_,U,h1,fun H2 pl h2=>?_⟩
  rw[ekk] at h2
  have h2:=Has.comm (X:=[_]) (Y:=yL t.c_Yard A y) h2
  have h2:Has H2 (yL t.c_Yard A y++((ll,HO.lst [])::(pl,.lst ((KS.map (·.1)).map V.int))::L)):=h2.perm (List.Perm.append_left _ (List.Perm.swap _ _ _))
  have kb:=f.kl
  have lk2:∀ p ∈ KS,∀ m:Nat,(lkP W p m).length<=m:=fun p hp m=>by
   unfold lkP
   induction m with
   | zero=>simp
   | succ m ih=>
    rw[List.range_succ,List.flatMap_append,uq]
    have:((de W p.1 m).map (lnT "link")).length<=1:=by
     rw[um]
     unfold de
     split
     ·split <;> simp
     ·simp
    simp only[List.flatMap_cons,List.flatMap_nil,uN]
    omega
  have lkl:∀ i,(lkL W (KS.take i)).length<=i*3:=fun i=>by
   induction i with
   | zero=>simp[lkL]
   | succ i ih=>
    rw[List.take_succ]
    cases e:KS[i]? with
    | none=>rw[Option.toList_none,uN]; omega
    | some p=>
     have h3:=lk2 p (ut e) p.2.many.toNat
     have h4:=p.2.m3
     unfold lkL at ih ⊢
     rw[List.flatMap_append,uq]
     simp only[Option.toList,List.flatMap_cons,List.flatMap_nil,uN]
     omega
  refine⟨pl,U,⟨_,SqL.of (h2.get 10 U)⟩,cI (xs:=(KS.map (·.1)).map V.int) (fun i σ H'=>∃ o2 o3 o4:Option V,σ=[some (.ref A.p),some (.ref ll),o2,o3,o4]/\Has H' (yL t.c_Yard A y++((ll,HO.lst ((lkL W (KS.take i)).map V.str))::(pl,.lst ((KS.map (·.1)).map V.int))::L))) ⟨_,_,_,U,h2⟩ (fun i σ H' _ ⟨_,_,_,_,h⟩=>SqL.of (h.get 10 U)) ?_ ?_⟩
  ·clear h2 h1
   rintro i x σ H3 hx ⟨o2,o3,o4,rfl,h3⟩
   have hi:i<KS.length:=by have:=(List.getElem?_eq_some_iff.mp hx).1; simpa using this
   have ex:x=.int KS[i].1:=by
    rw[ur,ur,uo hi] at hx
    exact(Option.some.inj hx).symm
   subst ex
   obtain⟨p,ep⟩:∃ p,KS[i]=p:=⟨_,U⟩
   have mp:p ∈ KS:=by rw[<- ep]; exact List.getElem_mem hi
   have hk:=f.ks p mp
   have tk:KS.take (i+1)=KS.take i++[p]:=by rw[List.take_succ,uo hi,ep]; rfl
   have eD1:lkL W (KS.take (i+1))=lkL W (KS.take i)++lkP W p p.2.many.toNat:=by unfold lkL; rw[tk,List.flatMap_append]; simp
   rw[ep,eD1]
   have lD:=lkl i
   obtain⟨D0,eD0⟩:∃ D0,lkL W (KS.take i)=D0:=⟨_,U⟩
   rw[eD0] at h3 lD ⊢
   have km:=p.2.m3
   have kn:=f.k _ _ hk
   dsimp only[List.set]
   refine⟨_,U,A.p,A.dx,_,U,h3.get 1 U,(bo _ _ _).2.2.2.2.1,_,U,A,y,_,p.1,_,U,h3,R.kd _ _ hk,?_⟩
   refine⟨p.2,U,p.2.many,U,by omega,by omega,bS (fun e σ H'=>∃ o3 o4:Option V,σ=[some (.ref A.p),some (.ref ll),some (.int p.1),o3,o4]/\Has H' (yL t.c_Yard A y++((ll,HO.lst ((D0++lkP W p e).map V.str))::(pl,.lst ((KS.map (·.1)).map V.int))::L))) ⟨_,_,U,by simpa [lkP] using h3⟩ ?_ ?_⟩
   ·clear h3
    rintro e σ H4 he ⟨o3,o4,rfl,h4⟩
    have he3:e<3:=by omega
    have l2:=lk2 p mp e
    have eP:lkP W p (e+1)=lkP W p e++(de W p.1 e).map (lnT "link"):=by unfold lkP; rw[List.range_succ,List.flatMap_append]; simp
    dsimp only[List.set]
    rw[Int.zero_add]
    refine⟨_,U,A.p,A.dx,_,U,h4.get 1 U,(b7 _ _ _).2.1,_,U,_,U,(show 2<=sizeLine by decide),fun b hb=>?_⟩
    have h5:=h4.alloc hb (.tup [.int p.1,.int (e:Int)])
    generalize upd H4 b _=H5 at h5 ⊢
    refine⟨A,y,_,b,p.1,(e:Int),0,U,Has.comm (X:=[_]) (Y:=yL t.c_Yard A y) h5,U,⟨p.2,R.kd _ _ hk,by omega,by omega⟩,?_⟩
    replace h5:=h5.tail
    rw[show(ak y.mates (kE p.1 (e:Int))).getD .non=enV (W.mf p.1 e) by rw[R.mt]; cases W.mf p.1 e <;> rfl]
    dsimp only[List.set]
    refine⟨_,U,U,_,U,?_⟩
    cases hm:W.mf p.1 e with
    | none=>
     refine ifF (by rfl) ?_
     refine⟨_,_,U,?_⟩
     rw[eP,show de W p.1 e=[] by unfold de; rw[hm]]
     simpa using h5
    | some z=>
     refine ifT (by rfl) ?_
     obtain⟨jz,hz⟩:=PL.m _ _ z hm
     have oz:=fI f (R.mo _ _ _ hm)
     refine⟨_,U,_,U,(show 2<=sizeLine by decide),fun b2 hb2=>?_⟩
     have h6:=h5.alloc hb2 (.tup [.int p.1,.int (e:Int)])
     generalize upd H5 b2 _=H6 at h6 ⊢
     have gz:∀ {H':Hp}{X:Kn},Has H' (X++(yL t.c_Yard A y++((ll,HO.lst ((D0++lkP W p e).map V.str))::(pl,.lst ((KS.map (·.1)).map V.int))::L)))->H' z.1=some (.tup [.int z.2.1,.int z.2.2]):=fun h=>h.at_ _ (ul _ (ul _ (uj _ (uj _ (ut hz)))))
     refine⟨_,U,b2,z.1,[p.1,(e:Int)],[z.2.1,z.2.2],U,U,SqT.of (h6.get 0 U),SqT.of (gz (X:=[_]) h6),_,U,?_⟩
     have h6:=h6.tail
     cases hlt:HT.lexLt [p.1,(e:Int)] [z.2.1,z.2.2] with
     | false=>
      refine bA ?_
      refine⟨_,_,U,?_⟩
      rw[eP,show de W p.1 e=[] by unfold de; rw[hm]; dsimp only; rw[hlt]; rfl]
      simpa using h6
     | true=>
      refine df ?_
      have el:de W p.1 e=[[p.1,(e:Int),z.2.1,z.2.2]]:=by unfold de; rw[hm]; dsimp only; rw[hlt]; rfl
      have g6:=gz (X:=[]) h6
      refine⟨_,U,.inl ⟨U,_,SqL.of (h6.get 9 U)⟩,_,U,_,U,_,U,z.1,_,_,_,U,U,SqT.of g6,aL (j:=0) rfl,_,U,z.1,_,_,_,U,U,SqT.of g6,aL (j:=1) rfl,(sz_ 4),fun l4 hl4=>?_⟩
      have h7:=h6.alloc hl4 (.lst [.int p.1,.int (e:Int),.int z.2.1,.int z.2.2])
      generalize upd H6 l4 _=H7 at h7 ⊢
      refine⟨"link",l4,true,[p.1,(e:Int),z.2.1,z.2.2],_,U,h7,.inl ⟨U,uk⟩,by decide +kernel,nM ⟨kn.1,by omega⟩ ⟨by omega,by omega⟩ oz.1 oz.2,fun H8 h8=>?_⟩
      have h8:=h8.tail
      refine⟨ll,_,_,U,U,h8.get 9 U,sizeOk (by rw[um,uq]; omega),?_⟩
      refine⟨_,_,U,?_⟩
      have e9:(D0++lkP W p (e+1)).map V.str=(D0++lkP W p e).map V.str++[.str (lnT "link" [p.1,(e:Int),z.2.1,z.2.2])]:=by rw[eP,el]; simp
      rw[e9]
      exact h8.puti 9 U _
   ·rintro σ H4 ⟨o3,o4,rfl,h4⟩
    exact⟨_,_,_,U,h4⟩
  ·rintro σ H3 ⟨o2,o3,o4,rfl,h3⟩
   rw[show((KS.map (·.1)).map V.int).length=KS.length by simp,List.take_length] at h3
   refine⟨_,U,q _ ll ?_⟩
   exact h3.sub ((List.Sublist.refl _).append (.cons_cons _ (.cons _ (List.Sublist.refl _))))
theorem scWy:FnScope ["yard","lines","rod","piece"] ["yard"] (ah tD):={}
theorem ok_Ji (T:Txt K mg t):FnOk P w K mg base CX0 7 t.f_Ji t.d_Ji ["yard"] (sp_wy t.c_Yard):=by
 refine T.F_Ji.ok scWy (fun vs H Q E h=>?_) (fun cdv A outer s H vs Q E hr h=>?_)
 ·obtain⟨_,_,_,_,_,_,rfl,_⟩:=h
  rfl
 ·obtain⟨A,y,L,W,sd,KS,rfl,hH,R,PL,sm,f,ek,q⟩:=h
  refine⟨_,(ac (aD (i:=1) scWy.nd rfl (Or.inl rfl) (bb (aa (pcl (fi T) hr T.m_Jj T.F_Jj.kp (jC T) (@aa _ _ _ _ _ aJ (@aa _ _ _ _ _ (bb (aa (aB (pv 0) rfl) (aa (aG ay (by rfl) T.z_len (by rfl) (aa (aB (pv 0) rfl) ae)) ae))) ae (by rfl)) (by rfl))) ae)))
   (ac (bD PassesOwn.never rfl (br (aC (pv 0) T.cl_Yard T.M_J31 (du T) hr (fE T) .nil ap)) (aw (i:=2) scWy.nd rfl (Or.inl rfl))
    (af (al (bV PySem.F.plainAttrs_list PySem.F.slot_list_append PySem.F.type_list_append aZ (pv 1) (aa (pcl (fi T) hr T.m_Jj T.F_Jj.kp (jC T) (@aa _ _ _ _ _ aJ (@aa _ _ _ _ _ (bb (aa (pv 2) (aa (ao (pv 0) T.cl_Yard T.M_J41 (dt T) hr (fD T) .nil ap (aa (pv 2) ae)) ae))) ae (by rfl)) (by rfl))) ae)))))
   (ac (bD PassesOwn.never rfl (br (aC (pv 0) T.cl_Yard T.M_Je (gZ T) hr (lX T) .nil ap)) (aw (i:=3) scWy.nd rfl (Or.inl rfl))
    (af (al (bV PySem.F.plainAttrs_list PySem.F.slot_list_append PySem.F.type_list_append aZ (pv 1) (aa (pcl (ok_Jl T) hr T.m_Jl T.F_Jl.kp (b_Jl T) (aa (pv 0) (aa (pv 3) ae))) ae)))))
   (ac (al (bV PySem.F.plainAttrs_list PySem.F.slot_list_extend PySem.F.type_list_extend lv (pv 1) (aa (pcl (ok_Jk T) hr T.m_Jk T.F_Jk.kp (b_Jk T) (aa (pv 0) ae)) ae)))
   (ac (cf (aA (ai cz (aC (pv 0) T.cl_Yard T.M_Jd (d9 T) hr (iT T) .nil ap) aV (am _))
    (af (al (bV PySem.F.plainAttrs_list PySem.F.slot_list_append PySem.F.type_list_append aZ (pv 1) (aa (pcl (fi T) hr T.m_Jj T.F_Jj.kp (jC T) (aa aJ (aa (aC (pv 0) T.cl_Yard T.M_Jd (d9 T) hr (iT T) .nil ap) ae))) ae))))
    aj))
   (ac (cf (aA (ja (aC (pv 0) T.cl_Yard T.M_Jq (kC T) hr (pW T) .nil ap) (by intro _; rfl))
    (af (al (bV PySem.F.plainAttrs_list PySem.F.slot_list_append PySem.F.type_list_append aZ (pv 1) (aa (pcl (fi T) hr T.m_Jj T.F_Jj.kp (jC T) (aa aJ (aa (aC (pv 0) T.cl_Yard T.M_Jq (kC T) hr (pW T) .nil ap) ae))) ae))))
    aj))
   (af (aq (bV PySem.F.plainAttrs_str PySem.F.slot_str_join PySem.F.type_str_join kH aJ (aa (pv 1) ae)))))))))),?_⟩
  rw[show L2.start ["yard","lines","rod","piece"] [V.ref A.p]=([some (V.ref A.p),none,none,none]:St) from rfl]
  have ekk:(y.kinds.map fun kv=>kV kv.1)=(KS.map (·.1)).map V.int:=by rw[ek]; exact g9 _
  have sl:=f.sl
  have kb:=f.kl
  refine⟨_,U,A.p,_,A.dx,_,_,U,hH.get 1 U,T.cl_Yard,T.n_Yard_next_piece,eK _ _ _,_,U,A.p,_,A.dx,_,_,U,hH.get 1 U,T.cl_Yard,T.n_Yard_sides,bE _ _ _,A.s,_,U,.inl (SqL.of (hH.get 6 U)),(sz_ 2),fun l0 hl0=>?_⟩
  have eSL:(y.sides.length:Int)=(sd.ss.length:Int):=by rw[R.sd,um]
  have h1:=hH.alloc hl0 (.lst [.int y.next,.int y.sides.length])
  generalize upd H l0 _=H1 at h1 ⊢
  rw[eSL] at h1
  refine⟨"next",l0,true,[y.next,(sd.ss.length:Int)],_,U,h1,.inl ⟨U,uk⟩,by decide +kernel,cU ⟨f.nx.1,by have:=f.nx.2; omega⟩ ⟨by omega,by omega⟩,fun H2 h2=>?_⟩
  have h2:=h2.tail
  refine⟨(sz_ 1),fun ll hll=>?_⟩
  obtain⟨N0,eN0⟩:∃ N0:List Str,[lnT "next" [y.next,(sd.ss.length:Int)]]=N0:=⟨_,U⟩
  have l0:N0.length=1:=by rw[<- eN0]; rfl
  have h3:=Has.comm (X:=[_]) (Y:=yL t.c_Yard A y) (h2.alloc hll (.lst (N0.map V.str)))
  have e3:[V.str (lnT "next" [y.next,(sd.ss.length:Int)])]=N0.map V.str:=by rw[<- eN0]; rfl
  rw[e3]
  generalize upd H2 ll _=H3 at h3 ⊢
  clear h2 h1 hH
  dsimp only[List.set]
  refine⟨_,U,A.p,A.dx,_,U,h3.get 1 U,(aY _ _ _).2.2.2.1,A,y,_,U,h3,sm,fun H4 rl h4=>?_⟩
  have eI:aX y.sides.length=((List.range sd.ss.length).map fun i:Nat=>(i:Int)).map V.int:=by rw[R.sd,um]; exact n9 _
  rw[eI] at h4
  have h4:=Has.comm (X:=[_]) (Y:=yL t.c_Yard A y) h4
  have h4:Has H4 (yL t.c_Yard A y++((ll,HO.lst (N0.map V.str))::(rl,.lst (((List.range sd.ss.length).map fun i:Nat=>(i:Int)).map V.int))::L)):=h4.perm (List.Perm.append_left _ (List.Perm.swap _ _ _))
  have rdk:∀ i,i<sd.ss.length->(rdL sd).take (i+1)=(rdL sd).take i++[lnT "rod" [(i:Int),sd.ss.getD i 0]]:=fun i hi=>by
   rw[List.take_succ]
   congr 1
   unfold rdL
   rw[ur,uo (by rw[List.length_range]; exact hi)]
   simp
  refine⟨rl,U,⟨_,SqL.of (h4.get 10 U)⟩,cI (xs:=((List.range sd.ss.length).map fun i:Nat=>(i:Int)).map V.int) (fun i σ H'=>∃ o2 o3:Option V,σ=[some (.ref A.p),some (.ref ll),o2,o3]/\Has H' (yL t.c_Yard A y++((ll,HO.lst ((N0++(rdL sd).take i).map V.str))::(rl,.lst (((List.range sd.ss.length).map fun i:Nat=>(i:Int)).map V.int))::L))) ⟨_,_,U,by simpa using h4⟩ (fun i σ H' _ ⟨_,_,_,h⟩=>SqL.of (h.get 10 U)) ?_ ?_⟩
  ·clear h4 h3
   rintro i x σ H5 hx ⟨o2,o3,rfl,h5⟩
   have hi:i<sd.ss.length:=by have:=(List.getElem?_eq_some_iff.mp hx).1; simpa using this
   have ex:x=.int (i:Int):=by
    rw[ur,ur,uo (by simpa using hi)] at hx
    simpa using (Option.some.inj hx).symm
   subst ex
   dsimp only[List.set]
   have gs:sd.ss[i]?=some (sd.ss.getD i 0):=by rw[List.getD_eq_getElem?_getD,uo hi]; rfl
   have v12:=R.s12 _ (ut gs)
   refine⟨_,U,.inl ⟨U,_,SqL.of (h5.get 9 U)⟩,_,U,_,U,A.p,A.dx,_,U,h5.get 1 U,(aY _ _ _).2.2.2.2.2.1,_,U,A,y,_,(i:Int),.int (sd.ss.getD i 0),U,h5,by omega,(by rw[R.sd,Int.toNat_natCast,ur,gs]; rfl),(sz_ 2),fun l5 hl5=>?_⟩
   have h6:=h5.alloc hl5 (.lst [.int (i:Int),.int (sd.ss.getD i 0)])
   generalize upd H5 l5 _=H6 at h6 ⊢
   refine⟨"rod",l5,true,[(i:Int),sd.ss.getD i 0],_,U,h6,.inl ⟨U,uk⟩,by decide +kernel,cU ⟨by omega,by omega⟩ ⟨by omega,by omega⟩,fun H7 h7=>?_⟩
   have h7:=h7.tail
   have lt:((rdL sd).take i).length<=30:=by rw[uI]; omega
   refine⟨ll,_,_,U,U,h7.get 9 U,sizeOk (by rw[um,uq]; omega),?_⟩
   refine⟨_,_,U,?_⟩
   rw[rdk i hi,<- uJ,uw (l₁:=N0++(rdL sd).take i)]
   exact h7.puti 9 U _
  clear h4 h3
  rintro σ H4 ⟨o2,o3,rfl,h4⟩
  have lr:(rdL sd).length=sd.ss.length:=by unfold rdL; rw[um,List.length_range]
  rw[show(((List.range sd.ss.length).map fun i:Nat=>(i:Int)).map V.int).length=(rdL sd).length by rw[lr]; simp,List.take_length] at h4
  obtain⟨N1,eN1⟩:∃ N1:List Str,N0++rdL sd=N1:=⟨_,U⟩
  have l1:N1.length<=31:=by rw[<- eN1,uq]; omega
  rw[eN1] at h4
  have h4:Has H4 (yL t.c_Yard A y++((ll,HO.lst (N1.map V.str))::L)):=h4.sub ((List.Sublist.refl _).append (.cons_cons _ (.cons _ (List.Sublist.refl _))))
  refine⟨_,U,A.p,A.dx,_,U,h4.get 1 U,(bo _ _ _).2.2.2.1,A,y,_,U,h4,fun H5 pl h5=>?_⟩
  rw[ekk] at h5
  have h5:=Has.comm (X:=[_]) (Y:=yL t.c_Yard A y) h5
  have h5:Has H5 (yL t.c_Yard A y++((ll,HO.lst (N1.map V.str))::(pl,.lst ((KS.map (·.1)).map V.int))::L)):=h5.perm (List.Perm.append_left _ (List.Perm.swap _ _ _))
  refine⟨pl,U,⟨_,SqL.of (h5.get 10 U)⟩,cI (xs:=(KS.map (·.1)).map V.int) (fun i σ H'=>∃ o2 o3:Option V,σ=[some (.ref A.p),some (.ref ll),o2,o3]/\Has H' (yL t.c_Yard A y++((ll,HO.lst ((N1++(KS.map (pcL W)).take i).map V.str))::(pl,.lst ((KS.map (·.1)).map V.int))::L))) ⟨_,_,U,by simpa using h5⟩ (fun i σ H' _ ⟨_,_,_,h⟩=>SqL.of (h.get 10 U)) ?_ ?_⟩
  ·clear h5 h4
   rintro i x σ H6 hx ⟨o2,o3,rfl,h6⟩
   have hi:i<KS.length:=by have:=(List.getElem?_eq_some_iff.mp hx).1; simpa using this
   have ex:x=.int KS[i].1:=by
    rw[ur,ur,uo hi] at hx
    exact(Option.some.inj hx).symm
   subst ex
   have hk:=f.ks _ (List.getElem_mem hi)
   dsimp only[List.set]
   refine⟨_,U,.inl ⟨U,_,SqL.of (h6.get 9 U)⟩,_,U,_,U,A,y,_,W,sd,KS,y.next,KS[i],U,h6,R,f,hk,fun H7 h7=>?_⟩
   have lt:((KS.map (pcL W)).take i).length<=30:=by rw[uI,um]; omega
   refine⟨ll,_,_,U,U,h7.get 9 U,sizeOk (by rw[um,uq]; omega),?_⟩
   refine⟨_,_,U,?_⟩
   have tk:(KS.map (pcL W)).take (i+1)=(KS.map (pcL W)).take i++[pcL W KS[i]]:=by rw[List.take_succ,ur,uo hi]; rfl
   rw[tk,<- uJ,uw (l₁:=N1++(KS.map (pcL W)).take i)]
   exact h7.puti 9 U _
  clear h5 h4
  rintro σ H5 ⟨o2,o3,rfl,h5⟩
  rw[show((KS.map (·.1)).map V.int).length=(KS.map (pcL W)).length by simp,List.take_length] at h5
  obtain⟨N2,eN2⟩:∃ N2:List Str,N1++KS.map (pcL W)=N2:=⟨_,U⟩
  have l2:N2.length<=61:=by rw[<- eN2,uq,um]; omega
  rw[eN2] at h5
  have h5:Has H5 (yL t.c_Yard A y++((ll,HO.lst (N2.map V.str))::L)):=h5.sub ((List.Sublist.refl _).append (.cons_cons _ (.cons _ (List.Sublist.refl _))))
  refine⟨_,U,.inl ⟨U,_,SqL.of (h5.get 9 U)⟩,_,U,A,y,_,W,sd,KS,y.next,U,h5,R,PL.app [_],f,ek,fun H6 lk h6=>?_⟩
  have h6:Has H6 (yL t.c_Yard A y++((ll,HO.lst (N2.map V.str))::(lk,.lst ((lkL W KS).map V.str))::L)):=h6.perm (List.Perm.append_left _ (List.Perm.swap _ _ _))
  have lkl:=fK W KS
  refine⟨ll,lk,_,_,U,U,h6.get 9 U,h6.get 10 U,sz (by rw[um,um]; omega),?_⟩
  obtain⟨N3,eN3⟩:∃ N3:List Str,N2++lkL W KS=N3:=⟨_,U⟩
  have l3:N3.length<=151:=by rw[<- eN3,uq]; omega
  have e3:N2.map V.str++(lkL W KS).map V.str=N3.map V.str:=by rw[<- eN3,uw]
  rw[e3]
  have h7:Has _ (yL t.c_Yard A y++((ll,HO.lst (N3.map V.str))::(lk,.lst ((lkL W KS).map V.str))::L)):=h6.puti 9 U (.lst (N3.map V.str))
  generalize upd H6 ll _=H7 at h7 ⊢
  have h7:Has H7 (yL t.c_Yard A y++((ll,HO.lst (N3.map V.str))::L)):=h7.sub ((List.Sublist.refl _).append (.cons_cons _ (.cons _ (List.Sublist.refl _))))
  clear h6 h5
  dsimp only[List.set]
  refine⟨fun σ' H'=>σ'=[some (.ref A.p),some (.ref ll),o2,o3]/\Has H' (yL t.c_Yard A y++((ll,HO.lst ((N3++enL sd).map V.str))::L)),?_,?_⟩
  ·refine⟨_,U,A.p,A.dx,_,U,h7.get 1 U,(bo _ _ _).2.2.2.2.2.2.1,A,y,_,U,h7,U,_,U,?_⟩
   rw[R.en]
   cases ha:sd.at_ with
   | none=>
    refine ifF (by rfl) ⟨U,?_⟩
    rw[show enL sd=[] by unfold enL; rw[ha],uN]
    exact h7
   | some z=>
    refine ifT (by rfl) ?_
    obtain⟨jz,hz⟩:=PL.e z ha
    have oz:=fI f (R.eo _ ha)
    refine⟨_,U,.inl ⟨U,_,SqL.of (h7.get 9 U)⟩,_,U,A.p,A.dx,_,U,h7.get 1 U,(bo _ _ _).2.2.2.2.2.2.1,A,y,_,U,h7,?_⟩
    rw[R.en,ha]
    refine⟨"engine",z.1,false,[z.2.1,z.2.2],_,U,h7,.inr ⟨U,ul _ (uj _ (ut hz))⟩,by decide +kernel,cU oz.1 oz.2,fun H8 h8=>?_⟩
    refine⟨ll,_,_,U,U,h8.get 9 U,sizeOk (by rw[um]; omega),U,?_⟩
    rw[show enL sd=[lnT "engine" [z.2.1,z.2.2]] by unfold enL; rw[ha],uw]
    exact h8.puti 9 U _
  clear h7
  rintro σ' H7 ⟨rfl,h7⟩
  obtain⟨N4,eN4⟩:∃ N4:List Str,N3++enL sd=N4:=⟨_,U⟩
  have l4:N4.length<=152:=by
   have:(enL sd).length<=1:=by unfold enL; split <;> simp
   rw[<- eN4,uq]; omega
  rw[eN4] at h7
  refine⟨fun σ' H'=>σ'=[some (.ref A.p),some (.ref ll),o2,o3]/\Has H' (yL t.c_Yard A y++((ll,HO.lst ((N4++rgL sd).map V.str))::L)),?_,?_⟩
  ·refine⟨_,U,A.p,A.dx,_,U,h7.get 1 U,(bo _ _ _).2.2.2.2.2.2.2.1,A,y,_,U,h7,fun H8 b8 h8=>?_⟩
   rw[R.rg] at h8
   by_cases hg:sd.rg=[]
   ·refine⟨false,.inl ⟨_,SqL.of (h8.get 0 U),by rw[hg]; rfl⟩,bA ⟨U,?_⟩⟩
    rw[show rgL sd=[] by unfold rgL; rw[if_pos hg],uN]
    exact h8.tail
   ·refine⟨true,.inl ⟨_,SqL.of (h8.get 0 U),?_⟩,df ?_⟩
    ·cases e:sd.rg with
     | nil=>exact absurd e hg
     | cons a b=>rfl
    have h9:=h8.tail
    refine⟨_,U,.inl ⟨U,_,SqL.of (h9.get 9 U)⟩,_,U,A.p,A.dx,_,U,h9.get 1 U,(bo _ _ _).2.2.2.2.2.2.2.1,A,y,_,U,h9,fun H10 b10 h10=>?_⟩
    rw[R.rg] at h10
    refine⟨"rung",b10,true,sd.rg,_,U,h10,.inl ⟨U,uk⟩,by decide +kernel,ko f,fun H11 h11=>?_⟩
    have h11:=h11.tail
    refine⟨ll,_,_,U,U,h11.get 9 U,sizeOk (by rw[um]; omega),U,?_⟩
    rw[show rgL sd=[lnT "rung" sd.rg] by unfold rgL; rw[if_neg hg],uw]
    exact h11.puti 9 U _
  clear h7
  rintro σ' H7 ⟨rfl,h7⟩
  have eA:N4++rgL sd=ytL W sd KS y.next:=by
   rw[<- eN4,<- eN3,<- eN2,<- eN1,<- eN0]
   unfold ytL
   simp
  rw[eA] at h7
  exact⟨U,_,U,_,ll,ytL W sd KS y.next,U,U,SqL.of (h7.get 9 U),oR f R,q _ (h7.sub ((List.Sublist.refl _).append (.cons _ (List.Sublist.refl _))))⟩
end
end P
set_option Elab.async false
set_option linter.all false
set_option maxRecDepth 100000
namespace HT
open PySem PyProof.Rows
noncomputable def lexLe:List Int->List Int->Bool
 | [],[]=>true
 | [],_::_=>true
 | _::_,[]=>false
 | x::xs,y::ys=>if x=y then lexLe xs ys else decide (x<=y)
theorem lexLe_cons (x y:Int) (xs ys:List Int):lexLe (x::xs) (y::ys)=if x=y then lexLe xs ys else decide (x<=y):=rfl
theorem gM:lexLe [] []=true:=rfl
theorem gk (y:Int) (ys:List Int):lexLe [] (y::ys)=true:=rfl
theorem gm (x:Int) (xs:List Int):lexLe (x::xs) []=false:=rfl
theorem m9 (A:Around) (s:Shared) (a:Int) (t:Tok) (c:Int) (u:Tok) (prog:Program) (w:World) (E:Value->Shared->Prop) (Q:Value->Shared->Prop) (h:Q (.bool (decide (a<=c))) s) :
  wpAny (model prog w) A (richCompare .LtE (.int a t) (.int c u)) Q E s :=
 (PyProof.Rows.le_int h:wpAny (model prog w) A (compareOp .LtE (.int a t) (.int c u)) Q E s)
section
open PySem.SeqAt
open PySem.AutoSeq1 (wpAny_loadPart')
open PySem.MeetsSeq PySem.MeetsSeq2 PySem.MeetsSeq3
theorem gI (l b:Addr) (items items2:Array Value) (n n2:Nat) (dd dd2:Option Addr) (sl sl2:Array (Option Value)) (ns ms:List Int) (hi:IntsAre items.toList ns) (hj:IntsAre items2.toList ms) :
  Meets (Builtin.«tuple.__le__» ⟨[.ref l,.ref b],[]⟩)
   (fun _ R s=>s.heap.get? l=some { cls:=.type "tuple",dict:=dd,data:=.seq items n,slots:=sl }/\s.heap.get? b=some { cls:=.type "tuple",dict:=dd2,data:=.seq items2 n2,slots:=sl2 } /\
    R (.ok (.ret (.bool (lexLe ns ms)))) s) :=
 .of_wp fun prog w A R s h=>by
  obtain⟨hp,g,d,tk,os⟩:=s; obtain⟨hl,hb,h⟩:=h
  have f2:=AutoSeq1.sub_tuple_tuple
  have z1:items.size=ns.length:=by rw[<- hi.length]; simp
  have z2:items2.size=ms.length:=by rw[<- hj.length]; simp
  wp_walk using wpAny_loadPart' hl,wpAny_loadPart' hb,wpAny_forIn_list _ (fun rest b s'=>b.1=none/\s'=⟨hp,g,d,tk,os⟩/\∃ (vs ws:List Value) (ns' ms':List Int),rest=vs.zip ws /\
   IntsAre vs ns'/\IntsAre ws ms'/\ns'.length+items2.size=ms'.length+items.size/\R (.ok (.ret (.bool (lexLe ns' ms')))) ⟨hp,g,d,tk,os⟩) _
  case turn=>
   rintro⟨y,x⟩ rest b s' ⟨hb',rfl,vs,ws,ns',ms',hz,hvi,hwi,hlen,hR⟩
   cases hvi with
   | nil=>rw[List.zip_nil_left] at hz; cases hz
   | cons a t hvi'=>
    cases hwi with
    | nil=>rw[List.zip_nil_right] at hz; cases hz
    | cons c u hwi'=>
     rw[List.zip_cons_cons] at hz
     injection hz with hyx hrest
     injection hyx with hy hx
     subst hy hx
     rw[lexLe_cons] at hR
     simp only[uv] at hlen
     obtain⟨e,he,hiff⟩:=jr A.in1 ⟨hp,g,d,tk,os⟩ a t c u
     refine wpAny_bind (he prog w _ _ ?_)
     cases e with
     | true=>
      rw[if_pos (hiff.mp rfl)] at hR
      wp_walk
      exact⟨rfl,rfl,_,_,_,_,hrest,hvi',hwi',by omega,hR⟩
     | false=>
      rw[if_neg (fun q=>absurd (hiff.mpr q) Bool.false_ne_true)] at hR
      have hri:=m9 A.in1 ⟨hp,g,d,tk,os⟩ a t c u prog w
      wp_walk using hri
      exact⟨_,rfl,by simpa using hR⟩
  case fin=>
   rintro⟨b1,b2⟩ s' ⟨hb',rfl,vs,ws,ns',ms',hz,hvi,hwi,hlen,hR⟩
   simp only at hb'
   subst hb'
   have hv:lexLe ns' ms'=decide (items.size<=items2.size):=by
    cases hvi with
    | nil=>
     cases hwi with
     | nil=>
      simp only[List.length_nil] at hlen
      rw[gM]
      exact(decide_eq_true (by omega)).symm
     | cons c u hw=>
      simp only[List.length_nil,uv] at hlen
      rw[gk]
      exact(decide_eq_true (by omega)).symm
    | cons a t hv=>
     cases hwi with
     | nil=>
      simp only[List.length_nil,uv] at hlen
      rw[gm]
      exact(decide_eq_false (by omega)).symm
     | cons c u hw=>
      rw[List.zip_cons_cons] at hz
      cases hz
   rw[hv] at hR
   wp_walk
   exact⟨_,rfl,by simpa [Builtin.Tuple.tupleCompareSizes] using hR⟩
  case h=>
   exact⟨rfl,rfl,items.toList,items2.toList,ns,ms,rfl,hi,hj,by omega,h⟩
end
section
variable {prog:Program}{w:World}{A:Around}{E:Value->Shared->Prop}{s:Shared}
theorem le_tupInts {l b:Addr}{items items2:Array Value}{ns ms:List Int}{Q:Value->Shared->Prop} (hl:IsTup s.heap l items) (hb:IsTup s.heap b items2) (hi:IntsAre items.toList ns) (hj:IntsAre items2.toList ms)
  (hu:A.units<cLine) (h:Q (.bool (lexLe ns ms)) s):wpAny (model prog w) A (compareOp .LtE (.ref l) (.ref b)) Q E s:=by
 obtain⟨⟨cls,dd,data,sl⟩,ho,hc,n,hd⟩:=id hl
 obtain⟨⟨cls2,dd2,data2,sl2⟩,ho2,hc2,n2,hd2⟩:=id hb
 simp only at hc hd hc2 hd2
 subst hc hd hc2 hd2
 exact richCompare_meets_room (op:=.LtE) ⟨_,ho,rfl⟩ ⟨_,ho2,rfl⟩ PySem.F.slot_tuple_le PySem.F.entry_tuple_le (PySem.F.args_tuple_le_2 _ _) (gI l b items items2 n n2 dd dd2 sl sl2 ns ms hi hj)
  ⟨ho,ho2,show Value.bool (lexLe ns ms)≠Value.notImplemented/\Q (.bool (lexLe ns ms)) s from⟨(fun x=>nomatch x),h⟩⟩ hu
end
end HT
namespace L2
open PySem PySem.Spec PyProof.Rows
section
variable {X:Cx}
noncomputable def rLeT (K:PySem.W.Frag):R2:=fun x y H Q=>∃ a b ns ms,x=.ref a/\y=.ref b/\SqT K H a (ns.map V.int)/\SqT K H b (ms.map V.int)/\Q (.bl (HT.lexLe ns ms)) H
theorem rN (hu:X.A.units<cLine):OpR X (compareOp .LtE) (rLeT X.K):=by
 intro pins s σ H x y v u Q I rx ry h
 obtain⟨a,b,ns,ms,rfl,rfl,ha,hb,q⟩:=h
 cases rx
 cases ry
 obtain⟨its,r1,p1,_⟩:=I.tuple ha
 obtain⟨its2,r2,p2,_⟩:=I.tuple hb
 have i1:IntsAre its.toArray.toList ns:=dg r1
 have i2:IntsAre its2.toArray.toList ms:=dg r2
 exact HT.le_tupInts p1 p2 i1 i2 hu ⟨.bl (HT.lexLe ns ms),H,I,U,q⟩
end
section
variable {X:Cx}{body:List Stmt}{h₀:ExceptHandler}{hs:List ExceptHandler}{tp:Pos}{t:TS}
theorem ph (hx:∀ e s,¬ X.xe e s) (hb:PSs X body t):PS X (.Try body (h₀::hs) [] [] tp) t:=by
 intro pins s σ H D I h
 refine wpAny_Try_except (wpAny_mono (hb pins s σ H D I h) (fun f s1 q=>?_) (fun e s1 z=>absurd z (hx e s1)))
 cases f with
 | next=>exact wpAny_execs_nil q
 | ret v=>exact q
 | brk=>exact q
 | cont=>exact q
end
end L2
set_option Elab.async false
set_option linter.all false
set_option maxRecDepth 100000
set_option maxHeartbeats 4000000
namespace P
open PySem L2
noncomputable def kp (k:List Key):Int×Int:=match k with
 | [.inl a,.inl b]=>(a,b)
 | _=>(0,0)
theorem qL (n e:Int):kp (kE n e)=(n,e):=rfl
theorem cH {n e n' e':Int} (h:kE n e=kE n' e'):(n,e)=(n',e'):=by rw[<- qL n e,<- qL n' e',h]
theorem cT {κ:Type} [DecidableEq κ] {kvs:List (κ×V)}{k:κ}{v:V}{x:κ} (h:x ∈ (aH kvs k v).map (·.1)):x ∈ kvs.map (·.1)∨x=k:=by
 unfold aH at h
 split at h
 ·left
  rw[uQ] at h
  obtain⟨p,hp,e⟩:=uK.mp h
  refine uK.mpr ⟨p,hp,?_⟩
  rw[<- e]
  show p.1=(if p.1=k then(p.1,v) else p).1
  split <;> rfl
 ·rw[uw,uA] at h
  rcases h with h | h
  ·exact .inl h
  ·right; simpa using h
noncomputable def gK (es:List En) (m:List (List Key×V)) (n e:Int):Option En:=match ak m (kE n e) with | some (.ref b)=>es.find? fun x=>decide (x.1=b) | _=>none
noncomputable def Wsym (mf:Int->Int->Option En):Prop:=∀ n e z,mf n e=some z->¬ z.2=(n,e)/\∃ z',mf z.2.1 z.2.2=some z'/\z'.2=(n,e)
noncomputable def tY (mf:Int->Int->Option En) (x z:En) (n e:Int):Option En:=if (n,e)=z.2 then some x else if (n,e)=x.2 then some z else mf n e
noncomputable def mfUn (mf:Int->Int->Option En) (p1 p2:Int×Int) (n e:Int):Option En:=if (n,e)=p1∨(n,e)=p2 then none else mf n e
theorem Wsym.link {mf:Int->Int->Option En} (S:Wsym mf) {x z:En} (hx:mf x.2.1 x.2.2=none) (hz:mf z.2.1 z.2.2=none) (ne:¬ x.2=z.2):Wsym (tY mf x z):=by
 intro n e u h
 unfold tY at h
 by_cases c1:(n,e)=z.2
 ·rw[if_pos c1] at h
  cases h
  refine⟨fun q=>ne (q.trans c1),z,?_,c1.symm⟩
  show(if (x.2.1,x.2.2)=z.2 then some x else if (x.2.1,x.2.2)=x.2 then some z else mf x.2.1 x.2.2)=some z
  rw[if_neg (show ¬ (x.2.1,x.2.2)=z.2 from ne),if_pos rfl]
 ·rw[if_neg c1] at h
  by_cases c2:(n,e)=x.2
  ·rw[if_pos c2] at h
   cases h
   refine⟨fun q=>ne (c2.symm.trans q.symm),x,?_,c2.symm⟩
   show(if (z.2.1,z.2.2)=z.2 then some x else if (z.2.1,z.2.2)=x.2 then some z else mf z.2.1 z.2.2)=some x
   rw[if_pos rfl]
  ·rw[if_neg c2] at h
   obtain⟨a,z',b,c⟩:=S n e u h
   refine⟨a,z',?_,c⟩
   have d1:¬ (u.2.1,u.2.2)=z.2:=fun q=>by
    rw[show u.2.1=z.2.1 from congrArg Prod.fst q,show u.2.2=z.2.2 from congrArg Prod.snd q,hz] at b
    cases b
   have d2:¬ (u.2.1,u.2.2)=x.2:=fun q=>by
    rw[show u.2.1=x.2.1 from congrArg Prod.fst q,show u.2.2=x.2.2 from congrArg Prod.snd q,hx] at b
    cases b
   show(if (u.2.1,u.2.2)=z.2 then some x else if (u.2.1,u.2.2)=x.2 then some z else mf u.2.1 u.2.2)=some z'
   rw[if_neg d1,if_neg d2]
   exact b
theorem pO {es:List En} (eu:∀ x ∈ es,∀ z ∈ es,x.1=z.1->x=z) {x:En} (hx:x ∈ es):(es.find? fun u=>decide (u.1=x.1))=some x:=by
 cases hf:es.find? fun u=>decide (u.1=x.1) with
 | none=>exact absurd (List.find?_eq_none.mp hf x hx) (by simp)
 | some u=>
  have h0:=List.find?_some hf
  have h1:u.1=x.1:=of_decide_eq_true h0
  rw[eu u (List.mem_of_find?_eq_some hf) x hx h1]
variable{m:List (List Key×V)}
theorem lx {es:List En}{n e:Int} (h:ak m (kE n e)=none):gK es m n e=none:=by unfold gK; rw[h]
theorem eu_of {H:Hp}{X:Kn}{es:List En} (h:Has H X) (mem:∀ x ∈ es,(x.1,HO.tup [.int x.2.1,.int x.2.2]) ∈ X):∀ x ∈ es,∀ z ∈ es,x.1=z.1->x=z:=fun u hu v hv e=>by
 have g1:=h.at_ _ (mem u hu)
 have g0:=h.at_ _ (mem v hv)
 dsimp only at g1 g0
 rw[e,g0] at g1
 have g2:=Option.some.inj g1
 injection g2 with g2
 injection g2 with g3 g4
 injection g4 with g4 _
 injection g3 with g3
 injection g4 with g4
 exact Prod.ext e (Prod.ext g3.symm g4.symm)
noncomputable def lkR (W:Wd) (KS:List (Int×Kd)):List (List Int):=KS.flatMap fun p=>(List.range p.2.many.toNat).flatMap fun e=>de W p.1 e
noncomputable def enR (s:Sd):List (Str×List Int):=match s.at_ with
 | some z=>[("engine",[z.2.1,z.2.2])]
 | none=>[]
noncomputable def rgR (s:Sd):List (Str×List Int):=if s.rg=[] then [] else [("rung",s.rg)]
noncomputable def rdR (s:Sd):List (Str×List Int):=(List.range s.ss.length).map fun i:Nat=>("rod",[(i:Int),s.ss.getD i 0])
noncomputable def pcR (W:Wd) (p:Int×Kd):Str×List Int:=(p.2.str,pcN W p)
noncomputable def ytR (W:Wd) (s:Sd) (KS:List (Int×Kd)) (nx:Int):List (Str×List Int):=("next",[nx,(s.ss.length:Int)])::(rdR s++(KS.map (pcR W)++((lkR W KS).map (fun l=>(("link" : Str),l))++(enR s++rgR s))))
theorem me (W:Wd) (s:Sd) (KS:List (Int×Kd)) (nx:Int):ytL W s KS nx=(ytR W s KS nx).map fun p=>lnT p.1 p.2:=by
 unfold ytL ytR
 rw[uH,uw,uw,uw,uw]
 congr 1
 congr 1
 ·unfold rdL rdR; rw[uQ]; rfl
 congr 1
 ·rw[uQ]; rfl
 congr 1
 ·unfold lkL lkR lkP
  rw[uQ,List.map_flatMap]
  congr 1
  funext p
  rw[List.map_flatMap]
  rfl
 congr 1
 ·unfold enL enR; cases s.at_ <;> rfl
 ·unfold rgL rgR; split <;> rfl
noncomputable def sizesD:List (Str×PyData):=[("next",.int 2),("rod",.int 2),("line",.int 1),("stop",.int 1),("bell",.int 2),("still",.int 2),("lazy",.int 2),("turning",.int 2),("link",.int 4),("engine",.int 2)]
noncomputable def groupsD:List (Str×PyData):=[("next",.int 0),("rod",.int 1),("line",.int 2),("stop",.int 2),("bell",.int 2),("still",.int 2),("lazy",.int 2),("turning",.int 2),("link",.int 3),("engine",.int 4),("rung",.int 5)]
structure RwF (x:Str) (ns:List Int) (g:Int) (r1 r2:Int):Prop where
 fit:(x = "rung" /\ ns≠[])∨(¬ x = "rung" /\ (sizesD.any fun p=>decide (x=p.1))=true/\sizesD.lookup x=some (.int ns.length))
 g:groupsD.lookup x=some (.int g)
 r:(x = "link" /\ ∃ a b,ns=r1::r2::a::b::[])∨(¬ x = "link" /\ ((x = "next" ∨ x = "engine" ∨ x = "rung")/\r1=0/\r2=0))∨(¬ x = "link" /\ ¬ (x = "next" ∨ x = "engine" ∨ x = "rung")/\r2=0/\ns.head?=some r1)
inductive sp_hn (vs:List V) (H:Hp) (Q:VK) (E_:XK):Prop
 | mk (x:Str) (l:Addr) (ns:List Int) (L:Kn) (g r1 r2:Int) (_:vs=[.str x,.ref l]) (_:Has H L) (_:(l,HO.lst (ns.map V.int)) ∈ L) (_:RwF x ns g r1 r2) (_:Q (.bl true) H):sp_hn vs H Q E_
inductive sp_rr (vs:List V) (H:Hp) (Q:VK) (E_:XK):Prop
 | mk (x:Str) (ns:List Int) (L:Kn) (g r1 r2:Int) (_:vs=[.str (lnT x ns)]) (_:Has H L) (_:gG 32 x) (_:x.length<=100) (_:dW ns) (_:RwF x ns g r1 r2) (_:∀ H' p l,Has H' ((p,.tup [.str x,.ref l])::(l,.lst (ns.map V.int))::L)->Q (.ref p) H'):sp_rr vs H Q E_
inductive sp_rank (vs:List V) (H:Hp) (Q:VK) (E_:XK):Prop
 | mk (p l:Addr) (x:Str) (ns:List Int) (L:Kn) (g r1 r2:Int) (_:vs=[.ref p]) (_:Has H L) (_:(p,HO.tup [.str x,.ref l]) ∈ L) (_:(l,HO.lst (ns.map V.int)) ∈ L) (_:RwF x ns g r1 r2) (_:∀ H' q,Has H' ((q,.tup [.int g,.int r1,.int r2])::L)->Q (.ref q) H'):sp_rank vs H Q E_
section
variable {P:Program}{w:World}{K:PySem.W.Frag}{mg:Str->Option Value}{base:Heap}{t:Adr}
theorem scHn:FnScope ["word","numbers"] ["word","numbers"] (ah tR):={}
theorem ok_J3 (T:Txt K mg t):FnOk P w K mg base CX0 1 t.f_J3 t.d_J3 ["word","numbers"] sp_hn:=by
 refine T.F_J3.ok scHn (fun vs H Q E h=>?_) (fun cdv A outer s H vs Q E hr h=>?_)
 ·obtain⟨_,_,_,_,_,_,_,rfl,_⟩:=h
  rfl
 ·obtain⟨x,l,ns,L,g,r1,r2,rfl,hH,ml,rf,q⟩:=h
  obtain⟨aE,eE,hE⟩:=T.x_SIZES
  have T_r_SIZES:RelV (.ref aE) t.u_SIZES:=by rw[eE]; rfl
  refine⟨_,(ac (aA (ai bq (pv 0) aJ (am _))
    (af (aq (bO dG (aG ay (by rfl) T.z_len (by rfl) (aa (pv 1) ae)) ag (am _))))
    aj)
   (af (aq (dc (bO rO (pv 0) (bU (by rfl) T.g_SIZES T_r_SIZES) (by rfl)) (cQ (bO bq (aG ay (by rfl) T.z_len (by rfl) (aa (pv 1) ae)) (aF sw (bU (by rfl) T.g_SIZES T_r_SIZES) (pv 0)) (am _))))))),?_⟩
  have gl:SqL K H l (ns.map V.int):=SqL.of (hH.at_ _ ml)
  refine⟨_,U,U,_,U,?_⟩
  rcases rf.fit with ⟨ex,hn⟩ | ⟨ex,h1,h2⟩
  ·refine ifT (decide_eq_true (by rw[ex])) ?_
   refine⟨_,U,l,_,U,.inl gl,_,_,U,U,?_⟩
   rw[decide_eq_true (show(0:Int)<((ns.map V.int).length:Int) by rw[um]; have:=List.length_pos_iff.mpr hn; omega)]
   exact q
  ·refine ifF (decide_eq_false (fun e=>ex (V.str.inj e))) ?_
   refine⟨_,U,x,aE,sizesD,U,U,hE,?_⟩
   rw[h1]
   refine⟨_,U,df ?_⟩
   refine⟨_,U,l,_,U,.inl gl,_,U,x,aE,sizesD,_,U,U,hE,h2,(by decide +kernel),U,?_⟩
   rw[decide_eq_true (by rw[um])]
   exact q
theorem scRr:FnScope ["line","word","numbers"] ["line"] (ah qq):={}
theorem rX (T:Txt K mg t):FnOk P w K mg base CX0 4 t.f_J71 t.d_J71 ["line"] sp_rr:=by
 refine T.F_J71.ok scRr (fun vs H Q E h=>?_) (fun cdv A outer s H vs Q E hr h=>?_)
 ·obtain⟨_,_,_,_,_,_,rfl,_⟩:=h
  rfl
 ·obtain⟨x,ns,L,g,r1,r2,rfl,hH,fx,hx,hns,rf,q⟩:=h
  refine⟨_,(ac (bJ (pcl (ok_Jw T) hr T.m_Jw T.F_Jw.kp (b_Jw T) (aa (pv 0) ae)) (cP rfl (aK (aw (i:=1) scRr.nd rfl (Or.inl rfl)) (aK (aw (i:=2) scRr.nd rfl (Or.inl rfl)) bH))))
   (ac (aA (bP (bx (pcl (ok_J3 T) hr T.m_J3 T.F_J3.kp (b_J3 T) (aa (pv 1) (aa (pv 2) ae)))))
    (af aR)
    aj)
   (af (aq (aI (aa (pv 1) (aa (pv 2) ae))))))),?_⟩
  rw[show L2.start ["line","word","numbers"] [V.str (lnT x ns)]=([some (V.str (lnT x ns)),none,none]:St) from rfl]
  refine⟨_,U,x,ns,L,U,hH,fx,hx,hns,fun H1 p l h1=>?_⟩
  refine⟨p,_,U,SqT.of (h1.get 0 U),U,_,_,U,_,_,U,U,?_⟩
  dsimp only[List.set]
  have h2:=h1.tail
  refine⟨_,U,_,U,x,l,ns,_,g,r1,r2,U,h2,uk,rf,_,U,bA ?_⟩
  exact⟨_,U,_,U,(show 2<=sizeLine by decide),fun p2 hp2=>q _ p2 l (h2.alloc hp2 _)⟩
theorem scRk:FnScope ["row","word","numbers","group"] ["row"] (ah mU):={}
theorem kB (T:Txt K mg t):FnOk P w K mg base CX0 1 t.f_rank t.d_rank ["row"] sp_rank:=by
 refine T.F_rank.ok scRk (fun vs H Q E h=>?_) (fun cdv A outer s H vs Q E hr h=>?_)
 ·obtain⟨_,_,_,_,_,_,_,_,rfl,_⟩:=h
  rfl
 ·obtain⟨p,l,x,ns,L,g,r1,r2,rfl,hH,mp,ml,rf,q⟩:=h
  obtain⟨aE,eE,hE⟩:=T.x_GROUPS
  have T_r_GROUPS:RelV (.ref aE) t.u_GROUPS:=by rw[eE]; rfl
  refine⟨_,(ac (bJ (pv 0) (cP rfl (aK (aw (i:=1) scRk.nd rfl (Or.inl rfl)) (aK (aw (i:=2) scRk.nd rfl (Or.inl rfl)) bH))))
   (ac (aD (i:=3) scRk.nd rfl (Or.inl rfl) (aF sw (bU (by rfl) T.g_GROUPS T_r_GROUPS) (pv 1)))
   (ac (aA (ai bq (pv 1) aJ (am _))
    (af (aq (aI (aa (pv 3) (aa (aF ar (pv 2) ag) (aa (aF ar (pv 2) ag) ae))))))
    aj)
   (ac (aA (ai gY (pv 1) (aI (aa aJ (aa aJ (aa aJ ae)))) (by rfl))
    (af (aq (aI (aa (pv 3) (aa ag (aa ag ae))))))
    aj)
   (af (aq (aI (aa (pv 3) (aa (aF ar (pv 2) ag) (aa ag ae)))))))))),?_⟩
  rw[show L2.start ["row","word","numbers","group"] [V.ref p]=([some (V.ref p),none,none,none]:St) from rfl]
  have gl:SqL K H l (ns.map V.int):=SqL.of (hH.at_ _ ml)
  refine⟨_,U,p,_,U,SqT.of (hH.at_ _ mp),U,_,_,U,_,_,U,U,?_⟩
  dsimp only[List.set]
  refine⟨_,U,x,aE,groupsD,_,U,U,hE,rf.g,(by decide +kernel),?_⟩
  dsimp only[List.set]
  refine⟨_,U,U,_,U,?_⟩
  have three:3<=sizeLine:=by decide
  rcases rf.r with ⟨ex,a,b,en⟩ | ⟨ex,e1,rfl,rfl⟩ | ⟨ex,e1,rfl,en⟩
  ·refine ifT (decide_eq_true (by rw[ex])) ?_
   subst en
   refine⟨_,U,_,U,l,_,_,_,U,U,gl,aL (j:=0) rfl,_,U,l,_,_,_,U,U,gl,aL (j:=1) rfl,three,fun z hz=>q _ z (hH.alloc hz _)⟩
  ·refine ifF (decide_eq_false (fun e=>ex (V.str.inj e))) ?_
   refine⟨_,U,three,fun tp htp=>?_⟩
   have h1:=hH.alloc htp (.tup [.str "next",.str "engine",.str "rung"])
   refine⟨tp,_,U,.inr (SqT.of (h1.get 0 U)),U,U,_,U,ifT ?_ ?_⟩
   ·rcases e1 with rfl | rfl | rfl <;> decide +kernel
   ·exact⟨_,U,three,fun z hz=>q _ z (Has.sub (h1.alloc hz _) (List.Sublist.cons₂ _ (List.Sublist.cons _ (List.Sublist.refl _))))⟩
  ·refine ifF (decide_eq_false (fun e=>ex (V.str.inj e))) ?_
   refine⟨_,U,three,fun tp htp=>?_⟩
   have h1:=hH.alloc htp (.tup [.str "next",.str "engine",.str "rung"])
   refine⟨tp,_,U,.inr (SqT.of (h1.get 0 U)),U,U,_,U,ifF ?_ ?_⟩
   ·show inV (.str x) [.str "next",.str "engine",.str "rung"]=false
    have ne:∀ a:Str,¬ x=a->eqV (.str a) (.str x)=false:=fun a h=>by
     show(a == x)=false
     exact beq_eq_false_iff_ne.mpr (fun e=>h e.symm)
    unfold inV
    rw[List.any_cons,List.any_cons,List.any_cons,ne _ (fun e=>e1 (.inl e)),ne _ (fun e=>e1 (.inr (.inl e))),ne _ (fun e=>e1 (.inr (.inr e)))]
    rfl
   ·obtain⟨m,hm⟩:∃ m,ns=r1::m:=by
     cases ns with
     | nil=>cases en
     | cons a m=>exact⟨m,by rw[Option.some.inj en]⟩
    subst hm
    exact⟨_,U,_,U,l,_,_,_,U,U,SqL.of (h1.at_ _ (uj _ ml)),aL (j:=0) rfl,three,fun z hz=>q _ z (Has.sub (h1.alloc hz _) (List.Sublist.cons₂ _ (List.Sublist.cons _ (List.Sublist.refl _))))⟩
end
structure LnA where
 p:Addr
 l:Addr
 w:Str
 n:List Int
structure LnIn (zs:List LnA) (L:Kn):Prop where
 p:∀ z ∈ zs,(z.p,HO.tup [.str z.w,.ref z.l]) ∈ L
 l:∀ z ∈ zs,(z.l,HO.lst (z.n.map V.int)) ∈ L
theorem LnIn.mono {zs:List LnA}{L L':Kn} (h:LnIn zs L) (s:∀ z ∈ L,z ∈ L'):LnIn zs L':=⟨fun z hz=>s _ (h.p z hz),fun z hz=>s _ (h.l z hz)⟩
structure Rnk (rs:List (Str×List Int)) (rk:List (Int×Int×Int)):Prop where
 len:rk.length=rs.length
 f:∀ (i:Nat) x k,rs[i]?=some x->rk[i]?=some k->RwF x.1 x.2 k.1 k.2.1 k.2.2
 o:∀ (i:Nat) a b,rk[i]?=some a->rk[i+1]?=some b->HT.lexLe [b.1,b.2.1,b.2.2] [a.1,a.2.1,a.2.2]=false
 h:∃ ns r,rs=(("next" : Str),ns)::r
 l:rs.length<=10000
inductive sp_co (vs:List V) (H:Hp) (Q:VK) (E_:XK):Prop
 | mk (rl:Addr) (zs:List LnA) (rk:List (Int×Int×Int)) (L:Kn) (_:vs=[.ref rl]) (_:Has H L) (_:(rl,HO.lst (zs.map fun z=>V.ref z.p)) ∈ L) (_:LnIn zs L) (_:Rnk (zs.map fun z=>(z.w,z.n)) rk) (_:∀ H',Has H' L->Q .non H'):sp_co vs H Q E_
section
variable {P:Program}{w:World}{K:PySem.W.Frag}{mg:Str->Option Value}{base:Heap}{t:Adr}
theorem scCo:FnScope ["rows","at"] ["rows"] (ah tL):={}
theorem ok_Ja (T:Txt K mg t):FnOk P w K mg base CX0 2 t.f_Ja t.d_Ja ["rows"] sp_co:=by
 refine T.F_Ja.ok scCo (fun vs H Q E h=>?_) (fun cdv A outer s H vs Q E hr h=>?_)
 ·obtain⟨_,_,_,_,rfl,_⟩:=h
  rfl
 ·obtain⟨rl,zs,rk,L,rfl,hH,ml,li,rn,q⟩:=h
  refine⟨_,(ac (aA (ai dF (aF cS (aF ar (pv 0) ag (fun _ _=>rfl)) ag) aJ (am _))
    (af aR)
    aj)
   (af (bD PassesOwn.never rfl (lh (by rfl) T.z_range (aa ag (aa (aG ay (by rfl) T.z_len (by rfl) (aa (pv 0) ae)) ae))) (aw (i:=1) scCo.nd rfl (Or.inl rfl))
    (af (aA (ai (rN (Nat.lt_of_le_of_lt (Nat.le_add_right _ 64) hr.units)) (pcl (kB T) hr T.m_rank T.F_rank.kp (oH T) (aa (aF ar (pv 0) (pv 1)) ae)) (pcl (kB T) hr T.m_rank T.F_rank.kp (oH T) (aa (aF ar (pv 0) (az cR (pv 1) ag)) ae)) (am _))
      (af aR)
      aj))))),?_⟩
  rw[show L2.start ["rows","at"] [V.ref rl]=([some (V.ref rl),none]:St) from rfl]
  have gl:∀ {H':Hp}{X:Kn},Has H' (X++L)->SqL K H' rl (zs.map fun z=>V.ref z.p):=fun h=>SqL.of (h.at_ _ (ul _ ml))
  obtain⟨ns,r,er⟩:=rn.h
  have ll:=rn.l
  rw[um] at ll
  obtain⟨z0,zr,ez⟩:∃ z0 zr,zs=z0::zr:=by
   cases zs with
   | nil=>cases er
   | cons a b=>exact⟨a,b,U⟩
  have e0:z0.w = "next":=by rw[ez] at er; injection er with e1 _; injection e1
  have m0:z0 ∈ zs:=by rw[ez]; exact uk
  refine⟨_,U,rl,_,_,_,U,U,gl (X:=[]) hH,aL (j:=0) (by rw[ez]; rfl),z0.p,_,_,_,U,U,SqT.of (hH.at_ _ (li.p z0 m0)),aL (j:=0) rfl,U,_,U,ifF (by rw[e0]; rfl) ?_⟩
  refine⟨_,U,rl,_,U,.inl (gl (X:=[]) hH),?_⟩
  refine⟨1,_,U,⟨by decide,by decide,by rw[um]; omega,by rw[um]; omega⟩,bS (fun i σ H'=>∃ o:Option V,σ=[some (.ref rl),o]/\Has H' L) ⟨_,U,hH⟩ ?_ ?_⟩
  ·rintro i σ H1 hi ⟨o,rfl,h1⟩
   rw[um] at hi
   have hi1:i+1<zs.length:=by omega
   have ei:(1:Int)+(i:Int)=((i+1:Nat):Int):=by omega
   dsimp only[List.set]
   rw[ei]
   have x1:zs[i+1]?=some zs[i+1]:=uo hi1
   have x0:zs[i]?=some zs[i]:=uo (by omega)
   have lk:rk.length=zs.length:=by rw[rn.len,um]
   have k1:rk[i+1]?=some rk[i+1]:=uo (by omega)
   have k0:rk[i]?=some rk[i]:=uo (by omega)
   have f1:=rn.f (i+1) (zs[i+1].w,zs[i+1].n) _ (by rw[ur,x1]; rfl) k1
   have f0:=rn.f i (zs[i].w,zs[i].n) _ (by rw[ur,x0]; rfl) k0
   have oo:=rn.o i _ _ k0 k1
   have m1:zs[i+1] ∈ zs:=List.getElem_mem hi1
   have m0':zs[i] ∈ zs:=List.getElem_mem (by omega)
   refine⟨_,U,_,U,rl,_,_,_,U,U,gl (X:=[]) h1,aL (by rw[ur,x1]; rfl),zs[i+1].p,zs[i+1].l,zs[i+1].w,zs[i+1].n,L,_,_,_,U,h1,li.p _ m1,li.l _ m1,f1,fun H2 q2 h2=>?_⟩
   refine⟨_,U,_,U,_,_,U,U,rl,_,_,_,U,U,gl (X:=[_]) h2,(by rw[show(((i+1:Nat):Int) - 1)=((i:Nat):Int) by omega]; exact aL (by rw[ur,x0]; rfl)),zs[i].p,zs[i].l,zs[i].w,zs[i].n,_,_,_,_,U,h2,uj _ (li.p _ m0'),uj _ (li.l _ m0'),f0,fun H3 q3 h3=>?_⟩
   refine⟨q2,q3,[_,_,_],[_,_,_],U,U,SqT.of (h3.get 1 U),SqT.of (h3.get 0 U),_,U,?_⟩
   rw[oo]
   exact bA ⟨_,U,h3.tail.tail⟩
  ·rintro σ H1 ⟨o,rfl,h1⟩
   exact q _ h1
end
inductive sp_elk (C:Addr) (vs:List V) (H:Hp) (Q:VK) (E_:XK):Prop
 | mk (A:YA) (y:YR) (L:Kn) (b1 b2:Addr) (n1 e1 n2 e2:Int) (_:vs=[.ref A.p,.ref b1,.ref b2]) (_:Has H (yL C A y++L)) (_:(b1,HO.tup [.int n1,.int e1]) ∈ L) (_:(b2,HO.tup [.int n2,.int e2]) ∈ L) (_:HT.lexLt [n1,e1] [n2,e2]=true) (_:bw y n1 e1) (_:bw y n2 e2) (_:ak y.mates (kE n1 e1)=none) (_:ak y.mates (kE n2 e2)=none) (_:y.mates.length<=30000) (_:∀ H' q,Has H' (yL C { A with tr:=q } { y with mates:=aH (aH y.mates (kE n1 e1) (.ref b2)) (kE n2 e2) (.ref b1),trail:=[] }++L)->Q .non H'):sp_elk C vs H Q E_
inductive sp_epc (C:Addr) (vs:List V) (H:Hp) (Q:VK) (E_:XK):Prop
 | mk (A:YA) (y:YR) (L:Kn) (k:Kd) (l:Addr) (ns:List Int) (n v:Int) (_:vs=[.ref A.p,.str k.str,.ref l]) (_:Has H (yL C A y++L)) (_:(l,HO.lst (ns.map V.int)) ∈ L) (_:ns.head?=some n) (_:ns.getLast?=some v) (_:cc y) (_:(k=.bell->0<=v/\v<=9999)) (_:(k.point=true->0<=v/\v<y.sides.length)) (_:∀ H' q,Has H' (yL C { A with tr:=q } (aN { y with next:=n } k v (.int v))++L)->Q .non H'):sp_epc C vs H Q E_
theorem oO {xs:List V}{v:V} (h:xs.getLast?=some v):atI xs (-1)=some v:=by
 have hl:xs≠[]:=fun e=>by rw[e] at h; cases h
 have hp:=List.length_pos_iff.mpr hl
 have e:ixN xs.length (-1)=some (xs.length - 1):=by
  unfold ixN
  rw[if_neg (by decide),if_pos (by omega)]
  exact congrArg some (by omega)
 unfold atI
 rw[e]
 show xs[xs.length - 1]?=some v
 rw[<- List.getLast?_eq_getElem?]
 exact h
theorem gj {a b c d:Int} (h:HT.lexLt [a,b] [c,d]=true):HT.lexLt [c,d] [a,b]=false/\¬ kE a b=kE c d:=by
 rw[HT.lexLt_cons,HT.lexLt_cons] at h
 rw[HT.lexLt_cons,HT.lexLt_cons]
 by_cases e:a=c
 ·rw[if_pos e] at h
  rw[if_pos e.symm]
  by_cases e2:b=d
  ·rw[if_pos e2] at h; cases h
  ·rw[if_neg e2] at h
   rw[if_neg (fun q=>e2 q.symm)]
   have:=of_decide_eq_true h
   exact⟨decide_eq_false (by omega),fun q=>e2 (congrArg Prod.snd (cH q))⟩
 ·rw[if_neg e] at h
  rw[if_neg (fun q=>e q.symm)]
  have:=of_decide_eq_true h
  exact⟨decide_eq_false (by omega),fun q=>e (congrArg Prod.fst (cH q))⟩
section
variable {P:Program}{w:World}{K:PySem.W.Frag}{mg:Str->Option Value}{base:Heap}{t:Adr}
theorem scEl:FnScope ["yard","one","other"] ["yard","one","other"] (ah tF):={}
theorem ok_Jg (T:Txt K mg t):FnOk P w K mg base CX0 5 t.f_Jg t.d_Jg ["yard","one","other"] (sp_elk t.c_Yard):=by
 refine T.F_Jg.ok scEl (fun vs H Q E h=>?_) (fun cdv A outer s H vs Q E hr h=>?_)
 ·obtain⟨_,_,_,_,_,_,_,_,_,rfl,_⟩:=h
  rfl
 ·obtain⟨A,y,L,b1,b2,n1,e1,n2,e2,rfl,hH,m1,m2,lt,t1,t2,v1,v2,ml,q⟩:=h
  refine⟨_,(ac (aA (ai (nu (Nat.lt_of_le_of_lt (Nat.le_add_right _ 64) hr.units)) (pv 2) (pv 1) (am _))
    (af aR)
    aj)
   (af (al (ao (pv 0) T.cl_Yard T.M_J11 (dO T) hr (gF T) .nil ap (aa (pv 1) (aa (pv 2) ae)))))),?_⟩
  obtain⟨a1,a2⟩:=gj lt
  refine⟨_,U,_,U,b2,b1,[_,_],[_,_],U,U,SqT.of (hH.at_ _ (ul _ m2)),SqT.of (hH.at_ _ (ul _ m1)),_,U,?_⟩
  rw[a1]
  refine bA ?_
  obtain⟨j1,hj1⟩:=List.mem_iff_getElem?.mp m1
  obtain⟨j2,hj2⟩:=List.mem_iff_getElem?.mp m2
  refine⟨_,U,A.p,A.dx,_,U,hH.get 1 U,(b7 _ _ _).2.2.1,_,U,_,U,A,y,L,b1,b2,n1,e1,n2,e2,j1,j2,U,hH,hj1,hj2,t1,t2,a2,v1,v2,ml,fun H1 q1 h1=>q _ q1 h1⟩
theorem scEp:FnScope ["yard","kind","numbers"] ["yard","kind","numbers"] (ah tJ):={}
theorem ok_Jc (T:Txt K mg t):FnOk P w K mg base CX0 5 t.f_Jc t.d_Jc ["yard","kind","numbers"] (sp_epc t.c_Yard):=by
 obtain⟨g_lay,bX⟩:=bX T
 refine T.F_Jc.ok scEp (fun vs H Q E h=>?_) (fun cdv A outer s H vs Q E hr h=>?_)
 ·obtain⟨_,_,_,_,_,_,_,_,rfl,_⟩:=h
  rfl
 ·obtain⟨A,y,L,k,l,ns,n,v,rfl,hH,ml,hh,hl,sm,kb,kp,q⟩:=h
  refine⟨_,(ac (ba (pv 0) (aF ar (pv 2) ag) rfl)
   (af (al (nj (pv 0) T.cl_Yard T.M_Ja1 (cG T) (hr.mono (by decide)) bX ap (aa (pv 1) ae) (ku (aF ar (pv 2) (qA mB ag)) (ku (aF ar (pv 2) (qA mB ag)) rE)))))),?_⟩
  obtain⟨m,em⟩:∃ m,ns=n::m:=by
   cases ns with
   | nil=>cases hh
   | cons a m=>exact⟨m,by rw[Option.some.inj hh]⟩
  have gl:∀ {H':Hp}{X:Kn},Has H' (X++L)->SqL K H' l (ns.map V.int):=fun h=>SqL.of (h.at_ _ (ul _ ml))
  have a0:atI (ns.map V.int) 0=some (.int n):=aL (j:=0) (by rw[em]; rfl)
  have a1:atI (ns.map V.int) (-1)=some (.int v):=oO (by rw[List.getLast?_map,hl]; rfl)
  refine⟨_,U,l,_,_,_,U,U,gl hH,a0,_,U,A.p,_,A.dx,_,U,hH.get 1 U,T.cl_Yard,T.n_Yard_next_piece,(show 9<1000 by decide),?_⟩
  rw[cN]
  have h1:Has _ (yL t.c_Yard A { y with next:=n }++L):=hH.puti 1 U (.ins t.c_Yard A.dx (fl A n y.eng))
  generalize upd H A.p _=H1 at h1 ⊢
  refine⟨_,U,A.p,A.dx,_,U,h1.get 1 U,(aY _ _ _).1,_,U,_,U,_,U,l,_,_,_,U,U,gl h1,a1,_,U,_,U,l,_,_,_,U,U,gl h1,a1,A,{ y with next:=n },L,k,v,.int v,U,h1,⟨sm.k,sm.n,sm.r,sm.s,sm.m,sm.g,sm.t⟩,kb,(fun hp _=>⟨v,U,kp hp⟩),fun H2 q2 h2=>q _ q2 h2⟩
end
inductive sp_ent (C:Addr) (vs:List V) (H:Hp) (Q:VK) (E_:XK):Prop
 | mk (A:YA) (y:YR) (L:Kn) (x:Str) (l:Addr) (ns:List Int) (_:vs=[.ref A.p,.str x,.ref l]) (_:Has H (yL C A y++L)) (_:(l,HO.lst (ns.map V.int)) ∈ L) (_:cc y) (_:((x = "rod" /\ ∃ s:Int,ns=[(y.sides.length:Int),s]/\(s=1∨s=2)/\∀ H' A',A'.p=A.p->Has H' (yL C A' { y with sides:=y.sides++[.int s],trail:=[] }++L)->Q .non H')∨(x = "link" /\ ∃ a b c d:Int,ns=[a,b,c,d]/\HT.lexLt [a,b] [c,d]=true/\bw y a b/\bw y c d/\ak y.mates (kE a b)=none/\ak y.mates (kE c d)=none/\∀ H' A' b1 b2,A'.p=A.p->Has H' (yL C A' { y with mates:=aH (aH y.mates (kE a b) (.ref b2)) (kE c d) (.ref b1),trail:=[] }++((b1,HO.tup [.int a,.int b])::(b2,HO.tup [.int c,.int d])::L))->Q .non H')∨(x = "engine" /\ ∃ a b:Int,ns=[a,b]/\bw y a b/\∀ H' A' c,A'.p=A.p->Has H' (yL C A' { y with eng:=.ref c,trail:=[] }++((c,HO.tup [.int a,.int b])::L))->Q .non H')∨(x = "rung" /\ (∀ v ∈ ns,0<=v/\v<=9999)/\ns.length<=10000/\∀ H' A',A'.p=A.p->Has H' (yL C A' { y with rung:=ns.map V.int }++L)->Q .non H')∨(∃ (k:Kd) (n v:Int),x=k.str/\ns.head?=some n/\ns.getLast?=some v/\(k=.bell->0<=v/\v<=9999)/\(k.point=true->0<=v/\v<y.sides.length)/\∀ H' A',A'.p=A.p->Has H' (yL C A' (aN { y with next:=n } k v (.int v))++L)->Q .non H'))):sp_ent C vs H Q E_
theorem pI (k:Kd):¬ k.str = "rod" /\ ¬ k.str = "link" /\ ¬ k.str = "engine" /\ ¬ k.str = "rung":=by cases k <;> decide +kernel
theorem fA (A:YA) (next:Int) (eng:V) (q:Addr):bg "rung" (.ref q) (fl A next eng)=fl { A with g:=q } next eng:=by kernel_rfl
section
variable {P:Program}{w:World}{K:PySem.W.Frag}{mg:Str->Option Value}{base:Heap}{t:Adr}
theorem scEn5:FnScope ["yard","word","numbers","note"] ["yard","word","numbers"] (ah ka):={}
theorem nD (T:Txt K mg t):FnOk P w K mg base CX0 6 t.f_enter t.d_enter ["yard","word","numbers"] (sp_ent t.c_Yard):=by
 obtain⟨_,hd_J9_2,hb_J9_2⟩:=pY T
 refine T.F_enter.ok scEn5 (fun vs H Q E h=>?_) (fun cdv A outer s H vs Q E hr h=>?_)
 ·obtain⟨_,_,_,_,_,_,rfl,_⟩:=h
  rfl
 ·obtain⟨A,y,L,x,l,ns,rfl,hH,ml,sm,cs⟩:=h
  refine⟨_,(af (aA (ai bq (pv 1) aJ (am _))
    (af (aA (ai dF (ao (pv 0) T.cl_Yard T.M_J9 (qF T) hr hb_J9_2 hd_J9_2 ap (aa (aF ar (pv 2) ag) ae)) (aF ar (pv 2) ag) (am _))
      (af aR)
      aj))
    (af (aA (ai bq (pv 1) aJ (am _))
      (af (al (pcl (ok_Jg T) hr T.m_Jg T.F_Jg.kp (b_Jg T) (@aa _ _ _ _ _ (pv 0) (@aa _ _ _ _ _ (aI (aa (aF ar (pv 2) ag) (aa (aF ar (pv 2) ag) ae))) (@aa _ _ _ _ _ (aI (aa (aF ar (pv 2) ag) (aa (aF ar (pv 2) ag) ae))) ae (by rfl)) (by rfl)) (by rfl)))))
      (af (aA (ai bq (pv 1) aJ (am _))
        (af (al (ao (pv 0) T.cl_Yard T.M_Jb1 (f7 T) hr (jD T) .nil ap (@aa _ _ _ _ _ (aI (aa (aF ar (pv 2) ag) (aa (aF ar (pv 2) ag) ae))) ae (by rfl)))))
        (af (aA (ai bq (pv 1) aJ (am _))
          (ac (bD PassesOwn.never rfl (br (pv 2)) (aw (i:=3) scEn5.nd rfl (Or.inl rfl))
            (af (al (pcl (qE T) hr T.m_Jh T.F_Jh.kp (ue T) (aa (pv 3) ae)))))
           (af (ba (pv 0) (aU bI (by rfl) T.z_list (by rfl) (aa (pv 2) ae)) rfl)))
          (af (al (pcl (ok_Jc T) hr T.m_Jc T.F_Jc.kp (b_Jc T) (aa (pv 0) (aa (pv 1) (aa (pv 2) ae)))))))))))))),?_⟩
  rw[show L2.start ["yard","word","numbers","note"] [V.ref A.p,V.str x,V.ref l]=([some (V.ref A.p),some (V.str x),some (V.ref l),none]:St) from rfl]
  have gl:∀ {H':Hp}{X:Kn},Has H' (X++L)->SqL K H' l (ns.map V.int):=fun h=>SqL.of (h.at_ _ (ul _ ml))
  have two:2<=sizeLine:=by decide
  have ne:∀ {a b:Str},¬ a=b->decide (V.str a=V.str b)=false:=fun h=>decide_eq_false (fun e=>h (V.str.inj e))
  refine⟨_,U,U,_,U,?_⟩
  rcases cs with ⟨rfl,sd,rfl,h12,q⟩ | ⟨rfl,a,b,c,d,rfl,lt,t1,t2,v1,v2,q⟩ | ⟨rfl,a,b,rfl,th,q⟩ | ⟨rfl,hn,nl,q⟩ | ⟨k,n,v,rfl,hh,hl,kb,kp,q⟩
  ·refine ifT (decide_eq_true rfl) ?_
   refine⟨_,U,A.p,A.dx,_,U,hH.get 1 U,(aY _ _ _).2.1,_,U,l,_,_,_,U,U,gl hH,aL (j:=1) rfl,A,y,L,sd,U,hH,h12,sm.s,fun H1 q1 h1=>?_⟩
   refine⟨_,U,l,_,_,_,U,U,gl h1,aL (j:=0) rfl,U,_,U,ifF (by rw[decide_eq_true rfl]; rfl) ?_⟩
   exact q _ { A with tr:=q1 } rfl h1
  ·refine ifF (ne (by decide +kernel)) ?_
   refine⟨_,U,U,_,U,ifT (decide_eq_true rfl) ?_⟩
   refine⟨_,U,_,U,l,_,_,_,U,U,gl hH,aL (j:=0) rfl,_,U,l,_,_,_,U,U,gl hH,aL (j:=1) rfl,two,fun b1 hb1=>?_⟩
   have h1:=hH.alloc hb1 (.tup [.int a,.int b])
   generalize upd H b1 _=H1 at h1 ⊢
   have g1:SqL K H1 l ([a,b,c,d].map V.int):=SqL.of (h1.at_ _ (uj _ (ul _ ml)))
   refine⟨_,U,l,_,_,_,U,U,g1,aL (j:=2) rfl,_,U,l,_,_,_,U,U,g1,aL (j:=3) rfl,two,fun b2 hb2=>?_⟩
   have h2:=h1.alloc hb2 (.tup [.int c,.int d])
   generalize upd H1 b2 _=H2 at h2 ⊢
   have h3:Has H2 (yL t.c_Yard A y++((b1,HO.tup [.int a,.int b])::(b2,HO.tup [.int c,.int d])::L)):=Has.comm (X:=[_,_]) (Y:=yL t.c_Yard A y) h2.swap2
   exact⟨A,y,_,b1,b2,a,b,c,d,U,h3,uk,uj _ uk,lt,t1,t2,v1,v2,sm.m,fun H4 q4 h4=>q _ { A with tr:=q4 } b1 b2 rfl h4⟩
  ·refine ifF (ne (by decide +kernel)) ?_
   refine⟨_,U,U,_,U,ifF (ne (by decide +kernel)) ?_⟩
   refine⟨_,U,U,_,U,ifT (decide_eq_true rfl) ?_⟩
   refine⟨_,U,A.p,A.dx,_,U,hH.get 1 U,(bo _ _ _).1,_,U,l,_,_,_,U,U,gl hH,aL (j:=0) rfl,_,U,l,_,_,_,U,U,gl hH,aL (j:=1) rfl,two,fun b1 hb1=>?_⟩
   have h1:=Has.comm (X:=[_]) (Y:=yL t.c_Yard A y) (R:=L) (hH.alloc hb1 (.tup [.int a,.int b]))
   exact⟨A,y,_,b1,a,b,0,U,h1,U,th,fun H2 q2 h2=>q _ { A with tr:=q2 } b1 rfl h2⟩
  ·refine ifF (ne (by decide +kernel)) ?_
   refine⟨_,U,U,_,U,ifF (ne (by decide +kernel)) ?_⟩
   refine⟨_,U,U,_,U,ifF (ne (by decide +kernel)) ?_⟩
   refine⟨_,U,U,_,U,ifT (decide_eq_true rfl) ?_⟩
   refine⟨_,U,l,U,⟨_,gl hH⟩,cI (xs:=ns.map V.int) (fun i σ H'=>H'=H/\∃ o:Option V,σ=[some (.ref A.p),some (.str "rung"),some (.ref l),o]) ⟨U,_,U⟩ (fun i σ H' _ ⟨e,_⟩=>by rw[e]; exact gl hH) ?_ ?_⟩
   ·rintro i v σ H1 hi ⟨rfl,o,rfl⟩
    rw[ur] at hi
    obtain⟨n,hn1,rfl⟩:=Option.map_eq_some_iff.mp hi
    have hb:=hn n (ut hn1)
    dsimp only[List.set]
    exact⟨_,U,_,U,hb.1,hb.2,U,_,U⟩
   ·rintro σ H1 ⟨rfl,o,rfl⟩
    refine⟨_,U,l,_,U,.inl (gl hH),fun g hg=>?_⟩
    have h1:=hH.alloc hg (.lst (ns.map V.int))
    generalize upd H1 g _=H2 at h1 ⊢
    refine⟨_,U,A.p,_,A.dx,_,U,h1.get 2 U,T.cl_Yard,T.n_Yard_rung,(show 9<1000 by decide),?_⟩
    rw[fA]
    have h2:=h1.puti 2 U (.ins t.c_Yard A.dx (fl { A with g:=g } y.next y.eng))
    refine q _ { A with g:=g } rfl ?_
    have h3:=Has.sub h2 (List.eraseIdx_sublist _ 9)
    exact Has.comm (X:=[_]) (Y:=[_,_,_,_,_,_,_,_]) (R:=L) h3
  ·obtain⟨n1,n2,n3,n4⟩:=pI k
   refine ifF (ne n1) ?_
   refine⟨_,U,U,_,U,ifF (ne n2) ?_⟩
   refine⟨_,U,U,_,U,ifF (ne n3) ?_⟩
   refine⟨_,U,U,_,U,ifF (ne n4) ?_⟩
   exact⟨_,U,_,U,_,U,A,y,L,k,l,ns,n,v,U,hH,ml,hh,hl,sm,kb,kp,fun H1 q1 h1=>q _ { A with tr:=q1 } rfl h1⟩
end
noncomputable abbrev RZ:=(Str×List Int)×(Int×Int×Int)
noncomputable def lt3 (a b:Int×Int×Int):Prop:=a.1<b.1∨(a.1=b.1/\(a.2.1<b.2.1∨(a.2.1=b.2.1/\a.2.2<b.2.2)))
noncomputable def rdZ (s:Sd):List RZ:=(List.range s.ss.length).map fun i:Nat=>(("rod",[(i:Int),s.ss.getD i 0]),(1,(i:Int),0))
noncomputable def pcZ (W:Wd) (KS:List (Int×Kd)):List RZ:=KS.map fun p=>(pcR W p,(2,p.1,0))
noncomputable def lkZ (W:Wd) (KS:List (Int×Kd)):List RZ:=(lkR W KS).map fun l=>(("link",l),(3,l.getD 0 0,l.getD 1 0))
noncomputable def enZ (s:Sd):List RZ:=(enR s).map fun x=>(x,(4,0,0))
noncomputable def rgZ (s:Sd):List RZ:=(rgR s).map fun x=>(x,(5,0,0))
noncomputable def ytZ (W:Wd) (s:Sd) (KS:List (Int×Kd)) (nx:Int):List RZ:=(("next",[nx,(s.ss.length:Int)]),(0,0,0))::(rdZ s++(pcZ W KS++(lkZ W KS++(enZ s++rgZ s))))
theorem ed {α β:Type} (l:List α) (f:α->β):(l.map fun x=>(x,f x)).map (·.1)=l:=by
 rw[uQ]; exact List.map_id' l
theorem l9 (W:Wd) (s:Sd) (KS:List (Int×Kd)) (nx:Int):(ytZ W s KS nx).map (·.1)=ytR W s KS nx:=by
 unfold ytZ ytR
 rw[uH,uw,uw,uw,uw]
 congr 1
 congr 1
 ·unfold rdZ rdR; rw[uQ]; rfl
 congr 1
 ·unfold pcZ; rw[uQ]; rfl
 congr 1
 ·unfold lkZ; rw[uQ]; rfl
 congr 1
 ·exact ed _ _
 ·exact ed _ _
theorem nU {a b:Int×Int×Int} (h:lt3 a b):HT.lexLe [b.1,b.2.1,b.2.2] [a.1,a.2.1,a.2.2]=false:=by
 obtain⟨a1,a2,a3⟩:=a
 obtain⟨b1,b2,b3⟩:=b
 unfold lt3 at h
 dsimp only at h ⊢
 rw[HT.lexLe_cons,HT.lexLe_cons,HT.lexLe_cons]
 by_cases e1:b1=a1
 ·rw[if_pos e1]
  by_cases e2:b2=a2
  ·rw[if_pos e2]
   by_cases e3:b3=a3
   ·omega
   ·rw[if_neg e3]; exact decide_eq_false (by omega)
  ·rw[if_neg e2]; exact decide_eq_false (by omega)
 ·rw[if_neg e1]; exact decide_eq_false (by omega)
variable{KS:List (Int×Kd)}
theorem iC {W:Wd}{l:List Int} (h:l ∈ lkR W KS):∃ p ∈ KS,∃ e:Nat,(e:Int)<p.2.many/\l ∈ de W p.1 e:=by
 obtain⟨p,hp,h1⟩:=List.mem_flatMap.mp h
 obtain⟨e,he,h2⟩:=List.mem_flatMap.mp h1
 have:=uR.mp he
 exact⟨p,hp,e,by omega,h2⟩
theorem cv {W:Wd}{n:Int}{e:Nat}{l:List Int} (h:l ∈ de W n e):∃ z:En,W.mf n e=some z/\HT.lexLt [n,(e:Int)] [z.2.1,z.2.2]=true/\l=[n,(e:Int),z.2.1,z.2.2]:=by
 unfold de at h
 split at h
 ·next z hz=>
  split at h
  ·next hl=>exact⟨z,hz,hl,uu.mp h⟩
  ·cases h
 ·cases h
theorem kI (W:Wd) (h:KS.Pairwise fun a b=>a.1<b.1):(lkR W KS).Pairwise fun l l'=>l.getD 0 0<l'.getD 0 0∨(l.getD 0 0=l'.getD 0 0/\l.getD 1 0<l'.getD 1 0):=by
 unfold lkR
 rw[List.pairwise_flatMap]
 refine⟨fun p _=>?_,h.imp fun {a b} hab x hx y hy=>?_⟩
 ·rw[List.pairwise_flatMap]
  refine⟨fun e _=>?_,List.pairwise_lt_range.imp fun {a b} hab x hx y hy=>?_⟩
  ·unfold de
   split
   ·split
    ·exact List.pairwise_singleton _ _
    ·exact .nil
   ·exact .nil
  ·obtain⟨z,_,_,rfl⟩:=cv hx
   obtain⟨z',_,_,rfl⟩:=cv hy
   exact .inr ⟨U,by show(a:Int)<b; omega⟩
 ·obtain⟨e,_,hx⟩:=List.mem_flatMap.mp hx
  obtain⟨e',_,hy⟩:=List.mem_flatMap.mp hy
  obtain⟨z,_,_,rfl⟩:=cv hx
  obtain⟨z',_,_,rfl⟩:=cv hy
  exact .inl hab
theorem iN (s:Sd):(enR s).length<=1:=by unfold enR; split <;> simp
theorem ir (s:Sd):(rgR s).length<=1:=by unfold rgR; split <;> simp
theorem pw1 {α:Type}{R:α->α->Prop}{l:List α} (h:l.length<=1):l.Pairwise R:=by
 match l with
 | []=>exact .nil
 | [x]=>exact List.pairwise_singleton _ _
 | _::_::_=>simp at h
theorem l8 (W:Wd) (s:Sd) (nx:Int) (h:KS.Pairwise fun a b=>a.1<b.1):(ytZ W s KS nx).Pairwise fun a b=>lt3 a.2 b.2:=by
 have g1:∀ x ∈ rdZ s,x.2.1=1:=fun x hx=>by obtain⟨i,_,rfl⟩:=uK.mp hx; rfl
 have g2:∀ x ∈ pcZ W KS,x.2.1=2:=fun x hx=>by obtain⟨i,_,rfl⟩:=uK.mp hx; rfl
 have g3:∀ x ∈ lkZ W KS,x.2.1=3:=fun x hx=>by obtain⟨i,_,rfl⟩:=uK.mp hx; rfl
 have g4:∀ x ∈ enZ s,x.2.1=4:=fun x hx=>by obtain⟨i,_,rfl⟩:=uK.mp hx; rfl
 have g5:∀ x ∈ rgZ s,x.2.1=5:=fun x hx=>by obtain⟨i,_,rfl⟩:=uK.mp hx; rfl
 unfold ytZ
 refine List.pairwise_cons.mpr ⟨fun x hx=>.inl ?_,uP.mpr ⟨?_,uP.mpr ⟨?_,uP.mpr ⟨?_,uP.mpr ⟨?_,?_,?_⟩,?_⟩,?_⟩,?_⟩⟩
 ·show(0:Int)<x.2.1
  simp only[uA] at hx
  rcases hx with hx | hx | hx | hx | hx
  ·rw[g1 x hx]; decide
  ·rw[g2 x hx]; decide
  ·rw[g3 x hx]; decide
  ·rw[g4 x hx]; decide
  ·rw[g5 x hx]; decide
 ·unfold rdZ
  rw[List.pairwise_map]
  exact List.pairwise_lt_range.imp fun {a b} hab=>.inr ⟨U,.inl (by show(a:Int)<b; omega)⟩
 ·unfold pcZ
  rw[List.pairwise_map]
  exact h.imp fun {a b} hab=>.inr ⟨U,.inl hab⟩
 ·unfold lkZ
  rw[List.pairwise_map]
  exact(kI W h).imp fun {a b} hab=>.inr ⟨U,hab⟩
 ·exact pw1 (by unfold enZ; rw[um]; exact iN s)
 ·exact pw1 (by unfold rgZ; rw[um]; exact ir s)
 ·intro a ha b hb
  exact .inl (by rw[g4 a ha,g5 b hb]; decide)
 ·intro a ha b hb
  simp only[uA] at hb
  refine .inl ?_
  rw[g3 a ha]
  rcases hb with hb | hb
  ·rw[g4 b hb]; decide
  ·rw[g5 b hb]; decide
 ·intro a ha b hb
  simp only[uA] at hb
  refine .inl ?_
  rw[g2 a ha]
  rcases hb with hb | hb | hb
  ·rw[g3 b hb]; decide
  ·rw[g4 b hb]; decide
  ·rw[g5 b hb]; decide
 ·intro a ha b hb
  simp only[uA] at hb
  refine .inl ?_
  rw[g1 a ha]
  rcases hb with hb | hb | hb | hb
  ·rw[g2 b hb]; decide
  ·rw[g3 b hb]; decide
  ·rw[g4 b hb]; decide
  ·rw[g5 b hb]; decide
theorem rwPc (W:Wd) (p:Int×Kd):RwF p.2.str (pcN W p) 2 p.1 0:=by
 obtain⟨n,k⟩:=p
 have hd:(pcN W (n,k)).head?=some n:=by unfold pcN; cases k <;> rfl
 have hl:(pcN W (n,k)).length=if k.many=3∨k=.bell then 2 else 1:=by unfold pcN; cases k <;> rfl
 refine⟨.inr ?_,?_,.inr (.inr ?_)⟩
 ·rw[hl]; cases k <;> exact⟨by dsimp only; decide +kernel,by kernel_rfl,by kernel_rfl⟩
 ·cases k <;> kernel_rfl
 ·refine⟨?_,?_,U,hd⟩ <;> (cases k <;> dsimp only <;> decide +kernel)
theorem l7 {W:Wd}{s:Sd}{nx:Int}:∀ x ∈ ytZ W s KS nx,RwF x.1.1 x.1.2 x.2.1 x.2.2.1 x.2.2.2:=by
 intro x hx
 unfold ytZ at hx
 simp only[uA,uz] at hx
 rcases hx with rfl | hx | hx | hx | hx | hx
 ·exact⟨.inr ⟨by dsimp only; decide +kernel,by kernel_rfl,by kernel_rfl⟩,by kernel_rfl,.inr (.inl ⟨by dsimp only; decide +kernel,.inl rfl,U,U⟩)⟩
 ·obtain⟨i,_,rfl⟩:=uK.mp hx
  exact⟨.inr ⟨by dsimp only; decide +kernel,by kernel_rfl,by kernel_rfl⟩,by kernel_rfl,.inr (.inr ⟨by dsimp only; decide +kernel,by dsimp only; decide +kernel,U,U⟩)⟩
 ·obtain⟨p,_,rfl⟩:=uK.mp hx
  exact rwPc W p
 ·obtain⟨l,hl,rfl⟩:=uK.mp hx
  obtain⟨p,_,e,_,h2⟩:=iC hl
  obtain⟨z,_,_,rfl⟩:=cv h2
  exact⟨.inr ⟨by dsimp only; decide +kernel,by kernel_rfl,by kernel_rfl⟩,by kernel_rfl,.inl ⟨U,_,_,U⟩⟩
 ·obtain⟨r,hr,rfl⟩:=uK.mp hx
  unfold enR at hr
  split at hr
  ·cases uu.mp hr
   exact⟨.inr ⟨by dsimp only; decide +kernel,by kernel_rfl,by kernel_rfl⟩,by kernel_rfl,.inr (.inl ⟨by dsimp only; decide +kernel,.inr (.inl rfl),U,U⟩)⟩
  ·cases hr
 ·obtain⟨r,hr,rfl⟩:=uK.mp hx
  unfold rgR at hr
  split at hr
  ·cases hr
  ·next hne=>
   cases uu.mp hr
   exact⟨.inl ⟨U,hne⟩,by kernel_rfl,.inr (.inl ⟨by dsimp only; decide +kernel,.inr (.inr rfl),U,U⟩)⟩
theorem iD (W:Wd) (KS:List (Int×Kd)):(lkR W KS).length<=KS.length*3:=by
 have h:=fK W KS
 have e:(lkL W KS).length=(lkR W KS).length:=by
  have:lkL W KS=(lkR W KS).map (lnT "link"):=by
   unfold lkL lkR lkP
   rw[List.map_flatMap]
   congr 1
   funext p
   rw[List.map_flatMap]
  rw[this,um]
 omega
theorem ik (W:Wd) (s:Sd) (KS:List (Int×Kd)) (nx:Int):(ytR W s KS nx).length<=1+s.ss.length+KS.length+KS.length*3+2:=by
 have h1:=iD W KS
 have h2:=iN s
 have h3:=ir s
 unfold ytR rdR
 simp only[uv,uq,um,List.length_range]
 omega
theorem oS {W:Wd}{s:Sd}{nx:Int} (h:KS.Pairwise fun a b=>a.1<b.1) (kl:KS.length<=30) (sl:s.ss.length<=30):Rnk (ytR W s KS nx) ((ytZ W s KS nx).map (·.2)):=by
 have pr:=l8 W s nx h
 rw[List.pairwise_iff_getElem] at pr
 refine⟨?_,fun i x k hx hk=>?_,fun i a b ha hb=>?_,⟨_,_,U⟩,?_⟩
 ·rw[<- l9,um,um]
 ·rw[<- l9,ur] at hx
  rw[ur] at hk
  obtain⟨z,hz,rfl⟩:=Option.map_eq_some_iff.mp hx
  rw[hz] at hk
  cases hk
  exact l7 z (ut hz)
 ·rw[ur] at ha hb
  obtain⟨z,hz,rfl⟩:=Option.map_eq_some_iff.mp ha
  obtain⟨z',hz',rfl⟩:=Option.map_eq_some_iff.mp hb
  obtain⟨h1,e1⟩:=List.getElem?_eq_some_iff.mp hz
  obtain⟨h2,e2⟩:=List.getElem?_eq_some_iff.mp hz'
  have:=pr i (i+1) h1 h2 (by omega)
  rw[e1,e2] at this
  exact nU this
 ·have:=ik W s KS nx
  omega
structure BF (W:Wd) (s:Sd) (KS:List (Int×Kd)) (nx:Int):Prop where
 ri:KS.Pairwise fun a b=>a.1<b.1
 kn:∀ p ∈ KS,0<=p.1/\p.1<nx
 bl:∀ p ∈ KS,p.2=.bell->0<=W.nf p.1/\W.nf p.1<=9999
 rr:∀ p ∈ KS,p.2.point=true->0<=W.rf p.1/\W.rf p.1<s.ss.length
 s12:∀ x ∈ s.ss,x=1∨x=2
 en:∀ z,s.at_=some z->∃ p ∈ KS,p.1=z.2.1/\0<=z.2.2/\z.2.2<p.2.many
 mo:∀ n e z,W.mf n e=some z->∃ p ∈ KS,p.1=z.2.1/\0<=z.2.2/\z.2.2<p.2.many
 sy:Wsym W.mf
 rg:∀ x ∈ s.rg,0<=x/\x<=9999
 kl:KS.length<=30
 sl:s.ss.length<=30
 rl:s.rg.length<=30
 nx:0<=nx/\nx<10000
structure Mts (lks:List (List Int)) (m:List (List Key×V)) (N:Kn):Prop where
 f:∀ a b c d:Int,[a,b,c,d] ∈ lks->(∃ b2,ak m (kE a b)=some (.ref b2)/\(b2,HO.tup [.int c,.int d]) ∈ N)/\(∃ b1,ak m (kE c d)=some (.ref b1)/\(b1,HO.tup [.int a,.int b]) ∈ N)
 b:∀ n e:Int,¬ ak m (kE n e)=none->∃ a b c d:Int,[a,b,c,d] ∈ lks/\((n,e)=(a,b)∨(n,e)=(c,d))
 k:∀ x ∈ m.map (·.1),∃ n e:Int,x=kE n e
theorem Mts.nil (N:Kn):Mts [] [] N:=⟨fun _ _ _ _ h=>(nomatch h),fun n e h=>absurd rfl h,fun _ h=>(nomatch h)⟩
theorem Mts.mono {lks:List (List Int)}{N N':Kn} (h:Mts lks m N) (s:∀ x ∈ N,x ∈ N'):Mts lks m N':=⟨fun a b c d hl=>by
 obtain⟨⟨b2,h1,h2⟩,⟨b1,h3,h4⟩⟩:=h.f a b c d hl
 exact⟨⟨b2,h1,s _ h2⟩,⟨b1,h3,s _ h4⟩⟩,h.b,h.k⟩
theorem Mts.put {lks:List (List Int)}{N:Kn} (h:Mts lks m N) {a b c d:Int} (v1:ak m (kE a b)=none) (v2:ak m (kE c d)=none) (ne:¬ kE a b=kE c d) (b1 b2:Addr) :
  Mts (lks++[[a,b,c,d]]) (aH (aH m (kE a b) (.ref b2)) (kE c d) (.ref b1)) ((b1,HO.tup [.int a,.int b])::(b2,HO.tup [.int c,.int d])::N):=by
 refine⟨fun a' b' c' d' hl=>?_,fun n e hn=>?_,fun x hx=>?_⟩
 ·rcases uA.mp hl with hl | hl
  ·obtain⟨⟨x2,h1,h2⟩,⟨x1,h3,h4⟩⟩:=h.f _ _ _ _ hl
   refine⟨⟨x2,?_,by simp[h2]⟩,⟨x1,?_,by simp[h4]⟩⟩
   ·rw[av,if_neg (fun e=>by rw[e,v2] at h1; cases h1),av,if_neg (fun e=>by rw[e,v1] at h1; cases h1)]
    exact h1
   ·rw[av,if_neg (fun e=>by rw[e,v2] at h3; cases h3),av,if_neg (fun e=>by rw[e,v1] at h3; cases h3)]
    exact h3
  ·have e:=uu.mp hl
   injection e with e1 e
   injection e with e2 e
   injection e with e3 e
   injection e with e4 _
   subst e1 e2 e3 e4
   refine⟨⟨b2,?_,by simp⟩,⟨b1,?_,by simp⟩⟩
   ·rw[av,if_neg ne,av,if_pos rfl]
   ·rw[av,if_pos rfl]
 ·rw[av,av] at hn
  by_cases e2:kE n e=kE c d
  ·exact⟨a,b,c,d,by simp,.inr (cH e2)⟩
  by_cases e1:kE n e=kE a b
  ·exact⟨a,b,c,d,by simp,.inl (cH e1)⟩
  rw[if_neg e2,if_neg e1] at hn
  obtain⟨x1,x2,x3,x4,hx,ho⟩:=h.b n e hn
  exact⟨x1,x2,x3,x4,uC _ hx,ho⟩
 ·rcases cT hx with hx | rfl
  ·rcases cT hx with hx | rfl
   ·exact h.k x hx
   ·exact⟨_,_,U⟩
  ·exact⟨_,_,U⟩
theorem lt2 {a b c d:Int}:HT.lexLt [a,b] [c,d]=true↔a<c∨(a=c/\b<d):=by
 rw[HT.lexLt_cons,HT.lexLt_cons]
 by_cases e:a=c
 ·rw[if_pos e]
  by_cases e2:b=d
  ·rw[if_pos e2]
   exact⟨fun h=>(by cases h),fun h=>(by omega)⟩
  ·rw[if_neg e2]
   exact⟨fun h=>(by have:=of_decide_eq_true h; omega),fun h=>decide_eq_true (by omega)⟩
 ·rw[if_neg e]
  exact⟨fun h=>(by have:=of_decide_eq_true h; omega),fun h=>decide_eq_true (by omega)⟩
theorem dv {W:Wd}{a b c d:Int} (h:[a,b,c,d] ∈ lkR W KS):(∃ p ∈ KS,p.1=a/\0<=b/\b<p.2.many)/\HT.lexLt [a,b] [c,d]=true/\∃ z:En,W.mf a b=some z/\z.2=(c,d):=by
 obtain⟨p,hp,e,he,hl⟩:=iC h
 obtain⟨z,hz,lt,eq⟩:=cv hl
 injection eq with e1 eq
 injection eq with e2 eq
 injection eq with e3 eq
 injection eq with e4 _
 subst e1 e2 e3 e4
 exact⟨⟨p,hp,U,by omega,he⟩,lt,z,hz,U⟩
theorem mG {α:Type}{l:List α}{p:Nat}{x:α} (h:x ∈ l.take p):∃ j:Nat,j<p/\l[j]?=some x:=by
 obtain⟨j,hj⟩:=List.mem_iff_getElem?.mp h
 rw[List.getElem?_take] at hj
 split at hj
 ·exact⟨j,by assumption,hj⟩
 ·cases hj
theorem kr {α:Type}{R:α->α->Prop}{l:List α} (h:l.Pairwise R) {p:Nat}{q:α} (hq:l[p]?=some q):∀ x ∈ l.take p,R x q:=fun x hx=>by
 obtain⟨j,hj,hx⟩:=mG hx
 obtain⟨h1,e1⟩:=List.getElem?_eq_some_iff.mp hq
 obtain⟨h2,e2⟩:=List.getElem?_eq_some_iff.mp hx
 have:=List.pairwise_iff_getElem.mp h j p h2 h1 hj
 rwa [e1,e2] at this
theorem eU {α:Type}{l:List α}{p:Nat}{q:α} (hq:l[p]?=some q):l.take (p+1)=l.take p++[q]:=by rw[List.take_succ,hq]; rfl
theorem jk {W:Wd}{s:Sd}{nx:Int} (B:BF W s KS nx) {l:Nat}{a b c d:Int} (h:(lkR W KS)[l]?=some [a,b,c,d]) {N:Kn} (M:Mts ((lkR W KS).take l) m N):ak m (kE a b)=none/\ak m (kE c d)=none:=by
 obtain⟨_,lt,z,hz,ez⟩:=dv (ut h)
 obtain⟨_,z2,hz2,ez2⟩:=B.sy _ _ _ hz
 rw[ez] at hz2
 have key:∀ a' b' c' d':Int,[a',b',c',d'] ∈ (lkR W KS).take l->¬ (a,b)=(a',b')/\¬ (a,b)=(c',d')/\¬ (c,d)=(a',b')/\¬ (c,d)=(c',d'):=fun a' b' c' d' hl=>by
  have ri:a'<a∨(a'=a/\b'<b):=kr (kI W B.ri) h _ hl
  obtain⟨_,lt',z',hz',ez'⟩:=dv (List.mem_of_mem_take hl)
  obtain⟨_,z2',hz2',ez2'⟩:=B.sy _ _ _ hz'
  rw[ez'] at hz2'
  rw[lt2] at lt lt'
  refine⟨fun e=>?_,fun e=>?_,fun e=>?_,fun e=>?_⟩
  ·injection e with e1 e2; omega
  ·injection e with e1 e2
   subst e1 e2
   rw[hz] at hz2'
   rw[Option.some.inj hz2',ez2'] at ez
   injection ez with x1 x2
   omega
  ·injection e with e1 e2
   subst e1 e2
   dsimp only at hz2
   rw[hz'] at hz2
   rw[Option.some.inj hz2,ez2] at ez'
   injection ez' with x1 x2
   omega
  ·injection e with e1 e2
   subst e1 e2
   dsimp only at hz2 hz2'
   rw[hz2] at hz2'
   rw[Option.some.inj hz2',ez2'] at ez2
   injection ez2 with x1 x2
   omega
 constructor
 ·cases hv:ak m (kE a b) with
  | none=>rfl
  | some v=>
   obtain⟨a',b',c',d',hl,ho⟩:=M.b a b (by rw[hv]; exact fun e=>(nomatch e))
   have k:=key _ _ _ _ hl
   rcases ho with ho | ho
   ·exact absurd ho k.1
   ·exact absurd ho k.2.1
 ·cases hv:ak m (kE c d) with
  | none=>rfl
  | some v=>
   obtain⟨a',b',c',d',hl,ho⟩:=M.b c d (by rw[hv]; exact fun e=>(nomatch e))
   have k:=key _ _ _ _ hl
   rcases ho with ho | ho
   ·exact absurd ho k.2.2.1
   ·exact absurd ho k.2.2.2
structure Yi (W:Wd) (s:Sd) (KS:List (Int×Kd)) (nx:Int) (r p l e g:Nat) (y:YR) (N:Kn):Prop where
 sd:y.sides=(s.ss.take r).map V.int
 kd:y.kinds=cK (KS.take p)
 kv:∀ q ∈ KS.take p,ak y.kinds (Sum.inl q.1)=some (.str q.2.str)
 no:∀ q ∈ KS.take p,ak y.notes (Sum.inl q.1)=if q.2=.bell then some (.int (W.nf q.1)) else none
 ro:∀ q ∈ KS.take p,ak y.rods (Sum.inl q.1)=if q.2.point=true then some (.int (W.rf q.1)) else none
 fr:∀ n:Int,(∀ q ∈ KS.take p,¬ q.1=n)->ak y.kinds (Sum.inl n)=none/\ak y.notes (Sum.inl n)=none/\ak y.rods (Sum.inl n)=none
 nl:y.notes.length<=p
 rl:y.rods.length<=p
 m:Mts ((lkR W KS).take l) y.mates N
 ml:y.mates.length<=2*l
 en:(e=0/\y.eng=.non)∨(e=1/\∃ (z:En) (c:Addr),s.at_=some z/\y.eng=.ref c/\(c,HO.tup [.int z.2.1,.int z.2.2]) ∈ N)
 rg:(g=0/\y.rung=[])∨(g=1/\y.rung=s.rg.map V.int)
 nx:y.next<=nx
 tl:y.trail=[]
section
variable {W:Wd}{s:Sd}{KS:List (Int×Kd)}{nx:Int}{r p l e g:Nat}{y:YR}{N:Kn}
theorem Yi.nil (h:0<=nx):Yi W s KS nx 0 0 0 0 0 y0 N:=⟨U,U,fun _ h=>(nomatch h),fun _ h=>(nomatch h),fun _ h=>(nomatch h),fun _ _=>⟨U,U,U⟩,Nat.le_refl _,Nat.le_refl _,Mts.nil N,Nat.le_refl _,.inl ⟨U,U⟩,.inl ⟨U,U⟩,h,U⟩
theorem Yi.rod (Y:Yi W s KS nx r p l e g y N) {v:Int} (h:s.ss[r]?=some v):Yi W s KS nx (r+1) p l e g { y with sides:=y.sides++[.int v],trail:=[] } N :=
 ⟨by show y.sides++[.int v]=_; rw[eU h,uw,Y.sd]; rfl,Y.kd,Y.kv,Y.no,Y.ro,Y.fr,Y.nl,Y.rl,Y.m,Y.ml,Y.en,Y.rg,Y.nx,U⟩
theorem Yi.piece (B:BF W s KS nx) (Y:Yi W s KS nx r p l e g y N) {q:Int×Kd} (h:KS[p]?=some q) {v:Int} (hb:q.2=.bell->v=W.nf q.1) (hp:q.2.point=true->v=W.rf q.1) :
  Yi W s KS nx r (p+1) l e g (aN { y with next:=q.1 } q.2 v (.int v)) N:=by
 have lt:=kr B.ri h
 have fr:=Y.fr q.1 (fun q' hq' e=>by have:=lt q' hq'; omega)
 have tk:=eU h
 have kq:∀ {n:Int},(Sum.inl n:Key)=Sum.inl q.1->n=q.1:=fun e=>by injection e
 have nn:∀ n:Int,¬ n=q.1->ak (if q.2=.bell then aH y.notes (Sum.inl q.1) (.int v) else y.notes) (Sum.inl n)=ak y.notes (Sum.inl n):=fun n hn=>by
  split
  ·rw[av,if_neg (fun e=>hn (kq e))]
  ·rfl
 have rn:∀ n:Int,¬ n=q.1->ak (if q.2.point=true then aH y.rods (Sum.inl q.1) (if V.int v=.non then .int y.sides.length else .int v) else y.rods) (Sum.inl n)=ak y.rods (Sum.inl n):=fun n hn=>by
  split
  ·rw[av,if_neg (fun e=>hn (kq e))]
  ·rfl
 refine⟨?_,?_,fun q' hq'=>?_,fun q' hq'=>?_,fun q' hq'=>?_,fun n hn=>?_,?_,?_,Y.m,Y.ml,Y.en,Y.rg,?_,U⟩
 ·show(if q.2.point=true/\V.int v=.non then y.sides++[.int 1] else y.sides)=_
  rw[if_neg (fun h=>by cases h.2)]
  exact Y.sd
 ·show aH y.kinds (Sum.inl q.1) (.str q.2.str)=_
  rw[putK_new _ fr.1,tk,Y.kd]
  unfold cK
  rw[uw]
  rfl
 ·show ak (aH y.kinds (Sum.inl q.1) (.str q.2.str)) (Sum.inl q'.1)=_
  rw[tk] at hq'
  rw[av]
  rcases uA.mp hq' with hq' | hq'
  ·rw[if_neg (fun e=>by have:=kq e; have:=lt q' hq'; omega)]
   exact Y.kv q' hq'
  ·cases uu.mp hq'
   rw[if_pos rfl]
 ·show ak (if q.2=.bell then aH y.notes (Sum.inl q.1) (.int v) else y.notes) (Sum.inl q'.1)=_
  rw[tk] at hq'
  rcases uA.mp hq' with hq' | hq'
  ·rw[nn _ (by have:=lt q' hq'; omega)]
   exact Y.no q' hq'
  ·cases uu.mp hq'
   by_cases c:q.2=.bell
   ·rw[if_pos c,if_pos c,av,if_pos rfl,hb c]
   ·rw[if_neg c,if_neg c,fr.2.1]
 ·show ak (if q.2.point=true then aH y.rods (Sum.inl q.1) (if V.int v=.non then .int y.sides.length else .int v) else y.rods) (Sum.inl q'.1)=_
  rw[tk] at hq'
  rcases uA.mp hq' with hq' | hq'
  ·rw[rn _ (by have:=lt q' hq'; omega)]
   exact Y.ro q' hq'
  ·cases uu.mp hq'
   by_cases c:q.2.point=true
   ·rw[if_pos c,if_pos c,av,if_pos rfl,if_neg (fun e=>by cases e),hp c]
   ·rw[if_neg c,if_neg c,fr.2.2]
 ·rw[tk] at hn
  have nq:¬ n=q.1:=fun e=>hn q (by simp) e.symm
  have f:=Y.fr n (fun q' hq'=>hn q' (uC _ hq'))
  refine⟨?_,(nn n nq).trans f.2.1,(rn n nq).trans f.2.2⟩
  show ak (aH y.kinds (Sum.inl q.1) (.str q.2.str)) (Sum.inl n)=_
  rw[av,if_neg (fun e=>nq (kq e))]
  exact f.1
 ·show(if q.2=.bell then aH y.notes (Sum.inl q.1) (.int v) else y.notes).length<=_
  have:=Y.nl
  split
  ·rw[putK_new _ fr.2.1,uq]; simp; omega
  ·omega
 ·show(if q.2.point=true then aH y.rods (Sum.inl q.1) (if V.int v=.non then .int y.sides.length else .int v) else y.rods).length<=_
  have:=Y.rl
  split
  ·rw[putK_new _ fr.2.2,uq]; simp; omega
  ·omega
 ·have:=B.kn q (ut h)
  show q.1+1<=nx
  omega
theorem Yi.link (B:BF W s KS nx) (Y:Yi W s KS nx r p l e g y N) {a b c d:Int} (h:(lkR W KS)[l]?=some [a,b,c,d]) (b1 b2:Addr) :
  Yi W s KS nx r p (l+1) e g { y with mates:=aH (aH y.mates (kE a b) (.ref b2)) (kE c d) (.ref b1),trail:=[] } ((b1,HO.tup [.int a,.int b])::(b2,HO.tup [.int c,.int d])::N):=by
 obtain⟨v1,v2⟩:=jk B h Y.m
 obtain⟨_,lt,_⟩:=dv (ut h)
 have ne:=(gj lt).2
 refine⟨Y.sd,Y.kd,Y.kv,Y.no,Y.ro,Y.fr,Y.nl,Y.rl,by rw[eU h]; exact Y.m.put v1 v2 ne b1 b2,?_,?_,Y.rg,Y.nx,U⟩
 ·show(aH (aH y.mates (kE a b) (.ref b2)) (kE c d) (.ref b1)).length<=_
  have:=Y.ml
  rw[putK_new _ (by rw[av,if_neg (fun e=>ne e.symm)]; exact v2),putK_new _ v1,uq,uq]
  simp
  omega
 ·rcases Y.en with h | ⟨h,z,c,h1,h2,h3⟩
  ·exact .inl h
  ·exact .inr ⟨h,z,c,h1,h2,by simp[h3]⟩
theorem Yi.eng (Y:Yi W s KS nx r p l e g y N) {z:En} (hz:s.at_=some z) (c:Addr):Yi W s KS nx r p l 1 g { y with eng:=.ref c,trail:=[] } ((c,HO.tup [.int z.2.1,.int z.2.2])::N) :=
 ⟨Y.sd,Y.kd,Y.kv,Y.no,Y.ro,Y.fr,Y.nl,Y.rl,Y.m.mono (fun x hx=>uj _ hx),Y.ml,.inr ⟨U,z,c,hz,U,uk⟩,Y.rg,Y.nx,U⟩
theorem Yi.rung (Y:Yi W s KS nx r p l e g y N):Yi W s KS nx r p l e 1 { y with rung:=s.rg.map V.int } N :=
 ⟨Y.sd,Y.kd,Y.kv,Y.no,Y.ro,Y.fr,Y.nl,Y.rl,Y.m,Y.ml,Y.en,.inr ⟨U,U⟩,Y.nx,Y.tl⟩
theorem Yi.small (B:BF W s KS nx) (Y:Yi W s KS nx r p l e g y N) (hp:p<=30) (hl:l<=100):cc y:=by
 have h1:=Y.nl
 have h2:=Y.rl
 have h3:=Y.ml
 have h4:=B.sl
 have h5:=B.rl
 refine⟨by rw[Y.kd]; unfold cK; rw[um,uI]; omega,by omega,by omega,by rw[Y.sd,um,uI]; omega,by omega,?_,by rw[Y.tl]; decide⟩
 rcases Y.rg with ⟨_,h⟩ | ⟨_,h⟩
 ·rw[h]; decide
 ·rw[h,um]; omega
end
end P
set_option Elab.async false
set_option linter.all false
set_option maxRecDepth 100000
namespace L2
open PySem PySem.Spec PyProof.Rows
section
variable {X:Cx}
noncomputable def gTupL (K:PySem.W.Frag) (n:Nat) (t:TGs):TG:=fun v σ H Q=>∃ a xs,v=.ref a/\SqL K H a xs/\xs.length=n/\t xs σ H Q
theorem px {es:List Expr}{k:Nat}{t:TGs}{n:Nat}{pos:Pos} (hc:X.calm=true) (h:PGs X es t)
  (hn:(assignEach es X.env).length=n:=by rfl) (hst:(assignEach es X.env).findIdx? (·.1)=none:=by rfl):PG X (.Tuple es k pos) (gTupL X.K n t):=by
 intro pins s σ H v u Q I r hw
 obtain⟨a,xs,e1,hq,hl,hw⟩:=hw
 subst e1
 cases r
 obtain⟨its,rv,ht,hz⟩:=I.list hq
 obtain⟨o,m,ho,hcl,_,hd⟩:=ht
 have il:s.heap.IsList a its.toArray:=⟨o,ho,hcl,m,hd⟩
 have le:its.length=n:=by rw[<- hl]; exact(rv.length).symm
 rw[assign_Tuple]
 refine wpAny_bind (wpAny_standAt ?_)
 unfold unpack
 rw[hn,hst,show n=its.toArray.size by simp[le]]
 refine wpAny_bind (wpAny_holding (W.kun_itemsOf (I.ok.hd hc) il fun h' hx=>?_))
 have I1:Inv X pins σ H { s with heap:=h' }:=I.kept (t':=s.toks) fun b o e=>hx b o (Nat.ne_of_lt (Heap.lt_size e)) e
 exact h pins _ σ H xs _ Q I1 (by simpa using rv) hw
end
end L2
set_option Elab.async false
set_option linter.all false
set_option maxRecDepth 100000
set_option maxHeartbeats 4000000
namespace P
open PySem L2
inductive sp_bld (C:Addr) (vs:List V) (H:Hp) (Q:VK) (E_:XK):Prop
 | mk (rl:Addr) (zs:List LnA) (W:Wd) (s:Sd) (KS:List (Int×Kd)) (nx:Int) (L:Kn) (_:vs=[.ref rl]) (_:Has H L) (_:(rl,HO.lst (zs.map fun z=>V.ref z.p)) ∈ L) (_:LnIn zs L) (_:(zs.map fun z=>(z.w,z.n))=ytR W s KS nx) (_:BF W s KS nx) (_:∀ H' A y N,Has H' (yL C A y++(N++L))->Yi W s KS nx s.ss.length KS.length (lkR W KS).length (enR s).length (rgR s).length y N->y.next=nx->Q (.ref A.p) H'):sp_bld C vs H Q E_
theorem ap0 {α:Type}{a b:List α}{i:Nat}{x:α} (h:(a++b)[i]?=some x) (hi:i<a.length):a[i]?=some x:=by rwa [uF hi] at h
theorem ap1 {α:Type}{a b:List α}{i j:Nat}{x:α} (h:(a++b)[i]?=some x) (e:i=a.length+j):b[j]?=some x:=by rwa [e,uG (by omega),show a.length+j - a.length=j by omega] at h
structure Cn (i R P LL E G r p l e g:Nat):Prop where
 ci:i=r+p+l+e+g
 cr:r<=R
 cp:p<=P
 cl:l<=LL
 ce:e<=E
 cg:g<=G
 p0:0<p->r=R
 l0:0<l->r=R/\p=P
 e0:0<e->r=R/\p=P/\l=LL
 g0:0<g->r=R/\p=P/\l=LL/\e=E
variable{KS:List (Int×Kd)}{s:Sd}{W:Wd}
theorem BF.th {nx:Int}{r l e g:Nat}{y:YR}{N:Kn} (Y:Yi W s KS nx r KS.length l e g y N) {a b:Int} (h:∃ p ∈ KS,p.1=a/\0<=b/\b<p.2.many):bw y a b:=by
 obtain⟨p,hp,rfl,h1,h2⟩:=h
 exact⟨p.2,Y.kv p (by rw[List.take_length]; exact hp),h1,h2⟩
section
variable {P:Program}{w:World}{K:PySem.W.Frag}{mg:Str->Option Value}{base:Heap}{t:Adr}
theorem scBd:FnScope ["rows","yard","next_piece","next_rod","word","numbers"] ["rows"] (ah kh):={}
theorem nF (T:Txt K mg t):FnOk P w K mg base CX0 7 t.f_build t.d_build ["rows"] (sp_bld t.c_Yard):=by
 refine T.F_build.ok scBd (fun vs H Q E h=>?_) (fun cdv A outer s H vs Q E hr h=>?_)
 ·obtain⟨_,_,_,_,_,_,_,rfl,_⟩:=h
  rfl
 ·obtain⟨rl,zs,W,s,KS,nx,L,rfl,hH,ml,li,er,B,q⟩:=h
  refine⟨_,(ac (aD (i:=1) scBd.nd rfl (Or.inl rfl) (d5 T.mk_Yard (nG T) (hr.mono (by decide)) (by rfl) T.m_Yard (sI T) .nil ap))
   (ac (bJ (aF cS (aF ar (pv 0) ag (fun _ _=>rfl)) ag) (px rfl (aK (aw (i:=2) scBd.nd rfl (Or.inl rfl)) (aK (aw (i:=3) scBd.nd rfl (Or.inl rfl)) bH))))
   (ac (bD PassesOwn.never rfl (br (dm dX (pv 0) (d3 ag) d4)) (cP rfl (aK (aw (i:=4) scBd.nd rfl (Or.inl rfl)) (aK (aw (i:=5) scBd.nd rfl (Or.inl rfl)) bH)))
    (af (al (pcl (nD T) hr T.m_enter T.F_enter.kp (pT T) (aa (pv 1) (aa (pv 4) (aa (pv 5) ae)))))))
   (ac (aA (ai dF (aG ay (by rfl) T.z_len (by rfl) (aa (aB (pv 1) rfl) ae)) (pv 3) (am _))
    (af aR)
    aj)
   (ac (aA (ai dG (aB (pv 1) rfl) (pv 2) (am _))
    (af aR)
    aj)
   (ac (ba (pv 1) (pv 2) rfl)
   (af (aq (pv 1))))))))),?_⟩
  rw[show L2.start ["rows","yard","next_piece","next_rod","word","numbers"] [V.ref rl]=([some (V.ref rl),none,none,none,none,none]:St) from rfl]
  obtain⟨z0,zr,ez⟩:∃ z0 zr,zs=z0::zr:=by
   cases zs with
   | nil=>cases er
   | cons a b=>exact⟨a,b,U⟩
  subst ez
  have er1:(zr.map fun z=>(z.w,z.n))=rdR s++(KS.map (pcR W)++((lkR W KS).map (fun l=>(("link" : Str),l))++(enR s++rgR s))):=by injection er
  have e0:z0.n=[nx,(s.ss.length:Int)]:=by
   injection er with e1 _
   injection e1
  intro p1 dx1 hp1 hdx1 ne1
  refine⟨p1,dx1,_,U,(hH.alloc hdx1 (.own p1)).alloc (by rw[aM (Ne.symm ne1)]; exact hp1) (.ins t.c_Yard dx1 []),fun H2 A1 e1 h=>⟨U,?_⟩⟩
  subst e1
  clear hp1 hdx1 ne1 hH
  have m0:z0 ∈ z0::zr:=uk
  have gr:∀ {H':Hp}{X:Kn},Has H' (X++L)->SqL K H' rl ((z0::zr).map fun z=>V.ref z.p):=fun h=>SqL.of (h.at_ _ (ul _ ml))
  refine⟨_,U,rl,_,_,_,U,U,gr h,aL (j:=0) rfl,z0.p,_,_,_,U,U,SqT.of (h.at_ _ (ul _ (li.p z0 m0))),aL (j:=1) rfl,?_⟩
  refine⟨z0.l,_,U,SqL.of (h.at_ _ (ul _ (li.l z0 m0))),by rw[um,e0]; rfl,?_⟩
  rw[e0]
  refine⟨_,_,U,_,_,U,U,?_⟩
  dsimp only[List.set]
  refine⟨_,U,_,U,rl,_,U,gr h,fun sl hsl=>?_⟩
  have ecut:di ((z0::zr).map fun z=>V.ref z.p) (some 1) none=zr.map fun z=>V.ref z.p:=by
   unfold di
   have e1:HT.sIx ((z0::zr).map fun z=>V.ref z.p).length 0 (some 1)=1:=by simp[HT.sIx]
   rw[e1]
   show((zr.map fun z=>V.ref z.p)).take (((z0::zr).map fun z=>V.ref z.p).length - 1)=_
   exact List.take_of_length_le (by simp)
  rw[ecut]
  obtain⟨L1,hL1,msl,mL⟩:∃ L1:Kn,(sl,HO.lst (zr.map fun z=>V.ref z.p))::L=L1/\(sl,HO.lst (zr.map fun z=>V.ref z.p)) ∈ L1/\∀ x ∈ L,x ∈ L1:=⟨_,U,uk,fun x hx=>uj _ hx⟩
  have h1:Has (upd H2 sl (.lst (zr.map fun z=>V.ref z.p))) (yL t.c_Yard A1 y0++L1):=by rw[<- hL1]; exact Has.comm (X:=[_]) (Y:=yL t.c_Yard A1 y0) (R:=L) (h.alloc hsl (.lst (zr.map fun z=>V.ref z.p)))
  generalize upd H2 sl _=H3 at h1 ⊢
  clear h hsl
  have kl:=B.kl
  have LLl:=iD W KS
  have lz:zr.length=s.ss.length+(KS.length+((lkR W KS).length+((enR s).length+(rgR s).length))):=by
   have:=congrArg List.length er1
   simp only[um,uq] at this
   rw[this]
   unfold rdR
   simp
  refine⟨sl,U,⟨_,SqL.of (h1.at_ _ (ul _ msl))⟩,cI (xs:=zr.map fun z=>V.ref z.p) (fun i σ H'=>∃ (A:YA) (y:YR) (N:Kn) (r p l e g:Nat) (o4 o5:Option V),A.p=A1.p/\σ=[some (.ref rl),some (.ref A1.p),some (.int nx),some (.int (s.ss.length:Int)),o4,o5]/\Cn i s.ss.length KS.length (lkR W KS).length (enR s).length (rgR s).length r p l e g/\Yi W s KS nx r p l e g y N/\Has H' (yL t.c_Yard A y++(N++L1)))
   ⟨A1,y0,[],0,0,0,0,0,_,_,U,U,⟨U,Nat.zero_le _,Nat.zero_le _,Nat.zero_le _,Nat.zero_le _,Nat.zero_le _,by omega,by omega,by omega,by omega⟩,Yi.nil B.nx.1,h1⟩ (fun i σ H' _ ⟨A,y,N,r,p,l,e,g,o4,o5,_,_,_,_,h⟩=>SqL.of (h.at_ _ (ul _ (ul _ msl)))) ?_ ?_⟩
  ·rintro i v σ H4 hi ⟨A,y,N,r,p,l,e,g,o4,o5,eA,rfl,cn,Y,h4⟩
   rw[ur] at hi
   obtain⟨z,hz,rfl⟩:=Option.map_eq_some_iff.mp hi
   have mz:z ∈ z0::zr:=uj _ (ut hz)
   have hil:i<zr.length:=(List.getElem?_eq_some_iff.mp hz).1
   have rw0:(rdR s++(KS.map (pcR W)++((lkR W KS).map (fun l=>(("link" : Str),l))++(enR s++rgR s))))[i]?=some (z.w,z.n):=by rw[<- er1,ur,hz]; rfl
   have rdl:(rdR s).length=s.ss.length:=by unfold rdR; simp
   have c1:=cn.ci
   have c2:=cn.cr
   have c3:=cn.cp
   have c4:=cn.cl
   have c5:=cn.ce
   have c6:=cn.cg
   have c7:=cn.p0
   have c8:=cn.l0
   have c9:=cn.e0
   have c10:=cn.g0
   have el1:=iN s
   have gl1:=ir s
   have sm:cc y:=Y.small B (by omega) (by omega)
   have mzl:(z.l,HO.lst (z.n.map V.int)) ∈ N++L1:=ul _ (mL _ (li.l z mz))
   refine⟨z.p,_,U,SqT.of (h4.at_ _ (ul _ (ul _ (mL _ (li.p z mz))))),U,_,_,U,_,_,U,U,?_⟩
   dsimp only[List.set]
   refine⟨_,U,_,U,_,U,A,y,N++L1,z.w,z.l,z.n,by rw[eA]; rfl,h4,mzl,sm,?_⟩
   by_cases r1:r<s.ss.length
   ·-- a rod
    have x1:=ap0 rw0 (by omega)
    unfold rdR at x1
    rw[ur,List.getElem?_range (by omega)] at x1
    have x2:=Option.some.inj x1
    injection x2 with w1 w2
    have hr:s.ss[r]?=some s.ss[r]:=uo r1
    have ei:i=r:=by omega
    have gd:s.ss.getD i 0=s.ss[r]:=by rw[ei]; simp[List.getD,r1]
    refine .inl ⟨w1.symm,s.ss[r],?_,B.s12 _ (List.getElem_mem r1),fun H5 A' eA' h5=>?_⟩
    ·rw[<- w2,gd,Y.sd,um,uI,ei,Nat.min_eq_left c2]
    ·exact⟨A',_,N,r+1,p,l,e,g,_,_,eA'.trans eA,U,⟨by omega,by omega,by omega,by omega,by omega,by omega,by omega,by omega,by omega,by omega⟩,Y.rod hr,h5⟩
   have er:r=s.ss.length:=by omega
   have rw1:=ap1 rw0 (j:=p+l+e+g) (by omega)
   by_cases p1:p<KS.length
   ·-- a piece
    have ei:p+l+e+g=p:=by omega
    rw[ei] at rw1
    have x1:=ap0 rw1 (by rw[um]; omega)
    rw[ur] at x1
    obtain⟨q,hq,x2⟩:=Option.map_eq_some_iff.mp x1
    injection x2 with w1 w2
    have mq:=ut hq
    have hd:z.n.head?=some q.1:=by
     rw[<- w2]; unfold pcN; split
     ·rfl
     ·split <;> rfl
    obtain⟨v,hv,hb,hp⟩:∃ v,z.n.getLast?=some v/\(q.2=.bell->v=W.nf q.1)/\(q.2.point=true->v=W.rf q.1):=by
     rw[<- w2]; unfold pcN
     by_cases k1:q.2=.bell
     ·rw[if_pos k1]
      exact⟨_,U,fun _=>rfl,fun k2=>by rw[k1] at k2; cases k2⟩
     ·rw[if_neg k1]
      by_cases k2:q.2.point=true
      ·rw[if_pos k2]
       exact⟨_,U,fun k=>absurd k k1,fun _=>rfl⟩
      ·rw[if_neg k2]
       exact⟨_,U,fun k=>absurd k k1,fun k=>absurd k k2⟩
    refine .inr (.inr (.inr (.inr ⟨q.2,q.1,v,w1.symm,hd,hv,fun k=>by rw[hb k]; exact B.bl q mq k,fun k=>?_,fun H5 A' eA' h5=>?_⟩)))
    ·rw[hp k,Y.sd,um,uI,er,Nat.min_self]; exact B.rr q mq k
    ·exact⟨A',_,N,r,p+1,l,e,g,_,_,eA'.trans eA,U,⟨by omega,by omega,by omega,by omega,by omega,by omega,by omega,by omega,by omega,by omega⟩,Y.piece B hq hb hp,h5⟩
   have ep:p=KS.length:=by omega
   subst ep
   have rw2:=ap1 rw1 (j:=l+e+g) (by rw[um]; omega)
   by_cases l1:l<(lkR W KS).length
   ·-- a link
    have ei:l+e+g=l:=by omega
    rw[ei] at rw2
    have x1:=ap0 rw2 (by rw[um]; omega)
    rw[ur] at x1
    obtain⟨k,hk,x2⟩:=Option.map_eq_some_iff.mp x1
    injection x2 with w1 w2
    obtain⟨p0,_,e0',_,hl0⟩:=iC (ut hk)
    obtain⟨zz,_,_,ek⟩:=cv hl0
    rw[ek] at hk w2
    obtain⟨th1,lt,z1,hz1,ez1⟩:=dv (ut hk)
    have th2:=B.mo _ _ _ hz1
    rw[ez1] at th2
    obtain⟨v1,v2⟩:=jk B hk Y.m
    refine .inr (.inl ⟨w1.symm,_,_,_,_,w2.symm,lt,BF.th Y th1,BF.th Y th2,v1,v2,fun H5 A' b1 b2 eA' h5=>?_⟩)
    exact⟨A',_,_,r,_,l+1,e,g,_,_,eA'.trans eA,U,⟨by omega,by omega,by omega,by omega,by omega,by omega,by omega,by omega,by omega,by omega⟩,Y.link B hk b1 b2,h5⟩
   have el:l=(lkR W KS).length:=by omega
   have rw3:=ap1 rw2 (j:=e+g) (by rw[um]; omega)
   by_cases e1:e<(enR s).length
   ·-- the engine
    have ei:e+g=0:=by omega
    have ee:e=0:=by omega
    rw[ei] at rw3
    have x1:=ap0 rw3 (by omega)
    cases ha:s.at_ with
    | none=>unfold enR at x1; rw[ha] at x1; cases x1
    | some u=>
     unfold enR at x1
     rw[ha] at x1
     have x2:=Option.some.inj x1
     injection x2 with w1 w2
     refine .inr (.inr (.inl ⟨w1.symm,_,_,w2.symm,BF.th Y (B.en u ha),fun H5 A' c eA' h5=>?_⟩))
     exact⟨A',_,_,r,_,l,1,g,_,_,eA'.trans eA,U,⟨by omega,by omega,by omega,by omega,by omega,by omega,by omega,by omega,by omega,by omega⟩,Y.eng ha c,h5⟩
   have ee:e=(enR s).length:=by omega
   have rw4:=ap1 rw3 (j:=g) (by omega)
   have g1:g<(rgR s).length:=by omega
   have eg:g=0:=by omega
   rw[eg] at rw4
   have hne:¬ s.rg=[]:=fun e=>by unfold rgR at rw4; rw[if_pos e] at rw4; cases rw4
   unfold rgR at rw4
   rw[if_neg hne] at rw4
   have x2:=Option.some.inj rw4
   injection x2 with w1 w2
   have rl:=B.rl
   refine .inr (.inr (.inr (.inl ⟨w1.symm,by rw[<- w2]; exact B.rg,by rw[<- w2]; omega,fun H5 A' eA' h5=>?_⟩)))
   rw[<- w2] at h5
   exact⟨A',_,N,r,_,l,e,1,_,_,eA'.trans eA,U,⟨by omega,by omega,by omega,by omega,by omega,by omega,by omega,by omega,by omega,by omega⟩,Y.rung,h5⟩
  ·rintro σ H4 ⟨A,y,N,r,p,l,e,g,o4,o5,eA,rfl,cn,Y,h4⟩
   rw[um] at cn
   have c1:=cn.ci
   have c2:=cn.cr
   have c3:=cn.cp
   have c4:=cn.cl
   have c5:=cn.ce
   have c6:=cn.cg
   have a1:r=s.ss.length:=by omega
   have a2:p=KS.length:=by omega
   have a3:l=(lkR W KS).length:=by omega
   have a4:e=(enR s).length:=by omega
   have a5:g=(rgR s).length:=by omega
   subst a1 a2 a3 a4 a5
   rw[<- eA]
   have ysl:y.sides.length=s.ss.length:=by rw[Y.sd,um,uI,Nat.min_self]
   refine⟨_,U,A.p,_,A.dx,_,_,U,h4.get 1 U,T.cl_Yard,T.n_Yard_sides,bE _ _ _,A.s,_,U,.inl (SqL.of (h4.get 6 U)),_,U,U,_,U,ifF (by rw[ysl,decide_eq_true rfl]; rfl) ?_⟩
   refine⟨_,U,A.p,_,A.dx,_,_,U,h4.get 1 U,T.cl_Yard,T.n_Yard_next_piece,eK _ _ _,_,U,_,_,U,U,_,U,ifF (decide_eq_false (by have:=Y.nx; omega)) ?_⟩
   refine⟨_,U,_,U,A.p,_,A.dx,_,U,h4.get 1 U,T.cl_Yard,T.n_Yard_next_piece,(show 9<1000 by decide),?_⟩
   rw[cN]
   have h5:Has _ (yL t.c_Yard A { y with next:=nx }++(N++L1)):=h4.puti 1 U (.ins t.c_Yard A.dx (fl A nx y.eng))
   generalize upd H4 A.p _=H5 at h5 ⊢
   refine⟨_,U,?_⟩
   refine q _ A { y with next:=nx } N ?_ ⟨Y.sd,Y.kd,Y.kv,Y.no,Y.ro,Y.fr,Y.nl,Y.rl,Y.m,Y.ml,Y.en,Y.rg,Int.le_refl _,Y.tl⟩ rfl
   rw[<- hL1] at h5
   exact Has.sub h5 (List.Sublist.append (List.Sublist.refl _) (List.Sublist.append (List.Sublist.refl _) (List.Sublist.cons _ (List.Sublist.refl _))))
end
theorem hG {c:Nat}{sep:Str} (hs:gG c sep):∀ {ys:List Str},(∀ y ∈ ys,gG c y)->gG c (Str.join sep ys)
 | [],_=>by
  show c ∉ (Str.join sep []).cps.toList
  intro h
  cases h
 | [y],h=>h y uk
 | y::z::r,h=>by
  show c ∉ (y++sep++Str.join sep (z::r)).cps.toList
  rw[Str.appL,Str.appL]
  intro m
  rcases uA.mp m with m | m
  ·rcases uA.mp m with m | m
   ·exact h y uk m
   ·exact hs m
  ·exact hG hs (fun x hx=>h x (uj _ hx)) m
theorem nS {y:Str}{ns:List Int} (hy:gG 10 y) (hn:dW ns):gG 10 (lnT y ns):=by
 show gG 10 (Builtin.Str.glued " " (y::ns.map nT))
 rw[StrLaws.glued_eq_join]
 refine hG (by unfold gG; decide +kernel) (fun x hx=>?_)
 rcases uz.mp hx with rfl | hx
 ·exact hy
 ·obtain⟨n,hn',rfl⟩:=uK.mp hx
  exact kG (hn.2 n hn').1 (by decide)
theorem Kd.sfree (k:Kd):∀ c ∈ [10,32],¬ c ∈ k.str.cps.toList:=by cases k <;> decide +kernel
theorem p8 {nx:Int} (B:BF W s KS nx):∀ x ∈ ytR W s KS nx,(∀ c ∈ [10,32],¬ c ∈ x.1.cps.toList)/\x.1.length<=10/\dW x.2/\x.2.length<=30:=by
 intro x hx
 have n1:=B.nx
 have sl:=B.sl
 unfold ytR at hx
 simp only[uA,uz] at hx
 rcases hx with rfl | hx | hx | hx | hx | hx
 ·exact⟨by dsimp only; decide +kernel,by dsimp only; decide +kernel,cU ⟨n1.1,by omega⟩ ⟨by omega,by omega⟩,show 2<=30 by decide⟩
 ·obtain⟨i,hi,rfl⟩:=uK.mp hx
  have hi:=uR.mp hi
  have gs:s.ss[i]?=some (s.ss.getD i 0):=by rw[List.getD_eq_getElem?_getD,uo hi]; rfl
  have v12:=B.s12 _ (ut gs)
  exact⟨by dsimp only; decide +kernel,by dsimp only; decide +kernel,cU ⟨by omega,by omega⟩ ⟨by omega,by omega⟩,show 2<=30 by decide⟩
 ·obtain⟨p,hp,rfl⟩:=uK.mp hx
  have k:=B.kn p hp
  refine⟨p.2.sfree,p.2.strl,?_,?_⟩
  ·show dW (pcN W p)
   unfold pcN
   split
   ·have:=B.bl p hp (by assumption)
    exact cU ⟨k.1,by omega⟩ ⟨this.1,by omega⟩
   ·split
    ·have:=B.rr p hp (by assumption)
     exact cU ⟨k.1,by omega⟩ ⟨this.1,by omega⟩
    ·exact qG ⟨k.1,by omega⟩
  ·show(pcN W p).length<=30
   unfold pcN
   split
   ·show 2<=30; decide
   ·split
    ·show 2<=30; decide
    ·show 1<=30; decide
 ·obtain⟨l,hl,rfl⟩:=uK.mp hx
  obtain⟨p,hp,e,he,h2⟩:=iC hl
  obtain⟨z,hz,_,rfl⟩:=cv h2
  have k:=B.kn p hp
  have m3:=p.2.m3
  obtain⟨p',hp',e1,e2,e3⟩:=B.mo _ _ _ hz
  have k':=B.kn p' hp'
  have m3':=p'.2.m3
  exact⟨by dsimp only; decide +kernel,by dsimp only; decide +kernel,nM ⟨k.1,by omega⟩ ⟨by omega,by omega⟩ ⟨by omega,by omega⟩ ⟨e2,by omega⟩,show 4<=30 by decide⟩
 ·unfold enR at hx
  split at hx
  ·rename_i z hz
   cases uu.mp hx
   obtain⟨p',hp',e1,e2,e3⟩:=B.en _ hz
   have k':=B.kn p' hp'
   have m3':=p'.2.m3
   exact⟨by dsimp only; decide +kernel,by dsimp only; decide +kernel,cU ⟨by omega,by omega⟩ ⟨e2,by omega⟩,show 2<=30 by decide⟩
  ·cases hx
 ·unfold rgR at hx
  split at hx
  ·cases hx
  ·cases uu.mp hx
   have rl:=B.rl
   exact⟨by dsimp only; decide +kernel,by dsimp only; decide +kernel,⟨by dsimp only; omega,fun n hn=>by have:=B.rg n hn; omega⟩,rl⟩
theorem kX {nx:Int} (B:BF W s KS nx):Txt.split (ytT W s KS nx) "\n" = ytL W s KS nx/\(ytT W s KS nx).length<=1000000:=by
 have ok:=p8 B
 have ln:=ik W s KS nx
 have kl:=B.kl
 have sl:=B.sl
 have eL:=me W s KS nx
 constructor
 ·show Txt.split (Builtin.Str.glued "\n" (ytL W s KS nx)) _=_
  rw[StrLaws.glued_eq_join]
  refine fT (c:=10) (by unfold ytL; simp) (fun x hx=>?_)
  rw[eL] at hx
  obtain⟨p,hp,rfl⟩:=uK.mp hx
  obtain⟨h1,h2,h3,h4⟩:=ok p hp
  exact nS (h1 10 (by simp)) h3
 ·have sh:∀ y ∈ ytL W s KS nx,y.length<=400:=fun y hy=>by
   rw[eL] at hy
   obtain⟨p,hp,rfl⟩:=uK.mp hy
   obtain⟨h1,h2,h3,h4⟩:=ok p hp
   exact cj h2 h3 h4
  have:=iF (sep := "\n") sh
  have l1:("\n" : Str).length=1:=by decide +kernel
  rw[l1,eL,um] at this
  have h5:(ytT W s KS nx).length<=(ytR W s KS nx).length*(400+1):=by unfold ytT; rw[eL]; exact this
  omega
inductive sp_ry (C:Addr) (vs:List V) (H:Hp) (Q:VK) (E_:XK):Prop
 | mk (W:Wd) (s:Sd) (KS:List (Int×Kd)) (nx:Int) (L:Kn) (_:vs=[.str (ytT W s KS nx)]) (_:Has H L) (_:BF W s KS nx) (_:∀ H' A y N,Has H' (yL C A y++(N++L))->Yi W s KS nx s.ss.length KS.length (lkR W KS).length (enR s).length (rgR s).length y N->y.next=nx->Q (.ref A.p) H'):sp_ry C vs H Q E_
section
variable {P:Program}{w:World}{K:PySem.W.Frag}{mg:Str->Option Value}{base:Heap}{t:Adr}
theorem scRy:FnScope ["text","rows","error"] ["text"] (ah rq):={}
theorem ok_Jv (T:Txt K mg t):FnOk P w K mg base CX0 8 t.f_Jv t.d_Jv ["text"] (sp_ry t.c_Yard):=by
 refine T.F_Jv.ok scRy (fun vs H Q E h=>?_) (fun cdv A outer s H vs Q E hr h=>?_)
 ·obtain⟨_,_,_,_,_,rfl,_⟩:=h
  rfl
 ·obtain⟨W,s,KS,nx,L,rfl,hH,B,q⟩:=h
  refine⟨_,(ac (dZ (ix:=1) scRy.nd rfl (Or.inl rfl) (esc:=ah rq) (k:=1) ["line","text","rows","error"] rfl (br (bV PySem.F.plainAttrs_str PySem.F.slot_str_split PySem.F.type_str_split jg (pv 0) (aa aJ ae))) (fun _ _ _ _ _=>by exact(aw (i:=0) (show List.Nodup (["line","text","rows","error"]:List Str) from by decide +kernel) rfl (Or.inl rfl))) (fun _ _ _ _ _=>by exact bB) (fun _ _ _ _ _=>by exact(pcl (rX T) hr T.m_J71 T.F_J71.kp (b_J71 T) (aa (pv 0) ae))) rfl (by decide +kernel) (by decide +kernel) rfl (by decide +kernel) (by rfl) (fun _ _ h _=>h) (by decide +kernel))
   (ac (al (pcl (ok_Ja T) hr T.m_Ja T.F_Ja.kp (b_Ja T) (aa (pv 1) ae)))
   (af (ph (fun _ _ z=>z)
    (af (aq (pcl (nF T) hr T.m_build T.F_build.kp (pV T) (aa (pv 1) ae)))))))),?_⟩
  obtain⟨es,tl⟩:=kX B
  have ok:=p8 B
  have ln:=ik W s KS nx
  have kl:=B.kl
  have sl:=B.sl
  refine⟨_,U,U,ytT W s KS nx,_,U,U,U,sz tl,?_,fun l hl=>?_⟩
  ·rw[es,me,um]
   exact sz (by omega)
  rw[es,me]
  obtain⟨ls,els⟩:∃ ls,ytR W s KS nx=ls:=⟨_,U⟩
  rw[els] at ok ln ⊢
  have eml:((ls.map fun p=>lnT p.1 p.2).map V.str)=ls.map fun p=>V.str (lnT p.1 p.2):=by rw[uQ]; rfl
  rw[eml]
  have h1:=hH.alloc hl (.lst (ls.map fun p=>V.str (lnT p.1 p.2)))
  refine⟨l,U,⟨_,SqL.of (h1.get 0 U)⟩,fun D hD=>?_⟩
  refine⟨fun n m zs H'=>∃ (qs:List LnA) (N:Kn),m=ls.length - n/\n<=ls.length/\zs=qs.map (fun z=>V.ref z.p)/\qs.map (fun z=>(z.w,z.n))=ls.take n/\LnIn qs N/\Has H' ((D,.lst zs)::(N++((l,.lst (ls.map fun p=>V.str (lnT p.1 p.2)))::L))),⟨_,[],[],U,Nat.zero_le _,U,U,⟨fun z hz=>(by cases hz),fun z hz=>(by cases hz)⟩,h1.alloc hD _⟩,?_⟩
  rintro n m zs H2 ⟨qs,N,rfl,hn,rfl,eq1,lin,h2⟩
  refine⟨h2.get 0 U,?_⟩
  have lq:qs.length=n:=by
   have:=congrArg List.length eq1
   simp at this
   omega
  have g1:H2 l=some (.lst (ls.map fun p=>V.str (lnT p.1 p.2))):=h2.at_ (l,_) (uj _ (ul _ uk))
  by_cases hlt:n<ls.length
  ·have hx0:(ls.map fun p=>V.str (lnT p.1 p.2))[n]?=some (.str (lnT ls[n].1 ls[n].2)):=by rw[ur,uo hlt]; rfl
   refine .inr ⟨⟨_,_,SqL.of g1,hx0⟩,?_⟩
   rintro x H4 ⟨rfl,hx⟩
   have e1:=hx _ (SqL.of g1)
   rw[hx0] at e1
   cases e1
   have hb:=ok _ (List.getElem_mem hlt)
   obtain⟨rk,hrk⟩:∃ z ∈ ytZ W s KS nx,z.1=ls[n]:=by
    have:ls[n] ∈ (ytZ W s KS nx).map (·.1):=by rw[l9,els]; exact List.getElem_mem hlt
    obtain⟨z,hz,e⟩:=uK.mp this
    exact⟨z,hz,e⟩
   have rf:=l7 rk hrk.1
   rw[hrk.2] at rf
   refine⟨U,bT ?_⟩
   refine⟨_,U,ls[n].1,ls[n].2,_,_,_,_,U,h2,hb.1 32 (by simp),by have:=hb.2.1; omega,hb.2.2.1,rf,fun H5 p k h5=>?_⟩
   have h6:=jW h5 2 rfl
   refine⟨sizeOk (by rw[um]; omega),h6.get 0 U,ls.length - (n+1),by omega,qs++[⟨p,k,ls[n].1,ls[n].2⟩],(p,.tup [.str ls[n].1,.ref k])::(k,.lst (ls[n].2.map V.int))::N,U,hlt,by rw[uw]; rfl,?_,⟨fun z hz=>?_,fun z hz=>?_⟩,h6.puti 0 U _⟩
   ·rw[uw,eq1,List.take_succ,uo hlt]
    rfl
   ·rcases uA.mp hz with hz | hz
    ·exact uj _ (uj _ (lin.p z hz))
    ·cases uu.mp hz
     exact uk
   ·rcases uA.mp hz with hz | hz
    ·exact uj _ (uj _ (lin.l z hz))
    ·cases uu.mp hz
     exact uj _ uk
  ·refine .inl ⟨⟨_,SqL.of g1,by rw[um]; omega⟩,?_⟩
   have en:n=ls.length:=by omega
   rw[en,List.take_length] at eq1
   dsimp only[List.set]
   have li2:LnIn qs ((D,.lst (qs.map fun z=>V.ref z.p))::(N++((l,.lst (ls.map fun p=>V.str (lnT p.1 p.2)))::L))):=lin.mono fun z hz=>uj _ (uC _ hz)
   have rn:Rnk (qs.map fun z=>(z.w,z.n)) ((ytZ W s KS nx).map (·.2)):=by rw[eq1,<- els]; exact oS B.ri kl sl
   refine⟨_,U,D,qs,_,_,U,h2,uk,li2,rn,fun H3 h3=>?_⟩
   refine⟨_,U,D,qs,W,s,KS,nx,_,U,h3,uk,li2,by rw[eq1,els],B,fun H4 A y M h4 Y ny=>?_⟩
   refine q _ A y M (Has.sub h4 ?_) Y ny
   exact List.Sublist.append (List.Sublist.refl _) (List.Sublist.append (List.Sublist.refl _) (List.Sublist.cons _ ((List.Sublist.cons _ (List.Sublist.refl _)).trans (List.sublist_append_right _ _))))
end
noncomputable def EqE (L:Kn) (v1 v2:V):Prop:=(v1=.non/\v2=.non)∨∃ (b1 b2:Addr) (n e:Int) (j1 j2:Nat),v1=.ref b1/\v2=.ref b2/\L[j1]?=some (b1,HO.tup [.int n,.int e])/\L[j2]?=some (b2,HO.tup [.int n,.int e])
structure SimW (w1 w2:Wd):Prop where
 k:∀ n,w1.kf n=w2.kf n
 n:∀ n,w1.nf n=w2.nf n
 r:∀ n,w1.rf n=w2.rf n
 m:∀ n e,(w1.mf n e).map (·.2)=(w2.mf n e).map (·.2)
structure SimS (s1 s2:Sd):Prop where
 s:s1.ss=s2.ss
 a:s1.at_.map (·.2)=s2.at_.map (·.2)
 g:s1.rg=s2.rg
theorem gW {α β:Type}{f:α->β}{x y:Option α} (h:x.map f=y.map f):(x=none/\y=none)∨∃ u v,x=some u/\y=some v/\f u=f v:=by
 cases x with
 | none=>cases y with
  | none=>exact .inl ⟨U,U⟩
  | some v=>cases h
 | some u=>cases y with
  | none=>cases h
  | some v=>exact .inr ⟨u,v,U,U,Option.some.inj h⟩
theorem jP {w:Wd} (h:s.at_=none):w.nx s=none:=by unfold Wd.nx; simp only[h]
noncomputable def qT : Addr×HO->Option En
  | (a, .tup [.int n, .int e]) => some (a, n, e)
  | _=>none
theorem k7 {x:Addr×HO}{z:En} (h:qT x=some z):x=(z.1,HO.tup [.int z.2.1,.int z.2.2]):=by
 unfold qT at h
 split at h
 ·cases h; rfl
 ·cases h
noncomputable def esN (N:Kn):List En:=N.filterMap qT
theorem esN_in {N:Kn}{z:En}:z ∈ esN N↔(z.1,HO.tup [.int z.2.1,.int z.2.2]) ∈ N:=by
 unfold esN
 rw[List.mem_filterMap]
 constructor
 ·rintro⟨x,hx,h⟩
  rw[<- k7 h]; exact hx
 ·intro h
  exact⟨_,h,U⟩
theorem lC {a b c d:Int} (h:¬ (c,d)=(a,b)):HT.lexLt [a,b] [c,d]=true∨HT.lexLt [c,d] [a,b]=true:=by
 rw[lt2,lt2]
 by_cases e:a=c
 ·have:¬ b=d:=fun e2=>h (by rw[e,e2])
  omega
 ·omega
theorem qI {a b:Int}{z:En} (h:∃ p ∈ KS,p.1=a/\0<=b/\b<p.2.many) (hz:W.mf a b=some z) (lt:HT.lexLt [a,b] [z.2.1,z.2.2]=true):[a,b,z.2.1,z.2.2] ∈ lkR W KS:=by
 obtain⟨p,hp,rfl,h1,h2⟩:=h
 have eb:((b.toNat:Nat):Int)=b:=by omega
 refine List.mem_flatMap.mpr ⟨p,hp,List.mem_flatMap.mpr ⟨b.toNat,uR.mpr (by omega),?_⟩⟩
 unfold de
 rw[eb,hz]
 dsimp only
 rw[if_pos lt]
 exact uu.mpr rfl
section
variable {W:Wd}{s:Sd}{KS:List (Int×Kd)}{nx:Int}{r p e g:Nat}{y:YR}{N:Kn}
theorem Yi.mate (B:BF W s KS nx) (Y:Yi W s KS nx r p (lkR W KS).length e g y N) (n i:Int) :
  (∀ z,W.mf n i=some z->∃ b,ak y.mates (kE n i)=some (.ref b)/\(b,HO.tup [.int z.2.1,.int z.2.2]) ∈ N)/\(W.mf n i=none->ak y.mates (kE n i)=none):=by
 have M:=Y.m
 rw[List.take_length] at M
 refine⟨fun z hz=>?_,fun hn=>?_⟩
 ·obtain⟨ne,z',hz',ez'⟩:=B.sy _ _ _ hz
  have hp:=B.mo _ _ _ hz'
  rw[ez'] at hp
  rcases lC (a:=n) (b:=i) (c:=z.2.1) (d:=z.2.2) ne with lt | lt
  ·exact(M.f _ _ _ _ (qI hp hz lt)).1
  ·have hq:=B.mo _ _ _ hz
   have h1:=qI hq hz' (by rw[ez']; exact lt)
   rw[ez'] at h1
   exact(M.f _ _ _ _ h1).2
 ·cases hv:ak y.mates (kE n i) with
  | none=>rfl
  | some v=>
   obtain⟨a,b,c,d,hl,ho⟩:=M.b n i (by rw[hv]; exact fun h=>(nomatch h))
   obtain⟨_,_,z,hz,ez⟩:=dv hl
   rcases ho with ho | ho
   ·injection ho with h1 h2
    rw[h1,h2,hz] at hn; cases hn
   ·obtain⟨_,z',hz',_⟩:=B.sy _ _ _ hz
    rw[ez] at hz'
    injection ho with h1 h2
    rw[h1,h2] at hn
    rw[hz'] at hn
    cases hn
end
noncomputable def WN (W:Wd) (N:Kn) (y:YR):Wd:={ W with mf:=gK (esN N) y.mates }
theorem Yi.rep {nx:Int}{y y1:YR}{N X:Kn}{H:Hp} (hh:Has H (X++N)) (R:Rep W s y1) (kin0:∀ n k,W.kf n=some k->(n,k) ∈ KS) (B:BF W s KS nx)
  (Y:Yi W s KS nx s.ss.length KS.length (lkR W KS).length (enR s).length (rgR s).length y N) :
  ∃ s',Rep (WN W N y) s' y/\Pool (WN W N y) s' N/\SimW W (WN W N y)/\SimS s s':=by
 have eu:∀ x ∈ esN N,∀ z ∈ esN N,x.1=z.1->x=z:=eu_of hh fun x hx=>ul _ (esN_in.mp hx)
 have mm:∀ n i,(∀ z,W.mf n i=some z->∃ b,ak y.mates (kE n i)=some (.ref b)/\gK (esN N) y.mates n i=some (b,z.2)/\(b,HO.tup [.int z.2.1,.int z.2.2]) ∈ N)/\(W.mf n i=none->ak y.mates (kE n i)=none/\gK (esN N) y.mates n i=none):=fun n i=>by
  obtain⟨h1,h2⟩:=Y.mate B n i
  refine⟨fun z hz=>?_,fun hn=>⟨h2 hn,lx (h2 hn)⟩⟩
  obtain⟨b,hv,hb⟩:=h1 z hz
  refine⟨b,hv,?_,hb⟩
  unfold gK
  rw[hv]
  exact pO eu (x:=(b,z.2)) (esN_in.mpr hb)
 have kin:∀ n k,(WN W N y).kf n=some k->(n,k) ∈ KS.take KS.length:=fun n k hk=>by rw[List.take_length]; exact kin0 n k hk
 have ok':∀ z:En,W.ok z->(WN W N y).ok z:=fun z h=>h
 have mo':∀ n i z,(WN W N y).mf n i=some z->∃ z0,W.mf n i=some z0/\z0.2=z.2/\(z.1,HO.tup [.int z.2.1,.int z.2.2]) ∈ N:=fun n i z hz=>by
  obtain⟨a1,a2⟩:=mm n i
  cases h0:W.mf n i with
  | none=>
   have:gK (esN N) y.mates n i=some z:=hz
   rw[(a2 h0).2] at this; cases this
  | some z0=>
   obtain⟨b,_,h3,h4⟩:=a1 z0 h0
   have:gK (esN N) y.mates n i=some z:=hz
   rw[h3] at this
   cases this
   exact⟨z0,U,U,h4⟩
 have mt:∀ n i,ak y.mates (kE n i)=((WN W N y).mf n i).map fun z=>V.ref z.1:=fun n i=>by
  obtain⟨a1,a2⟩:=mm n i
  show _=(gK (esN N) y.mates n i).map _
  cases h0:W.mf n i with
  | none=>rw[(a2 h0).1,(a2 h0).2]; rfl
  | some z0=>
   obtain⟨b,h2,h3,_⟩:=a1 z0 h0
   rw[h2,h3]; rfl
 have sim:SimW W (WN W N y):=⟨fun _=>rfl,fun _=>rfl,fun _=>rfl,fun n i=>by
  obtain⟨a1,a2⟩:=mm n i
  show _=(gK (esN N) y.mates n i).map _
  cases h0:W.mf n i with
  | none=>rw[(a2 h0).2]
  | some z0=>
   obtain⟨b,_,h3,_⟩:=a1 z0 h0
   rw[h3]; rfl⟩
 have pm:∀ n e z,(WN W N y).mf n e=some z->∃ j:Nat,N[j]?=some (z.1,HO.tup [.int z.2.1,.int z.2.2]):=fun n e z hz=>by
  obtain⟨_,_,_,h⟩:=mo' n e z hz
  exact List.mem_iff_getElem?.mp h
 have rg:y.rung=s.rg.map V.int:=by
  rcases Y.rg with ⟨h1,h2⟩ | ⟨_,h2⟩
  ·have:s.rg=[]:=by
    unfold rgR at h1
    split at h1
    ·assumption
    ·cases h1
   rw[h2,this]; rfl
  ·exact h2
 have sd:y.sides=s.ss.map V.int:=by rw[Y.sd,List.take_length]
 have rep:∀ s':Sd,s'.ss=s.ss->s'.rg=s.rg->y.eng=enV s'.at_->(∀ z,s'.at_=some z->(WN W N y).ok z)->Rep (WN W N y) s' y:=fun s' e1 e2 h1 h2=>
  ⟨fun n k hk=>Y.kv _ (kin n k hk),fun n k hk=>Y.no _ (kin n k hk),fun n k hk=>Y.ro _ (kin n k hk),fun n k hk hp=>by rw[e1]; exact R.rr n k hk hp,by rw[e1]; exact sd,by rw[e1]; exact R.s12,mt,fun n i z hz=>(by
   obtain⟨z0,h3,h4,_⟩:=mo' n i z hz
   have:=R.mo _ _ _ h3
   unfold Wd.ok at this ⊢
   rw[h4] at this
   exact this),h1,h2,by rw[e2]; exact rg⟩
 rcases Y.en with ⟨h1,h2⟩ | ⟨_,z,c,hz,h2,h3⟩
 ·have ha:s.at_=none:=by
   cases h:s.at_ with
   | none=>rfl
   | some u=>unfold enR at h1; rw[h] at h1; cases h1
  refine⟨⟨s.ss,none,s.rg⟩,rep _ rfl rfl h2 (fun z h=>(by cases h)),⟨pm,fun z h=>(by cases h)⟩,sim,⟨rfl,by rw[ha],rfl⟩⟩
 ·refine⟨⟨s.ss,some (c,z.2),s.rg⟩,rep _ rfl rfl h2 (fun z' h=>?_),⟨pm,fun z' h=>?_⟩,sim,⟨U,by rw[hz]; rfl,U⟩⟩
  ·cases h
   exact R.eo z hz
  ·cases h
   exact List.mem_iff_getElem?.mp h3
theorem i7 {α:Type}:∀ (L:List α) (i:Nat) (x:α),i<L.length->(x::L.eraseIdx i).Perm (L.set i x)
 | [],i,x,h=>absurd h (Nat.not_lt_zero i)
 | a::L,0,x,h=>List.Perm.refl _
 | a::L,i+1,x,h=>(List.Perm.swap _ _ _).trans (List.Perm.cons a (i7 L i x (by simpa using h)))
variable{L:Kn}
theorem Has.repl {H:Hp}{x:Addr×HO} (h:Has H (x::L)) (i:Nat) (hi:i<L.length):Has H (L.set i x) :=
 (Has.sub h (List.Sublist.cons₂ x (List.eraseIdx_sublist L i))).perm (i7 L i x hi)
noncomputable def hE (n e:Nat):Int:=reduceHash (Builtin.Tuple.tupleHashOf [hashInt n,hashInt e])
noncomputable def hEs (N:Nat):List Int:=(List.range (3*N)).map fun i=>hE (i / 3) (i % 3)
theorem hE50:(hEs 50).Nodup:=by decide +kernel
noncomputable def EK (kvs:List (List Key×V)):Prop:=∀ k ∈ kvs.map (·.1),∃ n e:Nat,n<50/\e<3/\k=kE n e
theorem kL (N n e:Nat) (hn:n<N) (he:e<3):(hEs N)[3*n+e]?=some (hE n e):=by
 unfold hEs
 rw[ur,List.getElem?_range (by omega),Option.map_some,show(3*n+e) / 3=n by omega,show(3*n+e) % 3=e by omega]
theorem nodup_ix {l:List Int} (h:l.Nodup) {i j:Nat}{x:Int} (hi:l[i]?=some x) (hj:l[j]?=some x):i=j:=by
 obtain⟨li,ei⟩:=List.getElem?_eq_some_iff.mp hi
 obtain⟨lj,ej⟩:=List.getElem?_eq_some_iff.mp hj
 rcases Nat.lt_trichotomy i j with c | c | c
 ·exact absurd (ei.trans ej.symm) (List.pairwise_iff_getElem.mp h i j li lj c)
 ·exact c
 ·exact absurd (ej.trans ei.symm) (List.pairwise_iff_getElem.mp h j i lj li c)
theorem EK.inj {P:Program}{w:World}{kvs:List (List Key×V)} (h:EK kvs):∀ k1 ∈ kvs.map (·.1),∀ k2 ∈ kvs.map (·.1),hV P w k1=hV P w k2->k1=k2:=fun k1 h1 k2 h2 e=>by
 obtain⟨n1,e1,a1,b1,rfl⟩:=h k1 h1
 obtain⟨n2,e2,a2,b2,rfl⟩:=h k2 h2
 have e':hE n1 e1=hE n2 e2:=e
 have g1:=kL 50 n1 e1 a1 b1
 have g2:=kL 50 n2 e2 a2 b2
 rw[<- e'] at g2
 have ix:=nodup_ix hE50 g1 g2
 have:n1=n2/\e1=e2:=by omega
 rw[this.1,this.2]
theorem iM (A:YA) (next:Int) (eng:V) (q:Addr):bg "kinds" (.ref q) (fl A next eng)=fl { A with k:=q } next eng:=by kernel_rfl
theorem iK (A:YA) (next:Int) (eng:V) (q:Addr):bg "notes" (.ref q) (fl A next eng)=fl { A with n:=q } next eng:=by kernel_rfl
theorem eJ (A:YA) (next:Int) (eng:V) (q:Addr):bg "rods_under" (.ref q) (fl A next eng)=fl { A with r:=q } next eng:=by kernel_rfl
theorem iJ (A:YA) (next:Int) (eng:V) (q:Addr):bg "sides" (.ref q) (fl A next eng)=fl { A with s:=q } next eng:=by kernel_rfl
theorem iL (A:YA) (next:Int) (eng:V) (q:Addr):bg "mates" (.ref q) (fl A next eng)=fl { A with m:=q } next eng:=by kernel_rfl
theorem fl_m7 (A:YA) (next:Int) (eng:V):(fl A next eng).lookup ("make_twin" : Str)=none:=by kernel_rfl
inductive sp_make_twin (C:Addr) (vs:List V) (H:Hp) (Q:VK) (E_:XK):Prop
 | mk (A:YA) (y:YR) (L:Kn) (_:vs=[.ref A.p]) (_:Has H (yL C A y++L)) (_:EK y.mates) (_:∀ H' B,Has H' (yL C B { y with trail:=[] }++(yL C A y++L))->Q (.ref B.p) H'):sp_make_twin C vs H Q E_
section
variable {P:Program}{w:World}{K:PySem.W.Frag}{mg:Str->Option Value}{base:Heap}{t:Adr}
theorem scMk7:FnScope ["self","other"] ["self"] (ah tO):={}
theorem ok_J7 (T:Txt K mg t):FnOk P w K mg base CX0 3 t.f_J7 t.d_J7 ["self"] (sp_make_twin t.c_Yard):=by
 refine T.F_J7.ok scMk7 (fun vs H Q E h=>?_) (fun cdv A outer s H vs Q E hr h=>?_)
 ·obtain⟨_,_,_,rfl,_⟩:=h
  rfl
 ·obtain⟨A,y,L,rfl,hH,ek,q⟩:=h
  refine⟨_,(ac (aD (i:=1) scMk7.nd rfl (Or.inl rfl) (d5 T.mk_Yard (nG T) (hr.mono (by decide)) (by rfl) T.m_Yard (sI T) .nil ap))
   (ac (ba (pv 1) (aB (pv 0) rfl) rfl)
   (ac (ba (pv 1) (aU dU (by rfl) T.z_dict (by rfl) (aa (aB (pv 0) rfl) ae)) rfl)
   (ac (ba (pv 1) (aU dU (by rfl) T.z_dict (by rfl) (aa (aB (pv 0) rfl) ae)) rfl)
   (ac (ba (pv 1) (aU dU (by rfl) T.z_dict (by rfl) (aa (aB (pv 0) rfl) ae)) rfl)
   (ac (ba (pv 1) (aU bI (by rfl) T.z_list (by rfl) (aa (aB (pv 0) rfl) ae)) rfl)
   (ac (ba (pv 1) (aU jV (by rfl) T.z_dict (by rfl) (aa (aB (pv 0) rfl) ae)) rfl)
   (ac (ba (pv 1) (aB (pv 0) rfl) rfl)
   (ac (ba (pv 1) (aU bI (by rfl) T.z_list (by rfl) (aa (aB (pv 0) rfl) ae)) rfl)
   (af (aq (pv 1)))))))))))),?_⟩
  intro p1 dx1 hp1 hdx1 ne1
  refine⟨p1,dx1,_,U,(hH.alloc hdx1 (.own p1)).alloc (by rw[aM (Ne.symm ne1)]; exact hp1) (.ins t.c_Yard dx1 []),fun H2 B e1 h=>⟨U,?_⟩⟩
  subst e1
  clear hp1 hdx1 ne1 hH
  refine⟨_,U,A.p,_,A.dx,_,_,U,h.get 10 U,T.cl_Yard,T.n_Yard_next_piece,eK _ _ _,?_⟩
  refine⟨_,U,B.p,_,B.dx,_,U,h.get 1 U,T.cl_Yard,T.n_Yard_next_piece,(show 9<1000 by decide),?_⟩
  rw[show(y0.next)=0 from rfl,cN]
  replace h:Has _ (yL t.c_Yard B { y0 with next:=y.next }++(yL t.c_Yard A y++L)):=h.puti 1 U (.ins t.c_Yard B.dx (fl B y.next y0.eng))
  refine⟨_,U,A.p,_,A.dx,_,_,U,h.get 10 U,T.cl_Yard,T.n_Yard_kinds,bY _ _ _,A.k,_,U,.inl (h.get 12 U),fun l_k hl_k=>?_⟩
  refine⟨_,U,B.p,_,B.dx,_,U,(h.alloc hl_k _).get 2 U,T.cl_Yard,T.n_Yard_kinds,(show 9<1000 by decide),?_⟩
  rw[iM]
  replace h:Has _ (yL t.c_Yard { B with k:=l_k } { y0 with next:=y.next,kinds:=y.kinds }++(yL t.c_Yard A y++L)):=Has.repl ((h.alloc hl_k (.dK y.kinds)).puti 2 U (.ins t.c_Yard B.dx (fl { B with k:=l_k } y.next .non))) 3 (by simp[yL])
  clear hl_k
  refine⟨_,U,A.p,_,A.dx,_,_,U,h.get 10 U,T.cl_Yard,T.n_Yard_notes,bK _ _ _,A.n,_,U,.inl (h.get 13 U),fun l_n hl_n=>?_⟩
  refine⟨_,U,B.p,_,B.dx,_,U,(h.alloc hl_n _).get 2 U,T.cl_Yard,T.n_Yard_notes,(show 9<1000 by decide),?_⟩
  rw[iK]
  replace h:Has _ (yL t.c_Yard { B with k:=l_k,n:=l_n } { y0 with next:=y.next,kinds:=y.kinds,notes:=y.notes }++(yL t.c_Yard A y++L)):=Has.repl ((h.alloc hl_n (.dK y.notes)).puti 2 U (.ins t.c_Yard B.dx (fl { B with k:=l_k,n:=l_n } y.next .non))) 4 (by simp[yL])
  clear hl_n
  refine⟨_,U,A.p,_,A.dx,_,_,U,h.get 10 U,T.cl_Yard,T.n_J31_under,cq _ _ _,A.r,_,U,.inl (h.get 14 U),fun l_r hl_r=>?_⟩
  refine⟨_,U,B.p,_,B.dx,_,U,(h.alloc hl_r _).get 2 U,T.cl_Yard,T.n_J31_under,(show 9<1000 by decide),?_⟩
  rw[eJ]
  replace h:Has _ (yL t.c_Yard { B with k:=l_k,n:=l_n,r:=l_r } { y0 with next:=y.next,kinds:=y.kinds,notes:=y.notes,rods:=y.rods }++(yL t.c_Yard A y++L)):=Has.repl ((h.alloc hl_r (.dK y.rods)).puti 2 U (.ins t.c_Yard B.dx (fl { B with k:=l_k,n:=l_n,r:=l_r } y.next .non))) 5 (by simp[yL])
  clear hl_r
  refine⟨_,U,A.p,_,A.dx,_,_,U,h.get 10 U,T.cl_Yard,T.n_Yard_sides,bE _ _ _,A.s,_,U,.inl (SqL.of (h.get 15 U)),fun l_s hl_s=>?_⟩
  refine⟨_,U,B.p,_,B.dx,_,U,(h.alloc hl_s _).get 2 U,T.cl_Yard,T.n_Yard_sides,(show 9<1000 by decide),?_⟩
  rw[iJ]
  replace h:Has _ (yL t.c_Yard { B with k:=l_k,n:=l_n,r:=l_r,s:=l_s } { y0 with next:=y.next,kinds:=y.kinds,notes:=y.notes,rods:=y.rods,sides:=y.sides }++(yL t.c_Yard A y++L)):=Has.repl ((h.alloc hl_s (.lst y.sides)).puti 2 U (.ins t.c_Yard B.dx (fl { B with k:=l_k,n:=l_n,r:=l_r,s:=l_s } y.next .non))) 6 (by simp[yL])
  clear hl_s
  refine⟨_,U,A.p,_,A.dx,_,_,U,h.get 10 U,T.cl_Yard,T.n_Yard_mates,cJ _ _ _,A.m,_,U,.inl (h.get 16 U),ek.inj,fun l_m hl_m=>?_⟩
  refine⟨_,U,B.p,_,B.dx,_,U,(h.alloc hl_m _).get 2 U,T.cl_Yard,T.n_Yard_mates,(show 9<1000 by decide),?_⟩
  rw[iL]
  replace h:Has _ (yL t.c_Yard { B with k:=l_k,n:=l_n,r:=l_r,s:=l_s,m:=l_m } { y0 with next:=y.next,kinds:=y.kinds,notes:=y.notes,rods:=y.rods,sides:=y.sides,mates:=y.mates }++(yL t.c_Yard A y++L)):=Has.repl ((h.alloc hl_m (.dT y.mates)).puti 2 U (.ins t.c_Yard B.dx (fl { B with k:=l_k,n:=l_n,r:=l_r,s:=l_s,m:=l_m } y.next .non))) 7 (by simp[yL])
  clear hl_m
  refine⟨_,U,A.p,_,A.dx,_,_,U,h.get 10 U,T.cl_Yard,T.n_Jd_end,dS _ _ _,?_⟩
  refine⟨_,U,B.p,_,B.dx,_,U,h.get 1 U,T.cl_Yard,T.n_Jd_end,(show 9<1000 by decide),?_⟩
  rw[ck]
  replace h:Has _ (yL t.c_Yard { B with k:=l_k,n:=l_n,r:=l_r,s:=l_s,m:=l_m } { y0 with next:=y.next,kinds:=y.kinds,notes:=y.notes,rods:=y.rods,sides:=y.sides,mates:=y.mates,eng:=y.eng }++(yL t.c_Yard A y++L)):=h.puti 1 U (.ins t.c_Yard B.dx (fl { B with k:=l_k,n:=l_n,r:=l_r,s:=l_s,m:=l_m } y.next y.eng))
  refine⟨_,U,A.p,_,A.dx,_,_,U,h.get 10 U,T.cl_Yard,T.n_Yard_rung,fN _ _ _,A.g,_,U,.inl (SqL.of (h.get 17 U)),fun l_g hl_g=>?_⟩
  refine⟨_,U,B.p,_,B.dx,_,U,(h.alloc hl_g _).get 2 U,T.cl_Yard,T.n_Yard_rung,(show 9<1000 by decide),?_⟩
  rw[fA]
  replace h:Has _ (yL t.c_Yard { B with k:=l_k,n:=l_n,r:=l_r,s:=l_s,m:=l_m,g:=l_g } { y0 with next:=y.next,kinds:=y.kinds,notes:=y.notes,rods:=y.rods,sides:=y.sides,mates:=y.mates,eng:=y.eng,rung:=y.rung }++(yL t.c_Yard A y++L)):=Has.repl ((h.alloc hl_g (.lst y.rung)).puti 2 U (.ins t.c_Yard B.dx (fl { B with k:=l_k,n:=l_n,r:=l_r,s:=l_s,m:=l_m,g:=l_g } y.next y.eng))) 8 (by simp[yL])
  clear hl_g
  refine⟨_,U,q _ { B with k:=l_k,n:=l_n,r:=l_r,s:=l_s,m:=l_m,g:=l_g } h⟩
theorem scTn:FnScope ["yard"] ["yard"] (ah mT):={}
theorem iy (T:Txt K mg t):FnOk P w K mg base CX0 4 t.f_twin t.d_twin ["yard"] (sp_make_twin t.c_Yard):=by
 refine T.F_twin.ok scTn (fun vs H Q E h=>?_) (fun cdv A outer s H vs Q E hr h=>?_)
 ·obtain⟨_,_,_,rfl,_⟩:=h
  rfl
 ·obtain⟨A,y,L,rfl,hH,ek,q⟩:=h
  refine⟨_,(af (aq (aC (pv 0) T.cl_Yard T.M_J7 (ok_J7 T) hr (b_J7 T) .nil ap))),?_⟩
  exact⟨_,U,A.p,A.dx,_,U,hH.get 1 U,fl_m7 _ _ _,A,y,L,U,hH,ek,q⟩
end
theorem permC (a b c:Kn):(a++(b++c)).Perm (b++(a++c)):=by rw[<- uJ,<- uJ]; exact List.perm_append_comm.append_right _
structure SA where
 p:Addr
 dx:Addr
 sd:Addr
noncomputable def sfl (S:SA) (n:Int):List (Str×V):=[("next_stand",.int n),("stands",.ref S.sd)]
noncomputable def sL (C:Addr) (S:SA) (n:Int) (kvs:List (Key×V)):Kn:=[(S.p,.ins C S.dx (sfl S n)),(S.dx,.own S.p),(S.sd,.dK kvs)]
section
variable (S:SA) (n:Int)
theorem i6:(sfl S n).lookup ("next_stand" : Str)=some (.int n):=by kernel_rfl
theorem dJ:(sfl S n).lookup ("stands" : Str)=some (.ref S.sd):=by kernel_rfl
theorem oY (m:Int):bg "next_stand" (.int m) (sfl S n)=sfl S m:=by kernel_rfl
theorem mR:(sfl S n).lookup ("keep" : Str)=none/\(sfl S n).lookup ("again" : Str)=none/\(sfl S n).lookup ("drop" : Str)=none/\(sfl S n).lookup ("numbers" : Str)=none/\(sfl S n).lookup ("check_stand" : Str)=none:=⟨by kernel_rfl,by kernel_rfl,by kernel_rfl,by kernel_rfl,by kernel_rfl⟩
end
inductive sp_sinit (C:Addr) (vs:List V) (H:Hp) (Q:VK) (E_:XK):Prop
 | mk (p dx:Addr) (L:Kn) (_:vs=[.ref p]) (_:Has H ((p,.ins C dx [])::(dx,.own p)::L)) (_:∀ H' S,S.p=p->Has H' (sL C S 0 []++L)->Q .non H'):sp_sinit C vs H Q E_
inductive sp_keep (C Cy:Addr) (vs:List V) (H:Hp) (Q:VK) (E_:XK):Prop
 | mk (S:SA) (n:Int) (kvs:List (Key×V)) (A:YA) (y:YR) (L:Kn) (_:vs=[.ref S.p,.ref A.p]) (_:Has H (sL C S n kvs++(yL Cy A y++L))) (_:EK y.mates) (_:kvs.length<=1000) (_:∀ H' A2,Has H' (sL C S (n+1) (aH kvs (.inl n) (.ref A2.p))++(yL Cy A2 { y with trail:=[] }++(yL Cy A y++L)))->Q (.int n) H'):sp_keep C Cy vs H Q E_
inductive sp_again (C Cy:Addr) (vs:List V) (H:Hp) (Q:VK) (E_:XK):Prop
 | mk (S:SA) (n i:Int) (kvs:List (Key×V)) (A:YA) (y:YR) (L:Kn) (_:vs=[.ref S.p,.int i]) (_:Has H (sL C S n kvs++(yL Cy A y++L))) (_:ak kvs (.inl i)=some (.ref A.p)) (_:EK y.mates) (_:∀ H' A2,Has H' (yL Cy A2 { y with trail:=[] }++(sL C S n kvs++(yL Cy A y++L)))->Q (.ref A2.p) H'):sp_again C Cy vs H Q E_
inductive sp_chk (C:Addr) (vs:List V) (H:Hp) (Q:VK) (E_:XK):Prop
 | mk (S:SA) (n i:Int) (kvs:List (Key×V)) (v:V) (L:Kn) (_:vs=[.ref S.p,.int i]) (_:Has H (sL C S n kvs++L)) (_:ak kvs (.inl i)=some v) (_:Q .non H):sp_chk C vs H Q E_
section
variable {P:Program}{w:World}{K:PySem.W.Frag}{mg:Str->Option Value}{base:Heap}{t:Adr}
theorem scSi1:FnScope ["self"] ["self"] (ah tm):={}
theorem ok_Jp (T:Txt K mg t):FnOk P w K mg base CX0 1 t.f_Jp t.d_Jp ["self"] (sp_sinit t.c_Shelf):=by
 refine T.F_Jp.ok scSi1 (fun vs H Q E h=>?_) (fun cdv A outer s H vs Q E hr h=>?_)
 ·obtain⟨_,_,_,rfl,_⟩:=h
  rfl
 ·obtain⟨p,dx,L,rfl,hH,q⟩:=h
  refine⟨_,(ac (ba (pv 0) ag rfl)
   (af (ba (pv 0) d7 rfl))),?_⟩
  refine⟨_,U,p,_,dx,_,U,hH.get 0 U,T.cl_Shelf,T.n_Shelf_next_stand,(show 0<1000 by decide),?_⟩
  have h1:=hH.puti 0 U (.ins t.c_Shelf dx (bg ("next_stand" : Str) (V.int 0) ([]:List (Str×V))))
  rw[show bg ("next_stand" : Str) (V.int 0) ([]:List (Str×V))=([(("next_stand" : Str),V.int 0)]:List (Str×V)) from by kernel_rfl] at h1 ⊢
  generalize upd H p _=H1 at h1 ⊢
  intro a1 n1
  refine⟨_,U,p,_,dx,_,U,(h1.alloc n1 (.dK [])).get 1 U,T.cl_Shelf,T.n_Shelf_stands,(show 1<1000 by decide),?_⟩
  have h2:=(h1.alloc n1 (.dK [])).puti 1 U (.ins t.c_Shelf dx (bg ("stands" : Str) (V.ref a1) ([(("next_stand" : Str),V.int 0)]:List (Str×V))))
  rw[show bg ("stands" : Str) (V.ref a1) ([(("next_stand" : Str),V.int 0)]:List (Str×V))=sfl ⟨p,dx,a1⟩ 0 from by kernel_rfl] at h2 ⊢
  exact q _ ⟨p,dx,a1⟩ rfl (jW (jW h2 1 rfl) 2 rfl |> fun h=>h.perm (by exact(List.Perm.swap _ _ _).trans (List.Perm.refl _)))
theorem scSk:FnScope ["self","number"] ["self","number"] (ah tU):={}
theorem ok_J0 (T:Txt K mg t):FnOk P w K mg base CX0 1 t.f_J0 t.d_J0 ["self","number"] (sp_chk t.c_Shelf):=by
 refine T.F_J0.ok scSk (fun vs H Q E h=>?_) (fun cdv A outer s H vs Q E hr h=>?_)
 ·obtain⟨_,_,_,_,_,_,rfl,_⟩:=h
  rfl
 ·obtain⟨S,n,i,kvs,v,L,rfl,hH,hv,q⟩:=h
  have hu:=cV hr
  refine⟨_,(af (aA (dM (dD hu (pv 1) (aB (pv 0) rfl)))
    (af aR)
    aj)),?_⟩
  refine⟨_,U,_,U,S.p,_,S.dx,_,_,U,hH.get 0 U,T.cl_Shelf,T.n_Shelf_stands,dJ _ _,S.sd,_,U,DGet.k (k:=Sum.inl i) (hH.get 2 U),_,U,?_⟩
  exact ifF (by rw[hv]; rfl) q
theorem scKp:FnScope ["self","yard","number"] ["self","yard"] (ah sZ):={}
theorem ok_Js (T:Txt K mg t):FnOk P w K mg base CX0 5 t.f_Js t.d_Js ["self","yard"] (sp_keep t.c_Shelf t.c_Yard):=by
 refine T.F_Js.ok scKp (fun vs H Q E h=>?_) (fun cdv A outer s H vs Q E hr h=>?_)
 ·obtain⟨_,_,_,_,_,_,rfl,_⟩:=h
  rfl
 ·obtain⟨S,n,kvs,Y,y,L,rfl,hH,ek,hl,q⟩:=h
  have hu:=cV hr
  refine⟨_,(ac (aD (i:=2) scKp.nd rfl (Or.inl rfl) (aB (pv 0) rfl))
   (ac (gU (pv 0) ag og)
   (ac (dA hu (aB (pv 0) rfl) (pv 2) (pcl (iy T) hr T.m_twin T.F_twin.kp (jX T) (aa (pv 1) ae)) rfl)
   (af (aq (pv 2)))))),?_⟩
  rw[show L2.start ["self","yard","number"] [V.ref S.p,V.ref Y.p]=([some (V.ref S.p),some (V.ref Y.p),none]:St) from rfl]
  refine⟨_,U,S.p,_,S.dx,_,_,U,hH.get 0 U,T.cl_Shelf,T.n_Shelf_next_stand,i6 _ _,?_⟩
  dsimp only[List.set]
  refine⟨_,U,S.p,_,S.dx,_,_,U,hH.get 0 U,T.cl_Shelf,T.n_Shelf_next_stand,i6 _ _,_,_,U,U,_,_,hH.get 0 U,(show 2<1000 by decide),?_⟩
  rw[oY]
  have h1:Has _ (sL t.c_Shelf S (n+1) kvs++(yL t.c_Yard Y y++L)):=hH.puti 0 U (.ins t.c_Shelf S.dx (sfl S (n+1)))
  generalize upd H S.p _=H1 at h1 ⊢
  have h2:=Has.comm (X:=sL t.c_Shelf S (n+1) kvs) (Y:=yL t.c_Yard Y y) (R:=L) h1
  refine⟨_,U,Y,y,_,U,h2,ek,fun H3 A2 h3=>?_⟩
  have h4:=Has.comm (X:=yL t.c_Yard A2 { y with trail:=[] }++yL t.c_Yard Y y) (Y:=sL t.c_Shelf S (n+1) kvs) (R:=L) (oi h3 (by simp only[uJ]))
  refine⟨_,U,S.p,_,S.dx,_,_,U,h4.get 0 U,T.cl_Shelf,T.n_Shelf_stands,dJ _ _,_,U,S.sd,_,U,DPut.k (k:=Sum.inl n) (h4.get 2 U) (sizeOk (by omega)),_,U,?_⟩
  have h5:=h4.puti 2 U (.dK (aH kvs (.inl n) (.ref A2.p)))
  exact q _ A2 (oi (L':=sL t.c_Shelf S (n+1) (aH kvs (.inl n) (.ref A2.p))++((yL t.c_Yard A2 { y with trail:=[] }++yL t.c_Yard Y y)++L)) h5 rfl |> fun h=>oi h (by simp only[uJ]))
theorem scAg:FnScope ["self","number"] ["self","number"] (ah tG):={}
theorem ok_Jf (T:Txt K mg t):FnOk P w K mg base CX0 5 t.f_Jf t.d_Jf ["self","number"] (sp_again t.c_Shelf t.c_Yard):=by
 refine T.F_Jf.ok scAg (fun vs H Q E h=>?_) (fun cdv A outer s H vs Q E hr h=>?_)
 ·obtain⟨_,_,_,_,_,_,_,rfl,_⟩:=h
  rfl
 ·obtain⟨S,n,i,kvs,Y,y,L,rfl,hH,hv,ek,q⟩:=h
  have hu:=cV hr
  refine⟨_,(ac (al (ao (pv 0) T.cl_Shelf T.M_J0 (ok_J0 T) hr (b_J0 T) .nil ap (aa (pv 1) ae)))
   (af (aq (pcl (iy T) hr T.m_twin T.F_twin.kp (jX T) (aa (db hu (aB (pv 0) rfl) (pv 1)) ae))))),?_⟩
  refine⟨_,U,S.p,S.dx,_,U,hH.get 0 U,(mR _ _).2.2.2.2,_,U,S,n,i,kvs,_,_,U,hH,hv,?_⟩
  have h2:=Has.comm (X:=sL t.c_Shelf S n kvs) (Y:=yL t.c_Yard Y y) (R:=L) hH
  refine⟨_,U,S.p,_,S.dx,_,_,U,hH.get 0 U,T.cl_Shelf,T.n_Shelf_stands,dJ _ _,_,U,S.sd,_,U,(by rw[<- hv]; exact DGet.k (k:=Sum.inl i) (hH.get 2 U)),Y,y,_,U,h2,ek,fun H3 A2 h3=>q _ A2 ?_⟩
  exact h3.perm ((permC (yL t.c_Yard Y y) (sL t.c_Shelf S n kvs) L).append_left _)
end
noncomputable def mP:Sp:=fun vs H Q _=>(vs=[.non,.non]/\Q (.bl true) H)∨∃ (a b:Addr) (n e:Int),vs=[.ref a,.ref b]/\H a=some (.tup [.int n,.int e])/\H b=some (.tup [.int n,.int e])/\Q (.bl true) H
section
variable {P:Program}{w:World}{K:PySem.W.Frag}{mg:Str->Option Value}{base:Heap}{t:Adr}
theorem scIe:FnScope ["_law_found","_law_due"] ["_law_found","_law_due"] (ah qg):={}
theorem eX (T:Txt K mg t):FnOk P w K mg base CX0 3 t.f_Ji1 t.d_Ji1 ["_law_found","_law_due"] mP:=by
 refine T.F_Ji1.ok scIe (fun vs H Q E h=>?_) (fun cdv A outer s H vs Q E hr h=>?_)
 ·rcases h with ⟨rfl,_⟩ | ⟨_,_,_,_,rfl,_⟩ <;> rfl
 ·rcases h with ⟨rfl,q⟩ | ⟨a,b,n,e,rfl,ga,gb,q⟩
  all_goals refine⟨_,(ac (aA (ai dq (pv 1) aV (am _))
    (af (aq (bO dq (pv 0) aV (am _))))
    aj)
   (ac (aA (PW.pt (dl (bP (bx (aG eS (by rfl) T.z_isinstance (by rfl) (aa (pv 0) (aa (fH (v:=.ty "tuple") (by rfl) T.z_tuple (by rfl) rfl) ae))))) (cO (ai dF (aG ay (by rfl) T.z_len (by rfl) (aa (pv 0) ae)) ag (am _)))))
    (af (aq cx))
    aj)
   (af (aq (dc (pcl (fZ T) hr T.m_is T.F_is.kp (jY T) (aa (aF cS (pv 0) ag) (aa (aF cS (pv 1) ag) ae))) (cQ (pcl (fZ T) hr T.m_is T.F_is.kp (jY T) (aa (aF cS (pv 0) ag) (aa (aF cS (pv 1) ag) ae))))))))),?_⟩
  ·refine⟨_,U,U,_,U,df ?_⟩
   exact⟨_,U,U,q⟩
  ·refine⟨_,U,U,_,U,bA ?_⟩
   refine⟨_,U,_,_,_,_,U,.tup ga,r8 K,_,U,bA ?_⟩
   refine⟨_,U,a,_,U,.inr (SqT.of ga),U,_,U,bA ?_⟩
   refine⟨_,U,a,_,_,_,U,U,SqT.of ga,U,_,U,b,_,_,_,U,U,SqT.of gb,U,_,_,U,?_⟩
   rw[decide_eq_true rfl]
   refine⟨_,U,df ?_⟩
   refine⟨_,U,a,_,_,_,U,U,SqT.of ga,U,_,U,b,_,_,_,U,U,SqT.of gb,U,_,_,U,?_⟩
   rw[decide_eq_true rfl]
   exact q
end
inductive sp_Jj1 (vs:List V) (H:Hp) (Q:VK) (E_:XK):Prop
 | mk (a b:Addr) (xs ys:List Int) (i j:Nat) (L:Kn) (_:vs=[.ref a,.ref b]) (_:Has H L) (_:L[i]?=some (a,.lst (xs.map V.int))) (_:L[j]?=some (b,.lst (ys.map V.int))) (_:xs.length<=100000) (_:∀ H',Has H' L->Q (.bl (decide (xs=ys))) H'):sp_Jj1 vs H Q E_
theorem oQ:∀ {xs ys:List Int},xs.length=ys.length->((xs.zip ys).map fun p=>decide (p.1=p.2)).all id=decide (xs=ys)
 | [],[],_=>rfl
 | x::xs,y::ys,h=>by
  have ih:=oQ (xs:=xs) (ys:=ys) (by simpa using h)
  rw[List.zip_cons_cons,uH,List.all_cons,ih]
  by_cases e:x=y
  ·subst e; simp
  ·simp[e]
section
variable {P:Program}{w:World}{K:PySem.W.Frag}{mg:Str->Option Value}{base:Heap}{t:Adr}
theorem scIr:FnScope ["_law_found","_law_due"] ["_law_found","_law_due"] (ah mX):={}
theorem nJ (T:Txt K mg t):FnOk P w K mg base CX0 3 t.f_Jj1 t.d_Jj1 ["_law_found","_law_due"] sp_Jj1:=by
 refine T.F_Jj1.ok scIr (fun vs H Q E h=>?_) (fun cdv A outer s H vs Q E hr h=>?_)
 ·obtain⟨_,_,_,_,_,_,_,rfl,_⟩:=h
  rfl
 ·obtain⟨a,b,xs,ys,i,j,L,rfl,hH,hi,hj,hxl,q⟩:=h
  refine⟨_,(ac (aA (PW.pt (dl (bP (bx (aG eS (by rfl) T.z_isinstance (by rfl) (aa (pv 0) (aa (fH (v:=.ty "list") (by rfl) T.z_list (by rfl) rfl) ae))))) (cO (ai dF (aG ay (by rfl) T.z_len (by rfl) (aa (pv 0) ae)) (aG ay (by rfl) T.z_len (by rfl) (aa (pv 1) ae)) (am _)))))
    (af (aq cx))
    aj)
   (af (aq (aG (gB rfl) (by rfl) T.z_all (by rfl) (aa (d6 (esc:=ah mX) (k:=2) ["_law_one","_law_other","_law_found","_law_due"] rfl (rF (by rfl) T.z_zip (aa (pv 0) (aa (pv 1) ae))) (fun _ _ _ _ _=>by exact(iu (K:=K) (n:=2) rfl rfl (aK (aw (i:=0) (show List.Nodup (["_law_one","_law_other","_law_found","_law_due"]:List Str) from by decide +kernel) rfl (Or.inl rfl)) (aK (aw (i:=1) (show List.Nodup (["_law_one","_law_other","_law_found","_law_due"]:List Str) from by decide +kernel) rfl (Or.inl rfl)) bH)))) (fun _ _ _ _ _=>by exact bB) (fun _ _ _ _ _=>by exact(pcl (fZ T) hr T.m_is T.F_is.kp (jY T) (aa (pv 0) (aa (pv 1) ae)))) rfl (by decide +kernel) (by decide +kernel) rfl (by decide +kernel) (by rfl) (fun _ _ h _=>h) (by decide +kernel)) ae))))),?_⟩
  refine⟨_,U,_,_,_,_,U,.lst (hH.get i hi),r9 K,_,U,bA ?_⟩
  refine⟨_,U,a,_,U,.inl (SqL.of (hH.get i hi)),_,U,b,_,U,.inl (SqL.of (hH.get j hj)),U,_,U,?_⟩
  rw[um,um,dh]
  refine tZ (fun hc=>?_) (fun hc=>?_)
  ·have e:decide (xs=ys)=false:=decide_eq_false (fun z=>hc (by rw[z]))
   rw[e] at q
   exact q _ hH
  ·have hl:xs.length=ys.length:=by omega
   refine⟨_,U,_,U,a,b,U,⟨_,SqL.of (hH.get i hi)⟩,⟨_,SqL.of (hH.get j hj)⟩,fun D hD=>?_⟩
   refine⟨fun n m zs H'=>m=xs.length - n/\n<=xs.length/\zs=((xs.zip ys).take n).map (fun p=>V.bl (decide (p.1=p.2)))/\Has H' ((D,.lst zs)::L),⟨xs.length,by simp,Nat.zero_le _,U,hH.alloc hD _⟩,?_⟩
   rintro n m zs H' ⟨rfl,hn,rfl,h1⟩
   refine⟨h1.get 0 U,?_⟩
   have ga:=h1.get (i+1) (by simpa using hi)
   have gb:=h1.get (j+1) (by simpa using hj)
   by_cases hlt:n<xs.length
   ·refine .inr ⟨⟨_,_,_,_,SqL.of ga,(by rw[ur,uo hlt]; rfl),SqL.of gb,(by rw[ur,uo (by omega)]; rfl)⟩,?_⟩
    rintro x H2 ⟨p,x1,y1,rfl,hp,rfl,hx1,hy1⟩
    have hx2:=hx1 _ (SqL.of ga)
    have hy2:=hy1 _ (SqL.of gb)
    rw[ur,uo hlt] at hx2
    rw[ur,uo (by omega)] at hy2
    cases hx2
    cases hy2
    have h2:=h1.alloc hp (.tup [.int xs[n],.int (ys[n]'(by omega))])
    refine⟨p,_,U,SqT.of (h2.get 0 U),U,_,_,U,_,_,U,U,U,?_⟩
    refine bT ?_
    refine⟨_,U,_,U,_,_,U,?_⟩
    refine⟨?_,h2.get 1 U,xs.length - (n+1),by omega,U,hlt,?_,?_⟩
    ·rw[um,uI]
     exact sizeOk (by omega)
    ·rw[List.take_succ,uw,uo (by rw[List.length_zip]; omega),List.getElem_zip]
     rfl
    ·exact(h2.puti 1 U _).tail
   ·have en:n=xs.length:=by omega
    refine .inl ⟨⟨_,_,SqL.of ga,SqL.of gb,.inl (by rw[um]; omega)⟩,?_⟩
    refine⟨D,((xs.zip ys).map fun p=>decide (p.1=p.2)),U,?_,?_⟩
    ·have e:((xs.zip ys).take n).map (fun p=>V.bl (decide (p.1=p.2)))=((xs.zip ys).map fun p=>decide (p.1=p.2)).map V.bl:=by
      rw[List.take_of_length_le (by rw[List.length_zip]; omega),uQ]; rfl
     rw[<- e]
     exact SqL.of (h1.get 0 U)
    ·rw[oQ hl]
     exact q _ h1.tail
end
noncomputable def Wd.lay (w:Wd) (n:Int) (k:Kd) (note r:Int):Wd:=⟨fun i=>if i=n then some k else w.kf i,fun i=>if i=n then note else w.nf i,fun i=>if i=n then r else w.rf i,w.mf⟩
noncomputable def Wd.link (w:Wd) (x z:En):Wd:={ w with mf:=fun n e=>if (n,e)=z.2 then some x else if (n,e)=x.2 then some z else w.mf n e }
noncomputable def Fre (y:YR):Prop:=∀ n:Int,y.next<=n->ak y.kinds (Sum.inl n)=none/\ak y.notes (Sum.inl n)=none/\ak y.rods (Sum.inl n)=none
theorem Fre.nil:Fre y0:=fun _ _=>⟨U,U,U⟩
theorem bz {i n:Int} (h:¬ i=n):¬ (Sum.inl i:Key)=Sum.inl n:=fun e=>h (Sum.inl.inj e)
theorem Wd.ok_lay {w:Wd}{n:Int}{k:Kd}{note r:Int}{z:En} (hf:w.kf n=none) (h:w.ok z):(w.lay n k note r).ok z:=by
 obtain⟨k',hk,e⟩:=h
 refine⟨k',?_,e⟩
 show(if z.2.1=n then some k else w.kf z.2.1)=some k'
 rw[if_neg (fun c=>by rw[c,hf] at hk; cases hk)]
 exact hk
theorem Rep.lay {w:Wd}{y:YR} (R:Rep w s y) (F:Fre y) (hf:w.kf y.next=none) (k:Kd) (note r:Int) (rod:V) (ss':List Int)
  (hp:k.point=true->(rod=.non/\r=s.ss.length/\ss'=s.ss++[1])∨(rod=.int r/\0<=r/\r<s.ss.length/\ss'=s.ss)) (hn:k.point=false->ss'=s.ss) :
  Rep (w.lay y.next k note r) ⟨ss',s.at_,s.rg⟩ (aN y k note rod):=by
 obtain⟨f1,f2,f3⟩:=F y.next (Int.le_refl _)
 have up:s.ss.length<=ss'.length:=by
  cases e:k.point with
  | false=>rw[hn e]; exact Nat.le_refl _
  | true=>rcases hp e with ⟨_,_,h⟩ | ⟨_,_,_,h⟩ <;> rw[h] <;> simp
 have kfn:∀ {n:Int}{k':Kd},(w.lay y.next k note r).kf n=some k'->(n=y.next/\k'=k)∨(¬ n=y.next/\w.kf n=some k'):=fun {n k'} h=>by
  by_cases c:n=y.next
  ·refine .inl ⟨c,?_⟩
   have h:(if n=y.next then some k else w.kf n)=some k':=h
   rw[if_pos c] at h
   exact(Option.some.inj h).symm
  ·refine .inr ⟨c,?_⟩
   have h:(if n=y.next then some k else w.kf n)=some k':=h
   rw[if_neg c] at h
   exact h
 refine⟨fun n k' h=>?_,fun n k' h=>?_,fun n k' h=>?_,fun n k' h hpt=>?_,?_,?_,fun n e=>R.mt n e,fun n e z h=>Wd.ok_lay hf (R.mo n e z h),R.en,fun z hz=>Wd.ok_lay hf (R.eo z hz),R.rg⟩
 ·show ak (aH y.kinds (Sum.inl y.next) (.str k.str)) _=_
  rcases kfn h with ⟨rfl,rfl⟩ | ⟨c,h'⟩
  ·rw[av,if_pos rfl]
  ·rw[av,if_neg (bz c)]; exact R.kd _ _ h'
 ·show ak (if k=.bell then aH y.notes (Sum.inl y.next) (.int note) else y.notes) _=if k'=.bell then some (.int (if n=y.next then note else w.nf n)) else none
  rcases kfn h with ⟨rfl,rfl⟩ | ⟨c,h'⟩
  ·rw[if_pos rfl]
   by_cases kb:k'=.bell
   ·rw[if_pos kb,if_pos kb,av,if_pos rfl]
   ·rw[if_neg kb,if_neg kb]; exact f2
  ·rw[if_neg c,<- R.no _ _ h']
   split
   ·rw[av,if_neg (bz c)]
   ·rfl
 ·show ak (if k.point=true then aH y.rods (Sum.inl y.next) (if rod=.non then .int y.sides.length else rod) else y.rods) _=if k'.point=true then some (.int (if n=y.next then r else w.rf n)) else none
  rcases kfn h with ⟨rfl,rfl⟩ | ⟨c,h'⟩
  ·rw[if_pos rfl]
   by_cases kp:k'.point=true
   ·rw[if_pos kp,if_pos kp,av,if_pos rfl]
    rcases hp kp with ⟨e1,e2,_⟩ | ⟨e1,_,_,_⟩
    ·rw[if_pos e1,R.sd,um,e2]
    ·rw[e1,if_neg (fun h=>nomatch h)]
   ·rw[if_neg kp,if_neg kp]; exact f3
  ·rw[if_neg c,<- R.ro _ _ h']
   split
   ·rw[av,if_neg (bz c)]
   ·rfl
 ·show 0<=(if n=y.next then r else w.rf n)/\(if n=y.next then r else w.rf n)<(ss'.length:Int)
  rcases kfn h with ⟨rfl,rfl⟩ | ⟨c,h'⟩
  ·rw[if_pos rfl]
   rcases hp hpt with ⟨_,e2,e3⟩ | ⟨_,e2,e3,e4⟩
   ·rw[e3,uq,uB]; omega
   ·rw[e4]; exact⟨e2,e3⟩
  ·rw[if_neg c]
   have:=R.rr _ _ h' hpt
   omega
 ·show(if k.point=true/\rod=.non then y.sides++[.int 1] else y.sides)=ss'.map V.int
  cases kp:k.point with
  | true=>
   rcases hp kp with ⟨e1,_,e3⟩ | ⟨e1,_,_,e4⟩
   ·rw[if_pos ⟨U,e1⟩,R.sd,e3,uw]; rfl
   ·rw[if_neg (fun c=>by rw[e1] at c; exact nomatch c.2),R.sd,e4]
  | false=>rw[if_neg (fun c=>Bool.false_ne_true c.1),R.sd,hn kp]
 ·intro x hx
  cases kp:k.point with
  | true=>
   rcases hp kp with ⟨_,_,e3⟩ | ⟨_,_,_,e4⟩
   ·rw[show ss'=_ from e3,uA] at hx
    rcases hx with hx | hx
    ·exact R.s12 x hx
    ·exact .inl (by simpa using hx)
   ·rw[show ss'=_ from e4] at hx; exact R.s12 x hx
  | false=>rw[show ss'=_ from hn kp] at hx; exact R.s12 x hx
theorem Rep.link {w:Wd}{y:YR} (R:Rep w s y) {x z:En} (hx:w.ok x) (hz:w.ok z):Rep (w.link x z) s { y with mates:=aH (aH y.mates (kE x.2.1 x.2.2) (.ref z.1)) (kE z.2.1 z.2.2) (.ref x.1),trail:=[] }:=by
 have ke:∀ (n e:Int) (u:En),kE n e=kE u.2.1 u.2.2↔(n,e)=u.2:=fun n e u=>by
  constructor
  ·intro h
   injection h with h1 h2
   injection h2 with h2 _
   injection h1 with h1
   injection h2 with h2
   rw[h1,h2]
  ·intro h
   rw[<- h]
 refine⟨R.kd,R.no,R.ro,R.rr,R.sd,R.s12,fun n e=>?_,fun n e u h=>?_,R.en,R.eo,R.rg⟩
 ·show ak (aH (aH y.mates (kE x.2.1 x.2.2) (.ref z.1)) (kE z.2.1 z.2.2) (.ref x.1)) (kE n e)=Option.map _ (if (n,e)=z.2 then some x else if (n,e)=x.2 then some z else w.mf n e)
  rw[av,av]
  by_cases c1:(n,e)=z.2
  ·rw[if_pos ((ke _ _ _).mpr c1),if_pos c1]; rfl
  ·rw[if_neg (fun h=>c1 ((ke _ _ _).mp h)),if_neg c1]
   by_cases c2:(n,e)=x.2
   ·rw[if_pos ((ke _ _ _).mpr c2),if_pos c2]; rfl
   ·rw[if_neg (fun h=>c2 ((ke _ _ _).mp h)),if_neg c2]; exact R.mt n e
 ·have h:(if (n,e)=z.2 then some x else if (n,e)=x.2 then some z else w.mf n e)=some u:=h
  show w.ok u
  split at h
  ·cases h; exact hx
  ·split at h
   ·cases h; exact hz
   ·exact R.mo _ _ _ h
theorem Rep.throw {w:Wd}{y:YR} (R:Rep w s y) (r:Nat) (x:Int) (hx:x=1∨x=2):Rep w { s with ss:=s.ss.set r x } { y with sides:=y.sides.set r (.int x),trail:=[] }:=by
 refine⟨R.kd,R.no,R.ro,fun n k h1 h2=>by show _/\_<((s.ss.set r x).length:Int); rw[List.length_set]; exact R.rr n k h1 h2,?_,fun u hu=>?_,R.mt,R.mo,R.en,R.eo,R.rg⟩
 ·show y.sides.set r (.int x)=(s.ss.set r x).map V.int
  rw[R.sd,List.map_set]
 ·rcases List.mem_or_eq_of_mem_set hu with hu | hu
  ·exact R.s12 u hu
  ·rw[hu]; exact hx
noncomputable def w0:Wd:=⟨fun _=>none,fun _=>0,fun _=>0,fun _ _=>none⟩
theorem Rep.nil:Rep w0 ⟨[],none,[]⟩ y0:=⟨(fun _ _ h=>nomatch h),(fun _ _ h=>nomatch h),(fun _ _ h=>nomatch h),(fun _ _ h=>nomatch h),U,(fun _ h=>nomatch h),(fun _ _=>rfl),(fun _ _ _ h=>nomatch h),U,(fun _ h=>nomatch h),U⟩
noncomputable abbrev Pr:=Addr×Int×Int
noncomputable def prV (ps:List Pr):List V:=ps.map fun z=>.ref z.1
noncomputable abbrev pK2 (z:Pr):Addr×HO:=(z.1,HO.tup [.int z.2.1,.int z.2.2])
noncomputable def Fr (y:YR) (x:Int×Int):Prop:=bw y x.1 x.2/\ak y.mates (kE x.1 x.2)=none
structure Ld (y:YR) (N M R:Nat):Prop where
 nx:y.next=N
 kl:y.kinds.length<=N
 fr:Fre y
 mt:∀ n e,(N:Int)<=n->ak y.mates (kE n e)=none
 nl:y.notes.length<=N
 rl:y.rods.length<=N
 sl:y.sides.length<=R+N
 ml:y.mates.length<=M
 g:y.rung.length<=200000
 t:y.trail.length<=200000
theorem Ld.small {y:YR}{N M R:Nat} (h:Ld y N M R) (hN:N<=9000) (hM:M<=30000) (hR:R<=1000):cc y:=by
 obtain⟨h1,h2,h3,h4,h5,h6,h7,h8,h9,h10⟩:=h
 exact⟨by omega,by omega,by omega,by omega,by omega,by omega,by omega⟩
theorem Ld.nil:Ld y0 0 0 0:=⟨U,Nat.le_refl _,fun _ _=>⟨U,U,U⟩,fun _ _ _=>rfl,Nat.le_refl _,Nat.le_refl _,Nat.le_refl _,Nat.le_refl _,Nat.zero_le _,Nat.zero_le _⟩
theorem Ld.lt {y:YR}{N M R:Nat} (h:Ld y N M R) {n e:Int} (t:bw y n e):n<N:=by
 obtain⟨k,hk,_⟩:=t
 by_cases c:n<N
 ·exact c
 ·rw[(h.fr n (by rw[h.nx]; omega)).1] at hk
  cases hk
theorem pf {κ:Type} [DecidableEq κ] {kvs:List (κ×V)}{k:κ}{v:V} (h:ak kvs k=none):(aH kvs k v).length=kvs.length+1:=by
 rw[L2.putK_new v h,uq,uB]
theorem Ld.lay {y:YR}{N M R:Nat} (h:Ld y N M R) (k:Kd) (note:Int) (rod:V):Ld (aN y k note rod) (N+1) M R:=by
 have hk:=h.kl; have h1:=h.nl; have h2:=h.rl; have h3:=h.sl
 refine⟨?_,?_,fun n hn=>?_,fun n e hn=>h.mt n e (by omega),?_,?_,?_,h.ml,h.g,Nat.zero_le _⟩
 ·show y.next+1=_; rw[h.nx]; rfl
 ·show(aH y.kinds (Sum.inl y.next) (.str k.str)).length<=_
  have:=bv y.kinds (Sum.inl y.next) (.str k.str)
  omega
 ·have hn:y.next+1<=n:=hn
  obtain⟨a,b,c⟩:=h.fr n (by omega)
  have ne:¬ n=y.next:=by omega
  refine⟨?_,?_,?_⟩
  ·show ak (aH y.kinds (Sum.inl y.next) (.str k.str)) _=none
   rw[av,if_neg (bz ne)]; exact a
  ·show ak (if k=.bell then aH y.notes (Sum.inl y.next) (.int note) else y.notes) _=none
   split
   ·rw[av,if_neg (bz ne)]; exact b
   ·exact b
  ·show ak (if k.point=true then aH y.rods (Sum.inl y.next) (if rod=.non then .int y.sides.length else rod) else y.rods) _=none
   split
   ·rw[av,if_neg (bz ne)]; exact c
   ·exact c
 ·show(if k=.bell then aH y.notes (Sum.inl y.next) (.int note) else y.notes).length<=_
  have:=bv y.notes (Sum.inl y.next) (.int note)
  split <;> omega
 ·show(if k.point=true then aH y.rods (Sum.inl y.next) (if rod=.non then .int y.sides.length else rod) else y.rods).length<=_
  have:=bv y.rods (Sum.inl y.next) (if rod=.non then .int y.sides.length else rod)
  split <;> omega
 ·show(if k.point=true/\rod=.non then y.sides++[.int 1] else y.sides).length<=_
  split
  ·rw[uq,uB]; omega
  ·omega
theorem Fr.lay {y:YR}{N M R:Nat} (h:Ld y N M R) (k:Kd) (note:Int) (rod:V) {x:Int×Int} (f:Fr y x):Fr (aN y k note rod) x:=by
 have lt:=h.lt f.1
 obtain⟨⟨k',hk,e⟩,m⟩:=f
 refine⟨⟨k',?_,e⟩,m⟩
 show ak (aH y.kinds (Sum.inl y.next) (.str k.str)) _=_
 rw[av,if_neg (bz (by rw[h.nx]; omega))]
 exact hk
theorem Fr.new {y:YR}{N M R:Nat} (h:Ld y N M R) (k:Kd) (note:Int) (rod:V) {e:Int} (e0:0<=e) (e1:e<k.many):Fr (aN y k note rod) ((N:Int),e):=by
 refine⟨⟨k,?_,e0,e1⟩,h.mt _ _ (Int.le_refl _)⟩
 show ak (aH y.kinds (Sum.inl y.next) (.str k.str)) _=_
 rw[av,if_pos (by rw[h.nx])]
noncomputable def b6 (y:YR) (a b:Pr):YR:={ y with mates:=aH (aH y.mates (kE a.2.1 a.2.2) (.ref b.1)) (kE b.2.1 b.2.2) (.ref a.1),trail:=[] }
theorem Ld.link {y:YR}{N M R:Nat} (h:Ld y N M R) {a b:Pr} (fa:Fr y a.2) (fb:Fr y b.2):Ld (b6 y a b) N (M+2) R:=by
 have la:=h.lt fa.1; have lb:=h.lt fb.1
 refine⟨h.nx,h.kl,h.fr,fun n e hn=>?_,h.nl,h.rl,h.sl,?_,h.g,Nat.zero_le _⟩
 ·show ak (aH (aH y.mates (kE a.2.1 a.2.2) (.ref b.1)) (kE b.2.1 b.2.2) (.ref a.1)) _=none
  rw[av,if_neg (fun c=>by cases cH c; omega),av,if_neg (fun c=>by cases cH c; omega)]
  exact h.mt n e hn
 ·show(aH (aH y.mates (kE a.2.1 a.2.2) (.ref b.1)) (kE b.2.1 b.2.2) (.ref a.1)).length<=_
  have a1:=bv y.mates (kE a.2.1 a.2.2) (.ref b.1)
  have a2:=bv (aH y.mates (kE a.2.1 a.2.2) (.ref b.1)) (kE b.2.1 b.2.2) (.ref a.1)
  have:=h.ml
  omega
theorem Fr.link {y:YR}{a b:Pr}{x:Int×Int} (f:Fr y x) (ha:x≠a.2) (hb:x≠b.2):Fr (b6 y a b) x:=by
 refine⟨f.1,?_⟩
 show ak (aH (aH y.mates (kE a.2.1 a.2.2) (.ref b.1)) (kE b.2.1 b.2.2) (.ref a.1)) _=none
 rw[av,if_neg (fun c=>hb (cH c)),av,if_neg (fun c=>ha (cH c))]
 exact f.2
theorem Fr.ne {y:YR}{N M R:Nat} (h:Ld y N M R) {x:Int×Int} (f:Fr y x) {e:Int}:x≠((N:Int),e):=fun c=>by
 have:=h.lt f.1
 rw[c] at this
 exact absurd this (Int.lt_irrefl _)
structure Up (y y':YR):Prop where
 k:∀ n v,ak y.kinds n=some v->ak y'.kinds n=some v
 n:∀ n v,ak y.notes n=some v->ak y'.notes n=some v
 r:∀ n v,ak y.rods n=some v->ak y'.rods n=some v
 m:∀ n v,ak y.mates n=some v->ak y'.mates n=some v
 s:y.sides <+: y'.sides
 e:y'.eng=y.eng
 g:y'.rung=y.rung
theorem Up.refl (y:YR):Up y y:=⟨fun _ _ h=>h,fun _ _ h=>h,fun _ _ h=>h,fun _ _ h=>h,List.prefix_refl _,U,U⟩
theorem Up.trans {a b c:YR} (h:Up a b) (g:Up b c):Up a c:=⟨fun n v x=>g.k n v (h.k n v x),fun n v x=>g.n n v (h.n n v x),fun n v x=>g.r n v (h.r n v x),fun n v x=>g.m n v (h.m n v x),h.s.trans g.s,g.e.trans h.e,g.g.trans h.g⟩
theorem Up.sl {y y':YR} (h:Up y y'):y.sides.length<=y'.sides.length:=h.s.length_le
theorem Ld.up {y:YR}{N M R:Nat} (h:Ld y N M R) (k:Kd) (note:Int) (rod:V):Up y (aN y k note rod):=by
 obtain⟨f1,f2,f3⟩:=h.fr y.next (Int.le_refl _)
 have pk:∀ {kvs:List (Key×V)}{x:V}{n:Key}{v:V},ak kvs (Sum.inl y.next)=none->ak kvs n=some v->ak (aH kvs (Sum.inl y.next) x) n=some v:=fun {kvs x n v} a b=>by
  rw[av,if_neg (fun c=>by rw[c,a] at b; cases b)]; exact b
 refine⟨fun n v hv=>pk f1 hv,fun n v hv=>?_,fun n v hv=>?_,fun _ _ h=>h,?_,U,U⟩
 ·show ak (if k=.bell then aH y.notes (Sum.inl y.next) (.int note) else y.notes) _=_
  split
  ·exact pk f2 hv
  ·exact hv
 ·show ak (if k.point=true then aH y.rods (Sum.inl y.next) (if rod=.non then .int y.sides.length else rod) else y.rods) _=_
  split
  ·exact pk f3 hv
  ·exact hv
 ·show y.sides <+: (if k.point=true/\rod=.non then y.sides++[.int 1] else y.sides)
  split
  ·exact List.prefix_append _ _
  ·exact List.prefix_refl _
theorem Up.link {y:YR}{a b:Pr} (fa:Fr y a.2) (fb:Fr y b.2):Up y (b6 y a b):=by
 refine⟨fun _ _ h=>h,fun _ _ h=>h,fun _ _ h=>h,fun n v hv=>?_,List.prefix_refl _,U,U⟩
 show ak (aH (aH y.mates (kE a.2.1 a.2.2) (.ref b.1)) (kE b.2.1 b.2.2) (.ref a.1)) n=_
 rw[av,if_neg (fun c=>by rw[c,fb.2] at hv; cases hv),av,if_neg (fun c=>by rw[c,fa.2] at hv; cases hv)]
 exact hv
theorem Kd.str_inj {a b:Kd} (h:a.str=b.str):a=b:=by
 cases a <;> cases b <;> first | rfl | exact absurd h (by decide)
noncomputable def Kp (y:YR) (n:Int) (k:Kd):Prop:=ak y.kinds (Sum.inl n)=some (.str k.str)
noncomputable def Mt (y:YR) (L:Kn) (x z:Int×Int):Prop:=∃ b,ak y.mates (kE x.1 x.2)=some (.ref b)/\pK2 (b,z) ∈ L
theorem bC {κ:Type} [DecidableEq κ] {kvs:List (κ×V)}{k j:κ} (h:ak kvs j=none):ak (ax kvs k) j=none:=by
 by_cases c:j=k
 ·rw[c]; exact valV_drop_self
 ·rw[bF c]; exact h
structure WY (w:Wd) (y:YR) (L:Kn):Prop where
 k:∀ n k,Kp y n k->w.kf n=some k
 m:∀ x z,Mt y L x z->∃ a,w.mf x.1 x.2=some (a,z)
 r:∀ (n r:Int),ak y.rods (Sum.inl n)=some (.int r)->w.rf n=r
 n:∀ (n v:Int),ak y.notes (Sum.inl n)=some (.int v)->w.nf n=v
structure GW (W:Wd) (s:Sd) (y:YR) (L:Kn):Prop where
 R:Rep W s y
 P:Pool W s L
 sy:Wsym W.mf
 kf:∀ n,ak y.kinds (Sum.inl n)=(W.kf n).map fun k=>V.str k.str
 fk:∀ n,W.kf n=none->ak y.notes (Sum.inl n)=none/\ak y.rods (Sum.inl n)=none
 ki:∀ k ∈ y.kinds.map (·.1),∃ i:Int,k=Sum.inl i
theorem Pool.sub {w:Wd}{L L':Kn} (p:Pool w s L) (h:∀ x ∈ L,x ∈ L'):Pool w s L' :=
 ⟨fun n e z hz=>(let ⟨_,hj⟩:=p.m n e z hz; List.mem_iff_getElem?.mp (h _ (ut hj))),fun z hz=>(let ⟨_,hj⟩:=p.e z hz; List.mem_iff_getElem?.mp (h _ (ut hj)))⟩
section
variable {W:Wd}{s:Sd}{y:YR}{L L':Kn}
theorem GW.mono (G:GW W s y L) (h:∀ x ∈ L,x ∈ L'):GW W s y L':=⟨G.R,G.P.sub h,G.sy,G.kf,G.fk,G.ki⟩
theorem GW.kp (G:GW W s y L) {n:Int}{k:Kd} (h:Kp y n k):W.kf n=some k:=by
 have:=G.kf n
 rw[show ak y.kinds (Sum.inl n)=_ from h] at this
 obtain⟨k',h1,h2⟩:=Option.map_eq_some_iff.mp this.symm
 injection h2 with h2
 rw[h1,Kd.str_inj h2]
theorem GW.ok (G:GW W s y L) {z:En} (h:bw y z.2.1 z.2.2):W.ok z:=by
 obtain⟨k,hk,e⟩:=h
 exact⟨k,G.kp hk,e⟩
theorem GW.kfn (G:GW W s y L) {n:Int} (h:ak y.kinds (Sum.inl n)=none):W.kf n=none:=by
 have:=G.kf n
 rw[h] at this
 cases hk:W.kf n with
 | none=>rfl
 | some k=>rw[hk] at this; cases this
theorem GW.lay (G:GW W s y L) (F:Fre y) (k:Kd) (note r:Int) (rod:V) (ss':List Int)
  (hp:k.point=true->(rod=.non/\r=s.ss.length/\ss'=s.ss++[1])∨(rod=.int r/\0<=r/\r<s.ss.length/\ss'=s.ss)) (hn:k.point=false->ss'=s.ss) :
  GW (W.lay y.next k note r) ⟨ss',s.at_,s.rg⟩ (aN y k note rod) L:=by
 have hf:=G.kfn (F y.next (Int.le_refl _)).1
 refine⟨G.R.lay F hf k note r rod ss' hp hn,⟨G.P.m,G.P.e⟩,G.sy,fun n=>?_,fun n hk=>?_,fun k' hk'=>?_⟩
 ·show ak (aH y.kinds (Sum.inl y.next) (.str k.str)) _=Option.map _ (if n=y.next then some k else W.kf n)
  by_cases c:n=y.next
  ·rw[if_pos c,c,av,if_pos rfl]; rfl
  ·rw[if_neg c,av,if_neg (bz c)]; exact G.kf n
 ·have hk:(if n=y.next then some k else W.kf n)=none:=hk
  by_cases c:n=y.next
  ·rw[if_pos c] at hk; cases hk
  rw[if_neg c] at hk
  obtain⟨a,b⟩:=G.fk n hk
  refine⟨?_,?_⟩
  ·show ak (if k=.bell then aH y.notes (Sum.inl y.next) (.int note) else y.notes) _=none
   split
   ·rw[av,if_neg (bz c)]; exact a
   ·exact a
  ·show ak (if k.point=true then aH y.rods (Sum.inl y.next) (if rod=.non then .int y.sides.length else rod) else y.rods) _=none
   split
   ·rw[av,if_neg (bz c)]; exact b
   ·exact b
 ·rcases cT hk' with h | h
  ·exact G.ki k' h
  ·exact⟨_,h⟩
theorem GW.lay' (G:GW W s y L) (F:Fre y) (k:Kd) (note:Int) (rod:V) (hr:k.point=true->rod≠.non->∃ r:Int,rod=.int r/\0<=r/\r<y.sides.length) :
  ∃ r ss',GW (W.lay y.next k note r) ⟨ss',s.at_,s.rg⟩ (aN y k note rod) L:=by
 have sl:(y.sides.length:Int)=s.ss.length:=by rw[G.R.sd,um]
 cases kp:k.point with
 | false=>exact⟨0,s.ss,G.lay F k note 0 rod s.ss (fun h=>by rw[kp] at h; cases h) (fun _=>rfl)⟩
 | true=>
  by_cases c:rod=.non
  ·exact⟨s.ss.length,s.ss++[1],G.lay F k note _ rod _ (fun _=>.inl ⟨c,U,U⟩) (fun h=>by rw[kp] at h; cases h)⟩
  ·obtain⟨r,h1,h2,h3⟩:=hr kp c
   exact⟨r,s.ss,G.lay F k note r rod _ (fun _=>.inr ⟨h1,h2,by omega,U⟩) (fun _=>rfl)⟩
theorem GW.link (G:GW W s y L) {x z:En} (mx:pK2 x ∈ L) (mz:pK2 z ∈ L) (fx:Fr y x.2) (fz:Fr y z.2) (ne:x.2≠z.2):GW (W.link x z) s (b6 y x z) L:=by
 have free:∀ {u:En},Fr y u.2->W.mf u.2.1 u.2.2=none:=fun {u} f=>by
  have:=G.R.mt u.2.1 u.2.2
  rw[f.2] at this
  cases h:W.mf u.2.1 u.2.2 with
  | none=>rfl
  | some v=>rw[h] at this; cases this
 refine⟨G.R.link (G.ok fx.1) (G.ok fz.1),⟨fun n e u hu=>?_,G.P.e⟩,G.sy.link (free fx) (free fz) ne,G.kf,G.fk,G.ki⟩
 have hu:(if (n,e)=z.2 then some x else if (n,e)=x.2 then some z else W.mf n e)=some u:=hu
 split at hu
 ·cases hu; exact List.mem_iff_getElem?.mp mx
 ·split at hu
  ·cases hu; exact List.mem_iff_getElem?.mp mz
  ·exact G.P.m n e u hu
theorem GW.throw (G:GW W s y L) (r:Nat) (x:Int) (hx:x=1∨x=2):GW W { s with ss:=s.ss.set r x } { y with sides:=y.sides.set r (.int x),trail:=[] } L :=
 ⟨G.R.throw r x hx,⟨G.P.m,G.P.e⟩,G.sy,G.kf,G.fk,G.ki⟩
theorem GW.put (G:GW W s y L) {z:En} (mz:pK2 z ∈ L) (th:bw y z.2.1 z.2.2):GW W { s with at_:=some z } { y with eng:=.ref z.1,trail:=[] } L :=
 ⟨⟨G.R.kd,G.R.no,G.R.ro,G.R.rr,G.R.sd,G.R.s12,G.R.mt,G.R.mo,U,fun u hu=>by cases hu; exact G.ok th,G.R.rg⟩,⟨G.P.m,fun u hu=>by cases hu; exact List.mem_iff_getElem?.mp mz⟩,G.sy,G.kf,G.fk,G.ki⟩
theorem GW.trail (G:GW W s y L) (tr:List V):GW W s { y with trail:=tr } L:=⟨⟨G.R.kd,G.R.no,G.R.ro,G.R.rr,G.R.sd,G.R.s12,G.R.mt,G.R.mo,G.R.en,G.R.eo,G.R.rg⟩,G.P,G.sy,G.kf,G.fk,G.ki⟩
theorem jF {a b c d:Int} (h:HO.tup [.int a,.int b]=HO.tup [.int c,.int d]):(a,b)=(c,d):=by
 injection h with h
 injection h with h1 h2
 injection h2 with h2 _
 injection h1 with h1
 injection h2 with h2
 rw[h1,h2]
theorem GW.wy (G:GW W s y L) {H:Hp}{X:Kn} (h:Has H (X++L)):WY W y L:=by
 refine⟨fun n k hk=>G.kp hk,fun x z ⟨b,h1,h2⟩=>?_,fun n r hr=>?_,fun n v hv=>?_⟩
 ·have:=G.R.mt x.1 x.2
  rw[h1] at this
  obtain⟨u,hu,e⟩:=Option.map_eq_some_iff.mp this.symm
  injection e with e
  obtain⟨j,hj⟩:=G.P.m _ _ _ hu
  have a1:=h.at_ _ (ul X (ut hj))
  have a2:=h.at_ _ (ul X h2)
  dsimp only at a1 a2
  rw[e,a2] at a1
  have e2:=jF (Option.some.inj a1)
  refine⟨u.1,?_⟩
  rw[hu]
  exact congrArg some (Prod.ext rfl e2.symm)
 ·cases hk:W.kf n with
  | none=>rw[(G.fk n hk).2] at hr; cases hr
  | some k=>
   have:=G.R.ro n k hk
   rw[hr] at this
   split at this
   ·injection this with this; injection this with this; exact this.symm
   ·cases this
 ·cases hk:W.kf n with
  | none=>rw[(G.fk n hk).1] at hv; cases hv
  | some k=>
   have:=G.R.no n k hk
   rw[hv] at this
   split at this
   ·injection this with this; injection this with this; exact this.symm
   ·cases this
end
noncomputable def sO (s:Sd) (y:YR) (L:Kn):Prop:=∀ a z,y.eng=.ref a->pK2 (a,z) ∈ L->s.at_=some (a,z)
theorem GW.eg {y:YR} (G:GW W s y L) {H:Hp}{X:Kn} (h:Has H (X++L)):sO s y L:=fun a z e m=>by
 have en:=G.R.en
 rw[e] at en
 cases hs:s.at_ with
 | none=>rw[hs] at en; cases en
 | some u=>
  rw[hs] at en
  injection en with en
  obtain⟨j,hj⟩:=G.P.e _ hs
  have a1:=h.at_ _ (ul X (ut hj))
  have a2:=h.at_ _ (ul X m)
  dsimp only at a1 a2
  rw[<- en,a2] at a1
  exact congrArg some (Prod.ext en.symm (jF (Option.some.inj a1)).symm)
noncomputable def YIn (C:Addr) (H:Hp) (p:Addr) (y:YR) (L:Kn):Prop:=∃ A:YA,A.p=p/\Has H (yL C A y++L)/\∃ W s,GW W s y L
section
variable {C:Addr}{H:Hp}{p:Addr}{y:YR}{L:Kn}{N M R:Nat}{Q:V->Hp->Prop}
theorem YIn.at_ (Y:YIn C H p y L) {z:Addr×HO} (m:z ∈ L):H z.1=some z.2:=by
 obtain⟨A,_,h,_⟩:=Y
 exact h.at_ _ (ul _ m)
theorem YIn.obj (Y:YIn C H p y L):∃ A:YA,H p=some (.ins C A.dx (fl A y.next y.eng)):=by
 obtain⟨A,rfl,h,_⟩:=Y
 exact⟨A,h.get 1 U⟩
theorem YIn.alloc (Y:YIn C H p y L) {a:Addr} (n:H a=none) (o:HO):YIn C (upd H a o) p y ((a,o)::L):=by
 obtain⟨A,e,h,W,s,G⟩:=Y
 exact⟨A,e,(h.alloc n o).perm (List.perm_middle (l₁:=yL C A y) (l₂:=L)).symm,W,s,G.mono fun x hx=>uj _ hx⟩
theorem YIn.perm {L':Kn} (Y:YIn C H p y L) (e:L.Perm L'):YIn C H p y L':=by
 obtain⟨A,e1,h,W,s,G⟩:=Y
 exact⟨A,e1,h.perm (List.Perm.append_left _ e),W,s,G.mono fun x hx=>e.mem_iff.mp hx⟩
theorem YIn.put0 {a:Addr}{xs:List V} (Y:YIn C H p y ((a,.lst xs)::L)) (o':HO):YIn C (upd H a o') p y ((a,o')::L):=by
 obtain⟨A,e,h,W,s,G⟩:=Y
 refine⟨A,e,((h.perm (List.perm_middle (l₁:=yL C A y) (l₂:=L))).puti 0 U o').perm (List.perm_middle (l₁:=yL C A y) (l₂:=L)).symm,W,s,G.R,⟨fun n e z hz=>?_,fun z hz=>?_⟩,G.sy,G.kf,G.fk,G.ki⟩
 ·obtain⟨j,hj⟩:=G.P.m n e z hz
  rcases uz.mp (ut hj) with c | c
  ·injection c with _ c; cases c
  ·exact List.mem_iff_getElem?.mp (uj _ c)
 ·obtain⟨j,hj⟩:=G.P.e z hz
  rcases uz.mp (ut hj) with c | c
  ·injection c with _ c; cases c
  ·exact List.mem_iff_getElem?.mp (uj _ c)
theorem YIn.sides (Y:YIn C H p y L):∃ ss:List Int,y.sides=ss.map V.int/\∀ x ∈ ss,x=1∨x=2:=by
 obtain⟨A,_,_,W,s,G⟩:=Y
 exact⟨s.ss,G.R.sd,G.R.s12⟩
theorem YIn.eng (Y:YIn C H p y L):y.eng=.non∨∃ z:Pr,y.eng=.ref z.1/\pK2 z ∈ L:=by
 obtain⟨A,_,_,W,s,G⟩:=Y
 have en:=G.R.en
 cases hs:s.at_ with
 | none=>rw[hs] at en; exact .inl en
 | some u=>
  rw[hs] at en
  obtain⟨j,hj⟩:=G.P.e _ hs
  exact .inr ⟨u,en,ut hj⟩
theorem YIn.ki (Y:YIn C H p y L):∀ k ∈ y.kinds.map (·.1),∃ i:Int,k=Sum.inl i:=by
 obtain⟨A,_,_,W,s,G⟩:=Y
 exact G.ki
theorem YIn.rung (Y:YIn C H p y L):∃ g:List Int,y.rung=g.map V.int:=by
 obtain⟨A,_,_,W,s,G⟩:=Y
 exact⟨s.rg,G.R.rg⟩
theorem cut2 (a b:V) (r:List V):di (a::b::r) (some 2) none=r:=by
 unfold di HT.sIx
 simp
theorem tn0 {σ:St}{H:Hp}{Q:List V->Hp->Prop} (h:Q [] H):jG σ H Q:=h
theorem tc1 {c:V}{σ:St}{H:Hp}{Q:List V->Hp->Prop} (h:Q [c] H):mJ (tC c) jG σ H Q:=h
theorem fc (Y:YIn C H p y L) (D:Ld y N M R) (b:N<=9000/\M<=30000/\R<=1000) (k:Kd) (note:Int) (rod:V) (hn:k=.bell->0<=note/\note<=9999)
  (hr:k.point=true->rod≠.non->∃ r:Int,rod=.int r/\0<=r/\r<y.sides.length) (q:∀ H',YIn C H' p (aN y k note rod) L->Q (.int N) H'):sp_lay C [.ref p,.str k.str,.int note,rod] H Q E0:=by
 obtain⟨A,rfl,h,W,s,G⟩:=Y
 refine⟨A,y,L,k,note,rod,U,h,D.small b.1 b.2.1 b.2.2,hn,hr,fun H' tr h'=>?_⟩
 rw[D.nx]
 obtain⟨r,ss',G'⟩:=G.lay' D.fr k note rod hr
 exact q H' ⟨{ A with tr:=tr },U,h',_,_,G'⟩
theorem fL (Y:YIn C H p y L) (D:Ld y N M R) (hM:M<=30000) {a b:Pr} (ma:pK2 a ∈ L) (mb:pK2 b ∈ L) (fa:Fr y a.2) (fb:Fr y b.2) (ne:a.2≠b.2) (q:∀ H',YIn C H' p (b6 y a b) L->Q .non H') :
  sp_link C [.ref p,.ref a.1,.ref b.1] H Q E0:=by
 obtain⟨A,rfl,h,W,s,G⟩:=Y
 obtain⟨j1,e1⟩:=List.getElem?_of_mem ma
 obtain⟨j2,e2⟩:=List.getElem?_of_mem mb
 exact⟨A,y,L,a.1,b.1,a.2.1,a.2.2,b.2.1,b.2.2,j1,j2,U,h,e1,e2,fa.1,fb.1,fun c=>ne (cH c),fa.2,fb.2,Nat.le_trans D.ml hM,fun H' tr h'=>q H' ⟨{ A with tr:=tr },U,h',_,_,G.link ma mb fa fb ne⟩⟩
theorem iZ (Y:YIn C H p y L) {r x:Int} (h0:0<=r) (h1:r<y.sides.length) (hx:x=1∨x=2) (q:∀ H',YIn C H' p { y with sides:=y.sides.set r.toNat (.int x),trail:=[] } L->Q .non H'):sp_throw C [.ref p,.int r,.int x] H Q E0:=by
 obtain⟨A,rfl,h,W,s,G⟩:=Y
 exact⟨A,y,L,r,x,U,h,h0,h1,hx,fun H' tr h'=>q H' ⟨{ A with tr:=tr },U,h',_,_,G.throw r.toNat x hx⟩⟩
theorem jK (Y:YIn C H p y L) {z:Pr} (mz:pK2 z ∈ L) (th:bw y z.2.1 z.2.2) (q:∀ H',YIn C H' p { y with eng:=.ref z.1,trail:=[] } L->Q .non H'):sp_put C [.ref p,.ref z.1] H Q E0:=by
 obtain⟨A,rfl,h,W,s,G⟩:=Y
 obtain⟨j,e⟩:=List.getElem?_of_mem mz
 exact⟨A,y,L,z.1,z.2.1,z.2.2,j,U,h,e,th,fun H' tr h'=>q H' ⟨{ A with tr:=tr },U,h',_,_,G.put mz th⟩⟩
theorem cB (Y:YIn C H p y L) (q:Q y.eng H):sp_engine C [.ref p] H Q E0:=by
 obtain⟨A,rfl,h,_⟩:=Y
 exact⟨A,y,L,U,h,q⟩
theorem i3 (Y:YIn C H p y L) (q:Q (.int y.trail.length) H):sp_steps C [.ref p] H Q E0:=by
 obtain⟨A,rfl,h,_⟩:=Y
 exact⟨A,y,L,U,h,q⟩
theorem jB (Y:YIn C H p y L) (q:∀ H' l,YIn C H' p y ((l,.lst y.rung)::L)->Q (.ref l) H'):sp_bells C [.ref p] H Q E0:=by
 obtain⟨A,rfl,h,W,s,G⟩:=Y
 exact⟨A,y,L,U,h,fun H' l h'=>q H' l ⟨A,U,h'.perm (List.perm_middle (l₁:=yL C A y) (l₂:=L)).symm,W,s,G.mono fun x hx=>uj _ hx⟩⟩
theorem dB (Y:YIn C H p y L) (q:∀ H' l,YIn C H' p y ((l,.lst (y.kinds.map fun kv=>kV kv.1))::L)->Q (.ref l) H'):sp_pieces C [.ref p] H Q E0:=by
 obtain⟨A,rfl,h,W,s,G⟩:=Y
 exact⟨A,y,L,U,h,fun H' l h'=>q H' l ⟨A,U,h'.perm (List.perm_middle (l₁:=yL C A y) (l₂:=L)).symm,W,s,G.mono fun x hx=>uj _ hx⟩⟩
theorem cZ (Y:YIn C H p y L) (sm:cc y) (q:∀ H' l,YIn C H' p y ((l,.lst (aX y.sides.length))::L)->Q (.ref l) H'):sp_rods C [.ref p] H Q E0:=by
 obtain⟨A,rfl,h,W,s,G⟩:=Y
 exact⟨A,y,L,U,h,sm,fun H' l h'=>q H' l ⟨A,U,h'.perm (List.perm_middle (l₁:=yL C A y) (l₂:=L)).symm,W,s,G.mono fun x hx=>uj _ hx⟩⟩
theorem fJ (Y:YIn C H p y L) {z:Pr} (mz:pK2 z ∈ L) (th:bw y z.2.1 z.2.2) (q:Q ((ak y.mates (kE z.2.1 z.2.2)).getD .non) H):sp_mate C [.ref p,.ref z.1] H Q E0:=by
 obtain⟨A,rfl,h,_⟩:=Y
 obtain⟨j,e⟩:=List.getElem?_of_mem mz
 exact⟨A,y,L,z.1,z.2.1,z.2.2,j,U,h,e,th,q⟩
theorem dy (Y:YIn C H p y L) {r:Int}{v:V} (h0:0<=r) (hv:y.sides[r.toNat]?=some v) (q:Q v H):sp_side C [.ref p,.int r] H Q E0:=by
 obtain⟨A,rfl,h,_⟩:=Y
 exact⟨A,y,L,r,v,U,h,h0,hv,q⟩
theorem iq (Y:YIn C H p y L) (et:y.trail=[]) {m:Int} (b1:m<=100000) (b2:y.rung.length<=200000) (q:∀ W s,GW W s y L->WY W y L->sO s y L->∀ H' y' Nw,GW W (W.go m.toNat s) y' (Nw++L)->y'.next=y.next->y'.kinds=y.kinds->y'.notes=y.notes->y'.rods=y.rods->y'.mates=y.mates->y'.trail.length=(W.hist m.toNat s).length ->
  YIn C H' p y' (Nw++L)->Q (.int (W.hist m.toNat s).length) H'):sp_run C [.ref p,.int m] H Q E0:=by
 obtain⟨A,rfl,h,W,s,G⟩:=Y
 refine⟨A,y,L,W,s,[],m,U,h,G.R,G.P,et,by show((0:Nat):Int)+m<=900000; omega,by omega,by show 0<=900000; omega,by omega,fun H' y' ts' h' R' t' e' n1 n2 n3 n4 n5 P'=>?_⟩
 have G':GW W (W.go m.toNat s) y' (trK W ts'++L):=⟨R',P'.sub fun x hx=>ul _ hx,G.sy,by rw[n2]; exact G.kf,by rw[n3,n4]; exact G.fk,by rw[n2]; exact G.ki⟩
 have el:ts'.length=(W.hist m.toNat s).length:=by rw[<- e',um]
 rw[el]
 refine q W s G (G.wy h) (G.eg h) H' y' (trK W ts') G' n1 n2 n3 n4 n5 ?_ ⟨A,U,h',W,_,G'⟩
 rw[t',List.nil_append]
 unfold trV
 rw[um,el]
end
noncomputable def dI (y:YR) (n:Int):YR:={ y with kinds:=ax y.kinds (Sum.inl n),notes:=ax y.notes (Sum.inl n),rods:=ax y.rods (Sum.inl n),trail:=[] }
theorem dropK_le {κ:Type} [DecidableEq κ] (kvs:List (κ×V)) (k:κ):(ax kvs k).length<=kvs.length:=by
 induction kvs with
 | nil=>exact Nat.le_refl _
 | cons p r ih=>
  by_cases e:p.1=k
  ·rw[cW e,uv]; omega
  ·rw[cC e,uv,uv]; omega
theorem lR {κ:Type} [DecidableEq κ] {kvs:List (κ×V)}{k x:κ} (h:x ∈ (ax kvs k).map (·.1)):x ∈ kvs.map (·.1):=by
 induction kvs with
 | nil=>exact h
 | cons p r ih=>
  by_cases e:p.1=k
  ·rw[cW e] at h
   exact uj _ (ih h)
  ·rw[cC e,uH] at h
   rcases uz.mp h with h | h
   ·rw[h]; exact uk
   ·exact uj _ (ih h)
noncomputable def Wd.lift (W:Wd) (n:Int):Wd:={ W with kf:=fun i=>if i=n then Option.none else W.kf i }
theorem GW.lift {y:YR} (G:GW W s y L) {n:Int}{k:Kd} (hk:Kp y n k) (hm:∀ e:Int,0<=e->e<k.many->ak y.mates (kE n e)=Option.none) (he:∀ z,s.at_=some z->z.2.1≠n):GW (W.lift n) s (dI y n) L:=by
 have R:=G.R
 have kfs:∀ {i:Int}{k':Kd},(W.lift n).kf i=some k'->¬ i=n/\W.kf i=some k':=fun {i k'} hi=>by
  have hi:(if i=n then Option.none else W.kf i)=some k':=hi
  by_cases c:i=n
  ·rw[if_pos c] at hi; cases hi
  ·rw[if_neg c] at hi; exact⟨c,hi⟩
 have no:∀ e z,W.mf n e=some z->False:=fun e z hz=>by
  obtain⟨_,z',h1,h2⟩:=G.sy n e z hz
  obtain⟨k',hk',e0,e1⟩:=R.mo _ _ _ h1
  rw[h2] at hk' e0 e1
  rw[show((n,e):Int×Int).1=n from rfl,G.kp hk] at hk'
  cases hk'
  have:=R.mt n e
  rw[hm e e0 e1,hz] at this
  cases this
 have okl:∀ z:En,W.ok z->¬ z.2.1=n->(W.lift n).ok z:=fun z ⟨k',a,b,c⟩ ne=>⟨k',by show(if z.2.1=n then Option.none else W.kf z.2.1)=_; rw[if_neg ne]; exact a,b,c⟩
 refine⟨⟨fun i k' hi=>?_,fun i k' hi=>?_,fun i k' hi=>?_,fun i k' hi hp=>R.rr i k' (kfs hi).2 hp,R.sd,R.s12,R.mt,fun i e z hz=>okl z (R.mo i e z hz) (fun c=>?_),R.en,fun z hz=>okl z (R.eo z hz) (he z hz),R.rg⟩,⟨G.P.m,G.P.e⟩,G.sy,fun i=>?_,fun i hi=>?_,fun k' hk'=>G.ki k' (lR hk')⟩
 ·show ak (ax y.kinds _) _=_
  rw[bF (bz (kfs hi).1)]; exact R.kd _ _ (kfs hi).2
 ·show ak (ax y.notes _) _=_
  rw[bF (bz (kfs hi).1)]; exact R.no _ _ (kfs hi).2
 ·show ak (ax y.rods _) _=_
  rw[bF (bz (kfs hi).1)]; exact R.ro _ _ (kfs hi).2
 ·obtain⟨_,z',h1,_⟩:=G.sy i e z hz
  rw[c] at h1
  exact no _ _ h1
 ·show ak (ax y.kinds (Sum.inl n)) (Sum.inl i)=Option.map _ (if i=n then Option.none else W.kf i)
  by_cases c:i=n
  ·rw[if_pos c,c,valV_drop_self]; rfl
  ·rw[if_neg c,bF (bz c)]; exact G.kf i
 ·have hi:(if i=n then Option.none else W.kf i)=Option.none:=hi
  show ak (ax y.notes (Sum.inl n)) (Sum.inl i)=_/\ak (ax y.rods (Sum.inl n)) (Sum.inl i)=_
  by_cases c:i=n
  ·rw[c]; exact⟨valV_drop_self,valV_drop_self⟩
  ·rw[if_neg c] at hi
   exact⟨bC (G.fk i hi).1,bC (G.fk i hi).2⟩
theorem Ld.lift {y:YR}{N M R:Nat} (h:Ld y N M R) (n:Int):Ld (dI y n) N M R :=
 ⟨h.nx,Nat.le_trans (dropK_le _ _) h.kl,fun i hi=>⟨bC (h.fr i hi).1,bC (h.fr i hi).2.1,bC (h.fr i hi).2.2⟩,h.mt,Nat.le_trans (dropK_le _ _) h.nl,Nat.le_trans (dropK_le _ _) h.rl,h.sl,h.ml,h.g,Nat.zero_le _⟩
theorem Kp.lift {y:YR}{n i:Int}{k:Kd} (h:Kp y i k) (ne:i≠n):Kp (dI y n) i k:=by
 show ak (ax y.kinds _) _=_
 rw[bF (bz ne)]; exact h
theorem Fr.lift {y:YR}{n:Int}{x:Int×Int} (f:Fr y x) (ne:x.1≠n):Fr (dI y n) x:=by
 obtain⟨⟨k,hk,e⟩,m⟩:=f
 exact⟨⟨k,Kp.lift hk ne,e⟩,m⟩
theorem Mt.up {y y':YR}{L L':Kn}{x z:Int×Int} (h:Mt y L x z) (u:Up y y') (s:∀ v ∈ L,v ∈ L'):Mt y' L' x z:=by
 obtain⟨b,h1,h2⟩:=h
 exact⟨b,u.m _ _ h1,s _ h2⟩
theorem Mt.mono {y:YR}{L L':Kn}{x z:Int×Int} (h:Mt y L x z) (s:∀ v ∈ L,v ∈ L'):Mt y L' x z:=h.up (Up.refl _) s
theorem Kp.up {y y':YR}{n:Int}{k:Kd} (h:Kp y n k) (u:Up y y'):Kp y' n k:=u.k _ _ h
theorem Mt.l1 {y:YR}{a b:Pr} (hb:pK2 b ∈ L) (ne:a.2≠b.2):Mt (b6 y a b) L a.2 b.2:=by
 refine⟨b.1,?_,hb⟩
 show ak (aH (aH y.mates (kE a.2.1 a.2.2) (.ref b.1)) (kE b.2.1 b.2.2) (.ref a.1)) _=_
 rw[av,if_neg (fun c=>ne (cH c)),av,if_pos rfl]
theorem Mt.l2 {y:YR}{a b:Pr} (ha:pK2 a ∈ L):Mt (b6 y a b) L b.2 a.2:=by
 refine⟨a.1,?_,ha⟩
 show ak (aH (aH y.mates (kE a.2.1 a.2.2) (.ref b.1)) (kE b.2.1 b.2.2) (.ref a.1)) _=_
 rw[av,if_pos rfl]
theorem Kp.lay {y:YR}{N M R:Nat} (h:Ld y N M R) (k:Kd) (note:Int) (rod:V):Kp (aN y k note rod) N k:=by
 show ak (aH y.kinds (Sum.inl y.next) (.str k.str)) _=_
 rw[av,if_pos (by rw[h.nx])]
structure BI (y:YR) (L:Kn) (m:Nat):Prop where
 k:∀ i:Nat,i<m->∃ k:Kd,Kp y i k/\k.point=true
 m1:∀ i:Nat,i+1<m->Mt y L ((i:Int),1) ((i:Int)+1,0)
 m2:∀ i:Nat,i<m->Fr y ((i:Int),2)
theorem BI.up {y y':YR}{L L':Kn}{m:Nat} (B:BI y L m) (u:Up y y') (s:∀ v ∈ L,v ∈ L') (f:∀ x,Fr y x->x.2=2->x.1<m->Fr y' x):BI y' L' m :=
 ⟨fun i hi=>(let ⟨k,h1,h2⟩:=B.k i hi; ⟨k,h1.up u,h2⟩),fun i hi=>(B.m1 i hi).up u s,fun i hi=>f _ (B.m2 i hi) rfl (by show(i:Int)<m; omega)⟩
theorem BI.mono {y:YR}{L L':Kn}{m:Nat} (B:BI y L m) (s:∀ v ∈ L,v ∈ L'):BI y L' m:=B.up (Up.refl _) s fun _ h _ _=>h
theorem BI.lift {y:YR}{m:Nat}{n:Int} (B:BI y L m) (h:(m:Int)<=n):BI (dI y n) L m :=
 ⟨fun i hi=>(let ⟨k,h1,h2⟩:=B.k i hi; ⟨k,h1.lift (by omega),h2⟩),fun i hi=>B.m1 i hi,fun i hi=>(B.m2 i hi).lift (by show(i:Int)≠n; omega)⟩
theorem BI.same {y y':YR}{m:Nat} (B:BI y L m) (e1:y'.kinds=y.kinds) (e2:y'.mates=y.mates):BI y' L m:=by
 refine⟨fun i hi=>?_,fun i hi=>?_,fun i hi=>?_⟩
 ·obtain⟨k,h1,h2⟩:=B.k i hi
  exact⟨k,by unfold Kp at h1 ⊢; rw[e1]; exact h1,h2⟩
 ·obtain⟨b,h1,h2⟩:=B.m1 i hi
  exact⟨b,by rw[e2]; exact h1,h2⟩
 ·obtain⟨⟨k,hk,e⟩,h2⟩:=B.m2 i hi
  exact⟨⟨k,by rw[e1]; exact hk,e⟩,by rw[e2]; exact h2⟩
structure Rgs (y:YR) (L:Kn) (rg:Int):Prop where
 k:Kp y rg .bell
 n:ak y.notes (Sum.inl rg)=some (.int 7)
 m:Mt y L (rg,1) (rg,0)
variable{rg:Int}
theorem Rgs.up {y y':YR}{L L':Kn} (B:Rgs y L rg) (u:Up y y') (s:∀ v ∈ L,v ∈ L'):Rgs y' L' rg:=⟨B.k.up u,u.n _ _ B.n,B.m.up u s⟩
theorem Rgs.same {y y':YR} (B:Rgs y L rg) (e1:y'.kinds=y.kinds) (e2:y'.notes=y.notes) (e3:y'.mates=y.mates):Rgs y' L rg:=by
 obtain⟨h1,h2,b,h3,h4⟩:=B
 exact⟨by unfold Kp at h1 ⊢; rw[e1]; exact h1,by rw[e2]; exact h2,b,by rw[e3]; exact h3,h4⟩
theorem Rgs.lift {y:YR}{rg n:Int} (B:Rgs y L rg) (ne:rg≠n):Rgs (dI y n) L rg:=⟨B.k.lift ne,by show ak (ax y.notes _) _=_; rw[bF (bz ne)]; exact B.n,B.m⟩
noncomputable def Eg (y:YR) (L:Kn) (rg:Int):Prop:=y.eng=.non∨∃ b,y.eng=.ref b/\pK2 (b,rg,0) ∈ L
theorem Eg.mono {y:YR}{L L':Kn} (h:Eg y L rg) (s:∀ v ∈ L,v ∈ L'):Eg y L' rg:=by
 rcases h with h | ⟨b,h1,h2⟩
 ·exact .inl h
 ·exact .inr ⟨b,h1,s _ h2⟩
structure BW (W:Wd) (s:Sd) (y:YR) (KS:List (Int×Kd)) (L:Kn):Prop where
 g:GW W s y L
 kd:y.kinds=cK KS
 ri:KS.Pairwise fun a b=>a.1<b.1
 kn:∀ p ∈ KS,0<=p.1/\p.1<y.next
 bl:∀ n v,ak y.notes (Sum.inl n)=some (.int v)->0<=v/\v<=9999
 ek:∀ k ∈ y.mates.map (·.1),∃ n e:Nat,(n:Int)<y.next/\e<3/\k=kE n e
 rg:s.rg=[]
theorem nW (ri:KS.Pairwise fun a b=>a.1<b.1):∀ {n:Int}{k:Kd},(n,k) ∈ KS->ak (cK KS) (Sum.inl n)=some (.str k.str):=by
 induction KS with
 | nil=>intro n k h; cases h
 | cons p r ih=>
  intro n k h
  obtain⟨h1,h2⟩:=List.pairwise_cons.mp ri
  rcases uz.mp h with rfl | h
  ·exact bc rfl
  ·show ak ((Sum.inl p.1,V.str p.2.str)::cK r) _=_
   rw[aW (fun c=>by have:=h1 _ h; have e:=Sum.inl.inj c; dsimp only at this; omega)]
   exact ih h2 h
theorem jm {n:Int}{v:V} (h:ak (cK KS) (Sum.inl n)=some v):∃ k,(n,k) ∈ KS/\v=.str k.str:=by
 induction KS with
 | nil=>cases h
 | cons p r ih=>
  have h:ak ((Sum.inl p.1,V.str p.2.str)::cK r) (Sum.inl n)=some v:=h
  by_cases c:p.1=n
  ·rw[bc (by rw[c])] at h
   cases h
   exact⟨p.2,by rw[<- c]; exact uk,U⟩
  ·rw[aW (fun e=>c (Sum.inl.inj e))] at h
   obtain⟨k,h1,h2⟩:=ih h
   exact⟨k,uj _ h1,h2⟩
theorem lE (KS:List (Int×Kd)) (n:Int):ax (cK KS) (Sum.inl n)=cK (KS.filter fun p=>decide (p.1≠n)):=by
 induction KS with
 | nil=>rfl
 | cons p r ih=>
  show ax ((Sum.inl p.1,V.str p.2.str)::cK r) (Sum.inl n)=_
  by_cases c:p.1=n
  ·rw[cW (by rw[c]),ih,List.filter_cons,if_neg (by simp[c])]
  ·rw[cC (fun e=>c (Sum.inl.inj e)),ih,List.filter_cons,if_pos (by simp[c])]; rfl
section
variable {W:Wd}{s:Sd}{y:YR}{KS:List (Int×Kd)}{L L':Kn}{N M R:Nat}
theorem BW.mono (B:BW W s y KS L) (h:∀ x ∈ L,x ∈ L'):BW W s y KS L':=⟨B.g.mono h,B.kd,B.ri,B.kn,B.bl,B.ek,B.rg⟩
theorem BW.lay (B:BW W s y KS L) (F:Fre y) (k:Kd) (note:Int) (hn:k=.bell->0<=note/\note<=9999) (n0:0<=y.next):∃ W' s',BW W' s' (aN y k note .non) (KS++[(y.next,k)]) L:=by
 obtain⟨r,ss',G⟩:=B.g.lay' F k note .non (fun _ c=>absurd rfl c)
 refine⟨_,_,G,?_,?_,fun p hp=>?_,fun n v hv=>?_,fun x hx=>?_,B.rg⟩
 ·show aH y.kinds (Sum.inl y.next) (.str k.str)=_
  rw[L2.putK_new _ (F y.next (Int.le_refl _)).1,B.kd]
  unfold cK
  rw[uw]; rfl
 ·rw[uP]
  refine⟨B.ri,List.pairwise_singleton _ _,fun a ha b hb=>?_⟩
  rw[uu.mp hb]
  exact(B.kn a ha).2
 ·show 0<=p.1/\p.1<y.next+1
  rcases uA.mp hp with hp | hp
  ·have:=B.kn p hp; omega
  ·rw[uu.mp hp]; dsimp only; omega
 ·have hv:ak (if k=.bell then aH y.notes (Sum.inl y.next) (.int note) else y.notes) (Sum.inl n)=some (.int v):=hv
  split at hv
  ·rename_i kb
   rw[av] at hv
   split at hv
   ·injection hv with hv; injection hv with hv; rw[<- hv]; exact hn kb
   ·exact B.bl n v hv
  ·exact B.bl n v hv
 ·obtain⟨n,e,h1,h2⟩:=B.ek x hx
  exact⟨n,e,by show(n:Int)<y.next+1; omega,h2⟩
theorem BW.link (B:BW W s y KS L) {a b:Pr} (ma:pK2 a ∈ L) (mb:pK2 b ∈ L) (fa:Fr y a.2) (fb:Fr y b.2) (ne:a.2≠b.2):∃ W',BW W' s (b6 y a b) KS L:=by
 have okE:∀ {u:Pr},Fr y u.2->∃ n e:Nat,(n:Int)<y.next/\e<3/\kE u.2.1 u.2.2=kE n e:=fun {u} f=>by
  obtain⟨⟨k,hk,e0,e1⟩,_⟩:=f
  rw[B.kd] at hk
  obtain⟨k',hm,e⟩:=jm hk
  have:=B.kn _ hm
  dsimp only at this
  have km:k.many<=3:=by cases k <;> decide
  exact⟨u.2.1.toNat,u.2.2.toNat,by omega,by omega,by rw[show((u.2.1.toNat:Nat):Int)=u.2.1 by omega,show((u.2.2.toNat:Nat):Int)=u.2.2 by omega]⟩
 refine⟨_,B.g.link ma mb fa fb ne,B.kd,B.ri,B.kn,B.bl,fun x hx=>?_,B.rg⟩
 rcases cT hx with hx | rfl
 ·rcases cT hx with hx | rfl
  ·exact B.ek x hx
  ·exact okE fa
 ·exact okE fb
theorem BW.throw (B:BW W s y KS L) (r:Nat) (x:Int) (hx:x=1∨x=2):∃ s',BW W s' { y with sides:=y.sides.set r (.int x),trail:=[] } KS L:=⟨_,B.g.throw r x hx,B.kd,B.ri,B.kn,B.bl,B.ek,B.rg⟩
theorem BW.put (B:BW W s y KS L) {z:Pr} (mz:pK2 z ∈ L) (th:bw y z.2.1 z.2.2):∃ s',BW W s' { y with eng:=.ref z.1,trail:=[] } KS L:=⟨_,B.g.put mz th,B.kd,B.ri,B.kn,B.bl,B.ek,B.rg⟩
theorem BW.trail (B:BW W s y KS L) (tr:List V):BW W s { y with trail:=tr } KS L:=⟨B.g.trail tr,B.kd,B.ri,B.kn,B.bl,B.ek,B.rg⟩
theorem BW.lift (B:BW W s y KS L) {n:Int}{k:Kd} (hk:Kp y n k) (hm:∀ e:Int,0<=e->e<k.many->ak y.mates (kE n e)=Option.none) (he:y.eng=.non):∃ W',BW W' s (dI y n) (KS.filter fun p=>decide (p.1≠n)) L:=by
 refine⟨_,B.g.lift hk hm (fun z hz=>?_),?_,B.ri.filter _,fun p hp=>B.kn p (List.mem_filter.mp hp).1,fun i v hv=>?_,B.ek,B.rg⟩
 ·have:=B.g.R.en
  rw[he,hz] at this
  cases this
 ·show ax y.kinds (Sum.inl n)=_
  rw[B.kd,lE]
 ·have hv:ak (ax y.notes (Sum.inl n)) (Sum.inl i)=some (.int v):=hv
  by_cases c:i=n
  ·rw[c,valV_drop_self] at hv; cases hv
  ·rw[bF (bz c)] at hv; exact B.bl i v hv
theorem BW.ks (B:BW W s y KS L) {p:Int×Kd} (h:p ∈ KS):W.kf p.1=some p.2:=B.g.kp (by unfold Kp; rw[B.kd]; exact nW B.ri h)
theorem BW.ki (B:BW W s y KS L) {n:Int}{k:Kd} (h:W.kf n=some k):(n,k) ∈ KS:=by
 have:=B.g.kf n
 rw[h,B.kd] at this
 obtain⟨k',h1,h2⟩:=jm this
 injection h2 with h2
 rw[Kd.str_inj h2]; exact h1
theorem BW.bln (B:BW W s y KS L) {n:Int} (h:W.kf n=some .bell):0<=W.nf n/\W.nf n<=9999:=B.bl n _ (by rw[B.g.R.no n _ h,if_pos rfl])
theorem BW.bf (B:BW W s y KS L) (hn:0<=y.next/\y.next<=20) (kl:KS.length<=30) (sl:y.sides.length<=30):BF W s KS y.next:=by
 have inK:∀ z:En,W.ok z->∃ p ∈ KS,p.1=z.2.1/\0<=z.2.2/\z.2.2<p.2.many:=fun z ⟨k,h1,h2,h3⟩=>⟨_,B.ki h1,U,h2,h3⟩
 have ssl:s.ss.length<=30:=by rw[B.g.R.sd,um] at sl; exact sl
 exact⟨B.ri,B.kn,fun p hp hb=>B.bln (by rw[B.ks hp,hb]),fun p hp=>B.g.R.rr _ _ (B.ks hp),B.g.R.s12,fun z hz=>inK z (B.g.R.eo z hz),fun n e z hz=>inK z (B.g.R.mo n e z hz),B.g.sy,by rw[B.rg]; exact fun _ h=>(nomatch h),kl,ssl,by rw[B.rg]; exact Nat.zero_le _,by omega⟩
theorem BW.yf (B:BW W s y KS L) (hn:0<=y.next/\y.next<=20) (kl:KS.length<=30) (sl:y.sides.length<=30):YFit W s KS y.next:=by
 have ssl:s.ss.length<=30:=by rw[B.g.R.sd,um] at sl; exact sl
 exact⟨by omega,fun n k hk=>by have:=B.kn _ (B.ki hk); dsimp only at this; omega,fun n k hk hb=>B.bln (by rw[hk,hb]),fun p hp=>B.ks hp,kl,ssl,by rw[B.rg]; exact Nat.zero_le _,by rw[B.rg]; exact fun _ h=>(nomatch h)⟩
theorem BW.ekk (B:BW W s y KS L) (hn:y.next<=20):EK y.mates:=fun k hk=>by
 obtain⟨n,e,h1,h2,h3⟩:=B.ek k hk
 exact⟨n,e,by omega,h2,h3⟩
end
theorem jq (ri:KS.Pairwise fun a b=>a.1<b.1) (n:Int):KS.length<=(KS.filter fun p=>decide (p.1≠n)).length+1:=by
 induction KS with
 | nil=>exact Nat.zero_le _
 | cons p r ih=>
  obtain⟨h1,h2⟩:=List.pairwise_cons.mp ri
  by_cases c:p.1=n
  ·rw[List.filter_cons,if_neg (by simp[c])]
   have e:(r.filter fun p=>decide (p.1≠n))=r:=List.filter_eq_self.mpr fun q hq=>by
    have:=h1 q hq
    simp only[ne_eq,decide_eq_true_eq]
    omega
   rw[e,uv]
   exact Nat.le_refl _
  ·rw[List.filter_cons,if_pos (by simp[c]),uv,uv]
   have:=ih h2
   omega
theorem YB.klen {C:Addr}{H:Hp}{p:Addr}{y:YR} (Y:∃ A:YA,A.p=p/\Has H (yL C A y++L)/\∃ W s,BW W s y KS L):y.kinds.length=KS.length/\KS.Pairwise fun a b=>a.1<b.1:=by
 obtain⟨_,_,_,W,s,B⟩:=Y
 refine⟨?_,B.ri⟩
 rw[B.kd]
 unfold cK
 rw[um]
theorem atD {ds:List Int}{i:Int} (h0:0<=i) (h1:i<ds.length):atI (ds.map V.int) i=some (.int (ds.getD i.toNat 0)):=by
 obtain⟨m,rfl⟩:∃ m:Nat,i=m:=⟨i.toNat,by omega⟩
 have hl:m<ds.length:=by omega
 rw[Int.toNat_natCast]
 refine aL ?_
 rw[ur,uo hl]
 simp[List.getD,uo hl]
noncomputable def YB (C:Addr) (H:Hp) (p:Addr) (y:YR) (KS:List (Int×Kd)) (L:Kn):Prop:=∃ A:YA,A.p=p/\Has H (yL C A y++L)/\∃ W s,BW W s y KS L
section
variable {C:Addr}{H:Hp}{p:Addr}{y:YR}{L:Kn}{N M R:Nat}{Q:V->Hp->Prop}{KS:List (Int×Kd)}
theorem YB.yin (Y:YB C H p y KS L):YIn C H p y L:=by
 obtain⟨A,e,h,W,s,B⟩:=Y
 exact⟨A,e,h,W,s,B.g⟩
theorem YB.at_ (Y:YB C H p y KS L) {z:Addr×HO} (m:z ∈ L):H z.1=some z.2:=Y.yin.at_ m
theorem YB.obj (Y:YB C H p y KS L):∃ A:YA,H p=some (.ins C A.dx (fl A y.next y.eng)):=Y.yin.obj
theorem YB.alloc (Y:YB C H p y KS L) {a:Addr} (n:H a=none) (o:HO):YB C (upd H a o) p y KS ((a,o)::L):=by
 obtain⟨A,e,h,W,s,G⟩:=Y
 exact⟨A,e,(h.alloc n o).perm (List.perm_middle (l₁:=yL C A y) (l₂:=L)).symm,W,s,G.mono fun x hx=>uj _ hx⟩
theorem YB.perm {L':Kn} (Y:YB C H p y KS L) (e:L.Perm L'):YB C H p y KS L':=by
 obtain⟨A,e1,h,W,s,G⟩:=Y
 exact⟨A,e1,h.perm (List.Perm.append_left _ e),W,s,G.mono fun x hx=>e.mem_iff.mp hx⟩
theorem YB.put0 {a:Addr}{xs:List V} (Y:YB C H p y KS ((a,.lst xs)::L)) (o':HO):YB C (upd H a o') p y KS ((a,o')::L):=by
 obtain⟨A,e,h,W,s,B⟩:=Y
 have G:=B.g
 refine⟨A,e,((h.perm (List.perm_middle (l₁:=yL C A y) (l₂:=L))).puti 0 U o').perm (List.perm_middle (l₁:=yL C A y) (l₂:=L)).symm,W,s,⟨G.R,⟨fun n e z hz=>?_,fun z hz=>?_⟩,G.sy,G.kf,G.fk,G.ki⟩,B.kd,B.ri,B.kn,B.bl,B.ek,B.rg⟩
 ·obtain⟨j,hj⟩:=G.P.m n e z hz
  rcases uz.mp (ut hj) with c | c
  ·injection c with _ c; cases c
  ·exact List.mem_iff_getElem?.mp (uj _ c)
 ·obtain⟨j,hj⟩:=G.P.e z hz
  rcases uz.mp (ut hj) with c | c
  ·injection c with _ c; cases c
  ·exact List.mem_iff_getElem?.mp (uj _ c)
theorem pH (Y:YB C H p y KS L) (D:Ld y N M R) (b:N<=9000/\M<=30000/\R<=1000) (k:Kd) (note:Int) (hn:k=.bell->0<=note/\note<=9999) (q:∀ H',YB C H' p (aN y k note .non) (KS++[((N:Int),k)]) L->Q (.int N) H'):sp_lay C [.ref p,.str k.str,.int note,.non] H Q E0:=by
 obtain⟨A,rfl,h,W,s,G⟩:=Y
 refine⟨A,y,L,k,note,.non,U,h,D.small b.1 b.2.1 b.2.2,hn,fun _ c=>absurd rfl c,fun H' tr h'=>?_⟩
 have:=G.lay D.fr k note hn (by rw[D.nx]; omega)
 rw[D.nx] at this ⊢
 exact q H' ⟨{ A with tr:=tr },U,h',this⟩
theorem qJ (Y:YB C H p y KS L) (D:Ld y N M R) (hM:M<=30000) {a b:Pr} (ma:pK2 a ∈ L) (mb:pK2 b ∈ L) (fa:Fr y a.2) (fb:Fr y b.2) (ne:a.2≠b.2) (q:∀ H',YB C H' p (b6 y a b) KS L->Q .non H') :
  sp_link C [.ref p,.ref a.1,.ref b.1] H Q E0:=by
 obtain⟨A,rfl,h,W,s,G⟩:=Y
 obtain⟨j1,e1⟩:=List.getElem?_of_mem ma
 obtain⟨j2,e2⟩:=List.getElem?_of_mem mb
 obtain⟨W',G'⟩:=G.link ma mb fa fb ne
 exact⟨A,y,L,a.1,b.1,a.2.1,a.2.2,b.2.1,b.2.2,j1,j2,U,h,e1,e2,fa.1,fb.1,fun c=>ne (cH c),fa.2,fb.2,Nat.le_trans D.ml hM,fun H' tr h'=>q H' ⟨{ A with tr:=tr },U,h',W',s,G'⟩⟩
theorem qV (Y:YB C H p y KS L) {r x:Int} (h0:0<=r) (h1:r<y.sides.length) (hx:x=1∨x=2) (q:∀ H',YB C H' p { y with sides:=y.sides.set r.toNat (.int x),trail:=[] } KS L->Q .non H'):sp_throw C [.ref p,.int r,.int x] H Q E0:=by
 obtain⟨A,rfl,h,W,s,G⟩:=Y
 obtain⟨s',G'⟩:=G.throw r.toNat x hx
 exact⟨A,y,L,r,x,U,h,h0,h1,hx,fun H' tr h'=>q H' ⟨{ A with tr:=tr },U,h',W,s',G'⟩⟩
theorem putB (Y:YB C H p y KS L) {z:Pr} (mz:pK2 z ∈ L) (th:bw y z.2.1 z.2.2) (q:∀ H',YB C H' p { y with eng:=.ref z.1,trail:=[] } KS L->Q .non H'):sp_put C [.ref p,.ref z.1] H Q E0:=by
 obtain⟨A,rfl,h,W,s,G⟩:=Y
 obtain⟨j,e⟩:=List.getElem?_of_mem mz
 obtain⟨s',G'⟩:=G.put mz th
 exact⟨A,y,L,z.1,z.2.1,z.2.2,j,U,h,e,th,fun H' tr h'=>q H' ⟨{ A with tr:=tr },U,h',W,s',G'⟩⟩
theorem qK (Y:YB C H p y KS L) {n:Int}{k:Kd} (hk:Kp y n k) (hm:∀ e:Int,0<=e->e<k.many->ak y.mates (kE n e)=Option.none) (he:y.eng=.non) (q:∀ H',YB C H' p (dI y n) (KS.filter fun p=>decide (p.1≠n)) L->Q .non H'):sp_lift C [.ref p,.int n] H Q E0:=by
 obtain⟨A,rfl,h,W,s,G⟩:=Y
 obtain⟨W',G'⟩:=G.lift hk hm he
 exact⟨A,y,L,n,k,U,h,hk,hm,.inl he,fun H' tr h'=>q H' ⟨{ A with tr:=tr },U,h',W',s,G'⟩⟩
end
theorem kd3 (i:Int) (h0:0<=i) (h1:i<3):∃ k:Kd,k.point=true/\atI ([V.str "lazy",.str "still",.str "turning"]:List V) i=some (.str k.str):=by
 rcases (show i=0∨i=1∨i=2 by omega) with rfl | rfl | rfl
 ·exact⟨.lazy,U,U⟩
 ·exact⟨.still,U,U⟩
 ·exact⟨.turning,U,U⟩
structure Bse (y:YR) (L:Kn) (sd:List Int) (rg:Int) (N M:Nat):Prop where
 D:Ld y N M 0
 s:y.sides=sd.map V.int
 g:y.rung=[]
 t:y.trail=[]
 b:BI y L sd.length
 r:Rgs y L rg
 e:Eg y L rg
 nk:N<=y.kinds.length+2
variable{sd:List Int}
theorem Bse.mono {y:YR}{L L':Kn}{N M:Nat} (B:Bse y L sd rg N M) (h:∀ x ∈ L,x ∈ L'):Bse y L' sd rg N M:=⟨B.D,B.s,B.g,B.t,B.b.mono h,B.r.up (Up.refl _) h,B.e.mono h,B.nk⟩
theorem Bse.trail {y:YR}{N M:Nat} (B:Bse y L sd rg N M):Bse { y with trail:=[] } L sd rg N M :=
 ⟨⟨B.D.nx,B.D.kl,B.D.fr,B.D.mt,B.D.nl,B.D.rl,B.D.sl,B.D.ml,B.D.g,Nat.zero_le _⟩,B.s,B.g,U,B.b.same rfl rfl,B.r.same rfl rfl rfl,B.e,B.nk⟩
theorem m7 {y y2:YR}{L N2 X Z:Kn}{N M:Nat}{H H2:Hp} (BB:BW W s y KS L) (B:Bse y L sd rg N M) (h:Has H (Z++L)) (h2:Has H2 (X++N2)) (hN:N<=6) (kl:KS.length<=6) (sl:sd.length<=3)
  (Y:Yi W s KS y.next s.ss.length KS.length (lkR W KS).length (enR s).length (rgR s).length y2 N2) (ny:y2.next=y.next):(∃ W' s',GW W' s' y2 N2)/\Bse y2 N2 sd rg N 40:=by
 have wy:=BB.g.wy h
 have nx:=B.D.nx
 have ysl:y.sides.length<=30:=by rw[B.s,um]; omega
 have bf:=BB.bf (by omega) (by omega) ysl
 obtain⟨s',R',P',SW,SS⟩:=Yi.rep h2 BB.g.R (fun n k hk=>BB.ki hk) bf Y
 have take:KS.take KS.length=KS:=List.take_length
 have kv:=Y.kv
 rw[take] at kv
 have kp:∀ {n:Int}{k:Kd},Kp y n k->(n,k) ∈ KS:=fun hk=>BB.ki (BB.g.kp hk)
 have Kp2:∀ {n:Int}{k:Kd},Kp y n k->Kp y2 n k:=fun hk=>kv _ (kp hk)
 have fr:=Y.fr
 rw[take] at fr
 have fr2:∀ {n:Int},(ak y.kinds (Sum.inl n)=none)->ak y2.kinds (Sum.inl n)=none/\ak y2.notes (Sum.inl n)=none/\ak y2.rods (Sum.inl n)=none:=fun {n} hn=>fr n fun q hq c=>by
  have:=BB.ks hq
  rw[c,BB.g.kfn hn] at this
  cases this
 have mt2:∀ {x z:Int×Int},Mt y L x z->Mt y2 N2 x z:=fun {x z} m=>by
  obtain⟨a,ha⟩:=wy.m _ _ m
  obtain⟨b,h1,h3⟩:=(Y.mate bf x.1 x.2).1 _ ha
  exact⟨b,h1,h3⟩
 have mn2:∀ {n e:Int},ak y.mates (kE n e)=none->ak y2.mates (kE n e)=none:=fun {n e} hn=>by
  refine(Y.mate bf n e).2 ?_
  have:=BB.g.R.mt n e
  rw[hn] at this
  cases hm:W.mf n e with
  | none=>rfl
  | some z=>rw[hm] at this; cases this
 have fr3:∀ {x:Int×Int},Fr y x->Fr y2 x:=fun f=>by
  obtain⟨⟨k,hk,e⟩,hm⟩:=f
  exact⟨⟨k,Kp2 hk,e⟩,mn2 hm⟩
 have sy2:Wsym (WN W N2 y2).mf:=fun n e z hz=>by
  rcases gW (SW.m n e) with ⟨_,h3⟩ | ⟨u,v,h3,h4,h5⟩
  ·rw[h3] at hz; cases hz
  ·rw[h4] at hz
   cases hz
   obtain⟨q1,z',q2,q3⟩:=BB.g.sy n e u h3
   rw[h5] at q1 q2
   refine⟨q1,?_⟩
   rcases gW (SW.m z.2.1 z.2.2) with ⟨h6,_⟩ | ⟨u',v',h6,h7,h8⟩
   ·rw[h6] at q2; cases q2
   ·rw[h6] at q2
    cases q2
    exact⟨v',h7,by rw[<- h8]; exact q3⟩
 have ll:=iD W KS
 have yml:=Y.ml
 have kd2:y2.kinds=cK KS:=by rw[Y.kd,take]
 refine⟨⟨WN W N2 y2,s',R',P',sy2,fun n=>?_,fun n hn=>?_,by rw[kd2,<- BB.kd]; exact BB.g.ki⟩,⟨by rw[ny]; exact nx,?_,fun n hn=>?_,fun n e hn=>mn2 (B.D.mt n e hn),?_,?_,?_,by omega,?_,by rw[Y.tl]; exact Nat.zero_le _⟩,?_,?_,Y.tl,⟨fun i hi=>?_,fun i hi=>mt2 (B.b.m1 i hi),fun i hi=>fr3 (B.b.m2 i hi)⟩,⟨Kp2 B.r.k,?_,mt2 B.r.m⟩,?_,by rw[kd2,<- BB.kd]; exact B.nk⟩
 ·rw[kd2,<- BB.kd]
  exact BB.g.kf n
 ·have:=fr2 (n:=n) (by rw[BB.g.kf n,show W.kf n=none from hn]; rfl)
  exact this.2
 ·rw[kd2]
  unfold cK
  rw[um]
  have:=B.D.kl
  rw[BB.kd] at this
  unfold cK at this
  rw[um] at this
  exact this
 ·rw[ny] at hn
  exact fr2 (B.D.fr n hn).1
 ·have:=Y.nl
  have h0:=B.D.kl
  rw[BB.kd] at h0
  unfold cK at h0
  rw[um] at h0
  omega
 ·have:=Y.rl
  have h0:=B.D.kl
  rw[BB.kd] at h0
  unfold cK at h0
  rw[um] at h0
  omega
 ·rw[Y.sd,List.take_length,<- BB.g.R.sd]
  exact B.D.sl
 ·rcases Y.rg with ⟨_,e⟩ | ⟨_,e⟩
  ·rw[e]; exact Nat.zero_le _
  ·rw[e,BB.rg]; exact Nat.zero_le _
 ·rw[Y.sd,List.take_length,<- BB.g.R.sd]
  exact B.s
 ·rcases Y.rg with ⟨_,e⟩ | ⟨_,e⟩
  ·exact e
  ·rw[e,BB.rg]; rfl
 ·obtain⟨k,h3,h4⟩:=B.b.k i hi
  exact⟨k,Kp2 h3,h4⟩
 ·have hk:=kp B.r.k
  have:=Y.no _ (by rw[take]; exact hk)
  rw[if_pos rfl] at this
  rw[this,wy.n _ _ B.r.n]
 ·have en:=BB.g.R.en
  rcases B.e with e | ⟨b,e,mb⟩
  ·rw[e] at en
   rcases Y.en with ⟨_,e2⟩ | ⟨_,z,c,e2,_⟩
   ·exact .inl e2
   ·rw[e2] at en; cases en
  ·rw[e] at en
   rcases Y.en with ⟨h3,e2⟩ | ⟨_,z,c,e2,e3,e4⟩
   ·exact .inl e2
   ·rw[e2] at en
    injection en with en
    obtain⟨j,hj⟩:=BB.g.P.e _ e2
    have a1:=h.at_ _ (ul Z (ut hj))
    have a2:=h.at_ _ (ul Z mb)
    dsimp only at a1 a2
    rw[<- en,a2] at a1
    have e5:=jF (Option.some.inj a1)
    refine .inr ⟨c,e3,?_⟩
    have e6:z.2=(rg,0):=e5.symm
    rw[e6] at e4
    exact e4
section
variable {C Cs:Addr}{H:Hp}{p:Addr}{y:YR}{L:Kn}{Q:V->Hp->Prop}{KS:List (Int×Kd)}
theorem twinB (Y:YB C H p y KS L) (hn:y.next<=20) (q:∀ H' p' Nw,YB C H' p' { y with trail:=[] } KS (Nw++L)->Q (.ref p') H'):sp_make_twin C [.ref p] H Q E0:=by
 obtain⟨A,rfl,h,W,s,B⟩:=Y
 exact⟨A,y,L,U,h,B.ekk hn,fun H' A2 h'=>q H' A2.p (yL C A y) ⟨A2,U,h',W,s,(B.trail []).mono fun x hx=>ul _ hx⟩⟩
theorem readB {N M:Nat} (Y:YB C H p y KS L) (B:Bse y L sd rg N M) (hN:N<=6) (hM:M<=100) (kl:KS.length<=6) (sl:sd.length<=3) (q:∀ H' p' y' Nw,Bse y' (Nw++L) sd rg N 40->YIn C H' p' y' (Nw++L)->Q (.ref p') H') :
  sp_wy C [.ref p] H (fun v H'=>sp_ry C [v] H' Q E0) E0:=by
 obtain⟨A,rfl,h,W,s,BB⟩:=Y
 have nx:=B.D.nx
 have ysl:y.sides.length<=30:=by rw[B.s,um]; omega
 refine⟨A,y,L,W,s,KS,U,h,BB.g.R,BB.g.P,B.D.small (by omega) (by omega) (by omega),BB.yf (by omega) (by omega) ysl,BB.kd,fun H1 h1=>?_⟩
 refine⟨W,s,KS,y.next,yL C A y++L,U,h1,BB.bf (by omega) (by omega) ysl,fun H' A2 y2 N2 h2 Y2 ny=>?_⟩
 have h3:Has H' (yL C A2 y2++N2):=Has.sub h2 (List.Sublist.append (List.Sublist.refl _) (List.sublist_append_left _ _))
 obtain⟨⟨W',s',G'⟩,B'⟩:=m7 BB B h h3 hN kl sl Y2 ny
 rw[<- uJ N2] at h2
 have up:∀ x ∈ N2,x ∈ (N2++yL C A y)++L:=fun x hx=>uC _ (uC _ hx)
 exact q H' A2.p y2 (N2++yL C A y) (B'.mono up) ⟨A2,U,h2,W',s',G'.mono up⟩
end
inductive sp_base (C:Addr) (vs:List V) (H:Hp) (Q:VK) (E_:XK):Prop
 | mk (d:Addr) (ds:List Int) (a:Nat) (L:Kn) (_:vs=[.ref d,.int a]) (_:Has H L) (_:(d,HO.lst (ds.map V.int)) ∈ L) (_:a+8<=ds.length) (_:∀ H' p y Nw tp sa (sd:List Int) (rg:Int) (N M:Nat),Bse y (Nw++L) sd rg N M->N<=6->M<=40->sd.length<=3->(∀ x ∈ sd,x=1∨x=2)->(sd.length:Int)<=rg->YIn C H' p y ((tp,.tup [.ref p,.ref sa])::(sa,.lst (sd.map V.int))::(Nw++L))->Q (.ref tp) H'):sp_base C vs H Q E_
inductive bse1Inv (C_:Addr) (d:Addr) (p:Addr) (sa:Addr) (a:Nat) (L:Kn) (i:Nat) (σ':St) (H':Hp):Prop
 | mk (y:YR) (Nw:Kn) (sd:List Int) (KS:List (Int×Kd)) (o4:Option V) (_:σ'=[some (.ref d),some (.int a),some (.ref p),some (.ref sa),o4,none,none,none]) (_:sd.length=i) (_:(∀ x ∈ sd,x=1∨x=2)) (_:y.sides=sd.map V.int) (_:y.mates=[]) (_:y.eng=.non) (_:y.rung=[]) (_:y.trail=[]) (_:Ld y i 0 0) (_:(∀ j:Nat,j<i->∃ k:Kd,Kp y j k/\k.point=true)) (_:KS.length=i) (_:YB C_ H' p y KS ((sa,.lst (sd.map V.int))::(Nw++L))):bse1Inv C_ d p sa a L i σ' H'
inductive bse2Inv (C_:Addr) (d:Addr) (p:Addr) (sa:Addr) (a:Nat) (m:Nat) (L1:Kn) (sd:List Int) (KS:List (Int×Kd)) (i:Nat) (σ':St) (H':Hp):Prop
 | mk (y:YR) (Nw:Kn) (o4:Option V) (_:σ'=[some (.ref d),some (.int a),some (.ref p),some (.ref sa),o4,none,none,none]) (_:y.sides=sd.map V.int) (_:y.eng=.non) (_:y.rung=[]) (_:y.trail=[]) (_:Ld y m (2*i) 0) (_:(∀ j:Nat,j<m->∃ k:Kd,Kp y j k/\k.point=true)) (_:(∀ j:Nat,j<i->Mt y (Nw++L1) ((j:Int),1) ((j:Int)+1,0))) (_:(∀ j:Nat,j<m->Fr y ((j:Int),2))) (_:(∀ j:Nat,i<=j->j<m->Fr y ((j:Int),1))) (_:(∀ j:Nat,i<j->j<m->Fr y ((j:Int),0))) (_:YB C_ H' p y KS (Nw++L1)):bse2Inv C_ d p sa a m L1 sd KS i σ' H'
inductive bse3Inv (C_:Addr) (d:Addr) (p:Addr) (sa:Addr) (a:Nat) (m:Nat) (L2:Kn) (sd:List Int) (rg:Int) (o4:Option V) (σ':St) (H':Hp):Prop
 | mk (y:YR) (KS':List (Int×Kd)) (_:σ'=[some (.ref d),some (.int a),some (.ref p),some (.ref sa),o4,some (.int m),some (.int rg),none]) (_:y.sides=sd.map V.int) (_:y.eng=.non) (_:y.rung=[]) (_:y.trail=[]) (_:Ld y (m+1+1) 10 0) (_:BI y L2 m) (_:Kp y rg .bell) (_:Fr y (rg,0)) (_:Fr y (rg,1)) (_:ak y.notes (Sum.inl rg)=some (.int 7)) (_:KS'.length<=5) (_:m+2<=KS'.length+1) (_:YB C_ H' p y KS' L2):bse3Inv C_ d p sa a m L2 sd rg o4 σ' H'
inductive bse4Inv (C_:Addr) (d:Addr) (p:Addr) (sa:Addr) (a:Nat) (m:Nat) (L3:Kn) (sd:List Int) (rg:Int) (o4:Option V) (σ':St) (H':Hp):Prop
 | mk (y:YR) (KS':List (Int×Kd)) (N:Nat) (_:σ'=[some (.ref d),some (.int a),some (.ref p),some (.ref sa),o4,some (.int m),some (.int rg),none]) (_:y.sides=sd.map V.int) (_:y.eng=.non) (_:y.rung=[]) (_:y.trail=[]) (_:Ld y N 12 0) (_:N<=6) (_:BI y L3 m) (_:Rgs y L3 rg) (_:bw y rg 0) (_:KS'.length<=6) (_:N<=KS'.length+2) (_:YB C_ H' p y KS' L3):bse4Inv C_ d p sa a m L3 sd rg o4 σ' H'
inductive bse5Inv (C_:Addr) (d:Addr) (p:Addr) (sa:Addr) (a:Nat) (m:Nat) (L3:Kn) (sd:List Int) (KS':List (Int×Kd)) (rg:Int) (o4:Option V) (N:Nat) (σ':St) (H':Hp):Prop
 | mk (y:YR) (Nw:Kn) (_:σ'=[some (.ref d),some (.int a),some (.ref p),some (.ref sa),o4,some (.int m),some (.int rg),none]) (_:y.sides=sd.map V.int) (_:y.rung=[]) (_:y.trail=[]) (_:Ld y N 12 0) (_:BI y (Nw++L3) m) (_:Rgs y (Nw++L3) rg) (_:Eg y (Nw++L3) rg) (_:YB C_ H' p y KS' (Nw++L3)):bse5Inv C_ d p sa a m L3 sd KS' rg o4 N σ' H'
inductive bse6Inv (C_:Addr) (d:Addr) (sa:Addr) (a:Nat) (m:Nat) (L4:Kn) (sd:List Int) (KS':List (Int×Kd)) (rg:Int) (o4:Option V) (N:Nat) (σ':St) (H':Hp):Prop
 | mk (p':Addr) (y:YR) (Nw:Kn) (_:σ'=[some (.ref d),some (.int a),some (.ref p'),some (.ref sa),o4,some (.int m),some (.int rg),none]) (_:Bse y (Nw++L4) sd rg N 40) (_:YB C_ H' p' y KS' (Nw++L4)):bse6Inv C_ d sa a m L4 sd KS' rg o4 N σ' H'
inductive bse7Inv (C_:Addr) (d:Addr) (sa:Addr) (a:Nat) (m:Nat) (L4:Kn) (sd:List Int) (KS':List (Int×Kd)) (rg:Int) (v:Int) (o4:Option V) (N:Nat) (σ':St) (H':Hp):Prop
 | mk (p':Addr) (y:YR) (Nw:Kn) (_:σ'=[some (.ref d),some (.int a),some (.ref p'),some (.ref sa),o4,some (.int m),some (.int rg),none]) (_:Bse y (Nw++L4) sd rg N 40) (_:YIn C_ H' p' y (Nw++L4)) (_:(v≠2->YB C_ H' p' y KS' (Nw++L4))):bse7Inv C_ d sa a m L4 sd KS' rg v o4 N σ' H'
inductive bse8Inv (C_:Addr) (d:Addr) (sa:Addr) (a:Nat) (m:Nat) (L4:Kn) (sd:List Int) (rg:Int) (o4:Option V) (N:Nat) (σ':St) (H':Hp):Prop
 | mk (p':Addr) (y:YR) (Nw:Kn) (o7:Option V) (_:σ'=[some (.ref d),some (.int a),some (.ref p'),some (.ref sa),o4,some (.int m),some (.int rg),o7]) (_:Bse y (Nw++L4) sd rg N 40) (_:YIn C_ H' p' y (Nw++L4)):bse8Inv C_ d sa a m L4 sd rg o4 N σ' H'
section
variable {P:Program}{w:World}{K:PySem.W.Frag}{mg:Str->Option Value}{base:Heap}{t:Adr}
theorem scBs:FnScope ["_law_d","_law_at","_law_yard","_law_sides","_law_turn","_law_gap","_law_ring","_law_shelf"] ["_law_d","_law_at"] (ah mV):={}
theorem pB (T:Txt K mg t):FnOk P w K mg base CX0 11 t.f_base t.d_base ["_law_d","_law_at"] (sp_base t.c_Yard):=by
 obtain⟨_,hd_Ja1_2,hb_Ja1_2⟩:=cY T
 obtain⟨_,hd_Ja1_3,hb_Ja1_3⟩:=oN T
 refine T.F_base.ok scBs (fun vs H Q E h=>?_) (fun cdv A outer s H vs Q E hr h=>?_)
 ·obtain⟨_,_,_,_,rfl,_⟩:=h
  rfl
 ·obtain⟨d,ds,a,L,rfl,hH,md,ha,q⟩:=h
  refine⟨_,(ac (aD (i:=2) scBs.nd rfl (Or.inl rfl) (d5 T.mk_Yard (nG T) (hr.mono (by decide)) (by rfl) T.m_Yard (sI T) .nil ap))
   (ac (aD (i:=3) scBs.nd rfl (Or.inl rfl) (bb ae))
   (ac (bD PassesOwn.never rfl (bG (by rfl) T.z_range (aa (az aT (aF ar (pv 0) (pv 1)) ag) ae)) (aw (i:=4) scBs.nd rfl (Or.inl rfl))
    (ac (al (ao (pv 2) T.cl_Yard T.M_Ja1 (cG T) hr hb_Ja1_2 hd_Ja1_2 ap (aa (aF ar (bb (aa aJ (aa aJ (aa aJ ae)))) (az aT (aF ar (pv 0) (az bh (az bh (pv 1) ag) (pv 4)) (fun _ _=>rfl)) ag)) ae)))
     (ac (al (bV PySem.F.plainAttrs_list PySem.F.slot_list_append PySem.F.type_list_append aZ (pv 3) (aa (az bh ag (az aT (aF ar (pv 0) (az bh (az bh (pv 1) ag) (pv 4))) ag)) ae)))
     (af (al (ao (pv 2) T.cl_Yard T.M_Jr (nH T) hr (sJ T) .nil ap (aa (pv 4) (aa (aF ar (pv 3) (pv 4)) ae))))))))
   (ac (bD PassesOwn.never rfl (bG (by rfl) T.z_range (aa (az cR (az aT (aF ar (pv 0) (pv 1)) ag) ag) ae)) (aw (i:=4) scBs.nd rfl (Or.inl rfl))
    (af (al (ao (pv 2) T.cl_Yard T.M_J11 (dO T) hr (gF T) .nil ap (@aa _ _ _ _ _ (aI (aa (pv 4) (aa ag ae))) (@aa _ _ _ _ _ (aI (aa (az bh (pv 4) ag) (aa ag ae))) ae (by rfl)) (by rfl))))))
   (ac (aD (i:=5) scBs.nd rfl (Or.inl rfl) (ao (pv 2) T.cl_Yard T.M_Ja1 (cG T) hr hb_Ja1_2 hd_Ja1_2 ap (aa aJ ae)))
   (ac (aD (i:=6) scBs.nd rfl (Or.inl rfl) (ao (pv 2) T.cl_Yard T.M_Ja1 (cG T) hr hb_Ja1_3 hd_Ja1_3 ap (aa aJ (aa ag ae))))
   (ac (cf (aA (ai bq (az aT (az bW (aF ar (pv 0) (az bh (pv 1) ag)) ag) ag) ag (am _))
    (af (al (ao (pv 2) T.cl_Yard T.M_J21 (nL T) hr (qR T) .nil ap (aa (pv 5) ae))))
    aj))
   (ac (al (ao (pv 2) T.cl_Yard T.M_J11 (dO T) hr (gF T) .nil ap (@aa _ _ _ _ _ (aI (aa (pv 6) (aa ag ae))) (@aa _ _ _ _ _ (aI (aa (pv 6) (aa ag ae))) ae (by rfl)) (by rfl))))
   (ac (cf (aA (ai bq (az aT (az bW (aF ar (pv 0) (az bh (pv 1) ag)) ag) ag) ag (am _))
    (af (al (ao (pv 2) T.cl_Yard T.M_J21 (nL T) hr (qR T) .nil ap (aa (ao (pv 2) T.cl_Yard T.M_Ja1 (cG T) hr hb_Ja1_2 hd_Ja1_2 ap (aa aJ ae)) ae))))
    aj))
   (ac (cf (aA (ai dG (az aT (aF ar (pv 0) (az bh (pv 1) ag)) ag) ag (am _))
    (af (al (ao (pv 2) T.cl_Yard T.M_Jb1 (f7 T) hr (jD T) .nil ap (@aa _ _ _ _ _ (aI (aa (pv 6) (aa ag ae))) ae (by rfl)))))
    aj))
   (ac (cf (aA (ai bq (az aT (az bW (aF ar (pv 0) (az bh (pv 1) ag)) ag) ag) ag (am _))
    (af (aD (i:=2) scBs.nd rfl (Or.inl rfl) (pcl (iy T) hr T.m_twin T.F_twin.kp (jX T) (aa (pv 2) ae))))
    aj))
   (ac (cf (aA (ai bq (az aT (az bW (aF ar (pv 0) (az bh (pv 1) ag)) ag) ag) ag (am _))
    (af (aD (i:=2) scBs.nd rfl (Or.inl rfl) (pcl (ok_Jv T) hr T.m_Jv T.F_Jv.kp (b_Jv T) (aa (pcl (ok_Ji T) hr T.m_Ji T.F_Ji.kp (b_Ji T) (aa (pv 2) ae)) ae))))
    aj))
   (ac (cf (aA (ai bq (az aT (az bW (aF ar (pv 0) (az bh (pv 1) ag)) ag) ag) ag (am _))
    (ac (aD (i:=7) scBs.nd rfl (Or.inl rfl) (d5 T.mk_Shelf (ok_Jp T) (hr.mono (by decide)) (by rfl) T.m_Shelf (b_Jp T) .nil ap))
     (af (aD (i:=2) scBs.nd rfl (Or.inl rfl) (ao (pv 7) T.cl_Shelf T.M_Jf (ok_Jf T) hr (b_Jf T) .nil ap (aa (ao (pv 7) T.cl_Shelf T.M_Js (ok_Js T) hr (b_Js T) .nil ap (aa (pv 2) ae)) ae)))))
    aj))
   (af (aq (aI (aa (pv 2) (aa (pv 3) ae)))))))))))))))))),?_⟩
  rw[show L2.start ["_law_d","_law_at","_law_yard","_law_sides","_law_turn","_law_gap","_law_ring","_law_shelf"] [V.ref d,V.int a]=([some (V.ref d),some (V.int a),none,none,none,none,none,none]:St) from rfl]
  intro p dx hp hdx ne
  refine⟨p,dx,_,U,(hH.alloc hdx (.own p)).alloc (by rw[aM (Ne.symm ne)]; exact hp) (.ins t.c_Yard dx []),fun H1 A1 e1 h1=>⟨U,?_⟩⟩
  subst e1
  dsimp only[List.set]
  have B0:YB t.c_Yard H1 A1.p y0 [] L:=⟨A1,U,h1,w0,⟨[],none,[]⟩,⟨Rep.nil,⟨(fun _ _ _ h=>nomatch h),(fun _ h=>nomatch h)⟩,(fun _ _ _ h=>nomatch h),fun _=>rfl,fun _ _=>⟨U,U⟩,(fun _ h=>nomatch h)⟩,U,.nil,(fun _ h=>nomatch h),(fun _ _ h=>nomatch h),(fun _ h=>nomatch h),U⟩
  clear h1
  obtain⟨p,ep⟩:∃ p,A1.p=p:=⟨_,U⟩
  rw[ep] at B0 ⊢
  clear ep
  refine⟨by decide,fun sa hsa=>?_⟩
  have B1:=B0.alloc hsa (.lst [])
  generalize upd H1 sa _=H2 at B1 ⊢
  clear B0
  dsimp only[List.set]
  have gd:∀ {i:Int},0<=i->i<=a+7->atI (ds.map V.int) i=some (.int (ds.getD i.toNat 0)):=fun h0 h1=>atD h0 (by omega)
  obtain⟨m,hm,m3⟩:∃ m:Nat,ds.getD (a:Int).toNat 0 % 4=m/\m<=3:=⟨(ds.getD (a:Int).toNat 0 % 4).toNat,by omega,by omega⟩
  refine⟨_,U,_,U,d,_,_,_,U,U,SqL.of (B1.at_ (uj _ md)),gd (by omega) (by omega),_,_,U,U,(show(0:Int)<4 by decide),_,U,by omega,by omega,bS (bse1Inv t.c_Yard d p sa a L) ⟨y0,[],[],[],none,U,U,(fun _ h=>nomatch h),U,U,U,U,U,Ld.nil,(fun _ h=>absurd h (Nat.not_lt_zero _)),U,B1⟩ ?_ ?_⟩
  ·clear B1
   rintro i σ' H3 hi ⟨y,Nw,sd,KS,o4,rfl,sl,s12,ys,ym,ye,yg,yt,D,kp,kl,B⟩
   have hi:i<m:=by omega
   dsimp only[List.set]
   rw[Int.zero_add]
   obtain⟨A2,gy⟩:=B.obj
   refine⟨_,U,p,A2.dx,_,U,gy,(aY _ _ _).1,(sz_ 3),fun la hla=>?_⟩
   have B2:=B.alloc hla (.lst [.str "lazy",.str "still",.str "turning"])
   obtain⟨k,kpt,hk⟩:=kd3 (ds.getD ((a:Int)+1+i).toNat 0 % 3) (by omega) (by omega)
   refine⟨_,U,_,U,_,_,U,U,_,U,_,_,U,U,d,_,_,_,U,U,SqL.of (B2.at_ (uj _ (uj _ (ul _ md)))),gd (by omega) (by omega),_,_,U,U,(show(0:Int)<3 by decide),la,_,_,_,U,U,SqL.of (B2.at_ uk),hk,?_⟩
   refine tn0 ?_
   refine pH B2 D ⟨by omega,by omega,by omega⟩ k 0 (fun c=>by rw[c] at kpt; cases kpt) (fun H4 B3=>?_)
   have D3:=D.lay k 0 .non
   have ys3:(aN y k 0 .non).sides=y.sides++[.int 1]:=by show(if k.point=true/\V.non=.non then y.sides++[.int 1] else y.sides)=_; rw[if_pos ⟨kpt,U⟩]
   have kp3:∀ j:Nat,j<i+1->∃ k':Kd,Kp (aN y k 0 .non) j k'/\k'.point=true:=fun j hj=>by
    by_cases c:j=i
    ·rw[c]; exact⟨k,Kp.lay D k 0 .non,kpt⟩
    ·obtain⟨k',h1,h2⟩:=kp j (by omega)
     exact⟨k',h1.up (D.up k 0 .non),h2⟩
   have ym3:(aN y k 0 .non).mates=[]:=ym
   have ye3:(aN y k 0 .non).eng=.non:=ye
   have yg3:(aN y k 0 .non).rung=[]:=yg
   obtain⟨y3,ey3⟩:∃ y3,aN y k 0 .non=y3:=⟨_,U⟩
   rw[ey3] at B3 D3 ys3 kp3 ym3 ye3 yg3
   clear ey3
   replace B3:=B3.perm (.swap _ _ _)
   dsimp only[List.set]
   obtain⟨x,hx,x12⟩:∃ x:Int,1+ds.getD ((a:Int)+4+i).toNat 0 % 2=x/\(x=1∨x=2):=⟨_,U,by omega⟩
   refine⟨_,U,.inl ⟨U,_,SqL.of (B3.at_ uk)⟩,_,U,_,U,_,_,U,U,_,U,_,_,U,U,d,_,_,_,U,U,SqL.of (B3.at_ (uj _ (uj _ (ul _ md)))),gd (by omega) (by omega),_,_,U,U,(show(0:Int)<2 by decide),_,_,U,U,?_⟩
   dsimp only
   rw[hx]
   refine⟨sa,_,_,U,U,B3.at_ uk,sizeOk (by rw[um]; omega),?_⟩
   have er:sd.map V.int++[V.int x]=(sd++[x]).map V.int:=by rw[uw]; rfl
   rw[er]
   have B4:=B3.put0 (.lst ((sd++[x]).map V.int))
   obtain⟨A4,gy4⟩:=B4.obj
   refine⟨_,U,p,A4.dx,_,U,gy4,(aY _ _ _).2.2.1,_,U,_,U,_,U,sa,_,_,_,U,U,SqL.of (B4.at_ uk),aL (j:=i) (by rw[ur,uG (by omega),sl,Nat.sub_self]; rfl),?_⟩
   refine tn0 ?_
   have s3l:y3.sides.length=i+1:=by rw[ys3,ys,uq,um,sl]; rfl
   refine qV B4 (by omega) (by omega) x12 (fun H5 B5=>?_)
   refine⟨{ y3 with sides:=y3.sides.set (i:Int).toNat (.int x),trail:=[] },(la,.lst [.str "lazy",.str "still",.str "turning"])::Nw,sd++[x],KS++[((i:Int),k)],_,U,by rw[uq,sl]; rfl,?_,?_,ym3,ye3,yg3,U,?_,fun j hj=>kp3 j hj,by rw[uq,kl]; rfl,B5⟩
   ·intro u hu
    rcases uA.mp hu with hu | hu
    ·exact s12 u hu
    ·rw[uu.mp hu]; exact x12
   ·show y3.sides.set (i:Int).toNat (.int x)=_
    rw[ys3,ys,Int.toNat_natCast,List.set_append_right _ _ (by rw[um]; omega),um,sl,Nat.sub_self,uw]; rfl
   ·exact⟨D3.nx,D3.kl,D3.fr,D3.mt,D3.nl,D3.rl,by show(y3.sides.set _ _).length<=_; rw[List.length_set]; exact D3.sl,D3.ml,D3.g,Nat.zero_le _⟩
  ·clear B1
   rintro σ' H3 ⟨y,Nw,sd,KS,o4,rfl,sl,s12,ys,ym,ye,yg,yt,D,kp,kl,B⟩
   rw[hm,Int.toNat_natCast] at sl D kp kl
   have hmm:(m:Int) - 1=ds.getD (a:Int).toNat 0 % 4 - 1:=by rw[hm]
   obtain⟨L1,eL1,sL1⟩:∃ L1:Kn,(sa,HO.lst (sd.map V.int))::(Nw++L)=L1/\∀ x ∈ L,x ∈ L1:=⟨_,U,fun x hx=>uj _ (ul _ hx)⟩
   have msa:(sa,HO.lst (sd.map V.int)) ∈ L1:=by rw[<- eL1]; exact uk
   have fr0:∀ (j:Nat) (e:Int),j<m->0<=e->e<3->Fr y ((j:Int),e):=fun j e hj e0 e1=>by
    obtain⟨k,h1,h2⟩:=kp j hj
    exact⟨⟨k,h1,e0,by rw[Kd.many_point h2]; exact e1⟩,by rw[ym]; rfl⟩
   rw[eL1] at B
   refine⟨_,U,_,U,d,_,_,_,U,U,SqL.of (B.at_ (sL1 _ md)),gd (by omega) (by omega),_,_,U,U,(show(0:Int)<4 by decide),_,_,U,U,_,U,by omega,by omega,bS (bse2Inv t.c_Yard d p sa a m L1 sd KS)
    ⟨y,[],_,U,ys,ye,yg,yt,D,kp,(fun _ h=>absurd h (Nat.not_lt_zero _)),fun j hj=>fr0 j 2 hj (by decide) (by decide),fun j _ hj=>fr0 j 1 hj (by decide) (by decide),fun j _ hj=>fr0 j 0 hj (by decide) (by decide),B⟩ ?_ ?_⟩
   ·clear B fr0 ym kp D ys ye yg yt
    rintro i σ' H3 hi ⟨y,Nw,o4,rfl,ys,ye,yg,yt,D,kp,mts,f2,f1,f0,B⟩
    have hi:i+1<m:=by omega
    dsimp only[List.set]
    rw[Int.zero_add]
    obtain⟨A2,gy⟩:=B.obj
    refine⟨_,U,p,A2.dx,_,U,gy,(b7 _ _ _).2.2.1,_,U,(show 2<=sizeLine by decide),fun b1 hb1=>?_⟩
    have B2:=B.alloc hb1 (.tup [.int i,.int 1])
    refine⟨_,U,_,_,U,U,(show 2<=sizeLine by decide),fun b2 hb2=>?_⟩
    have B3:=B2.alloc hb2 (.tup [.int ((i:Int)+1),.int 0])
    refine tn0 ?_
    have fa:=f1 i (Nat.le_refl _) (by omega)
    have fb:Fr y ((i:Int)+1,0):=f0 (i+1) (by omega) hi
    refine qJ (a:=(b1,(i:Int),1)) (b:=(b2,(i:Int)+1,0)) B3 D (by omega) (uj _ uk) uk fa fb (fun c=>by cases c) (fun H4 B4=>?_)
    have u4:=Up.link (a:=(b1,(i:Int),1)) (b:=(b2,(i:Int)+1,0)) fa fb
    refine⟨b6 y (b1,(i:Int),1) (b2,(i:Int)+1,0),(b2,.tup [.int ((i:Int)+1),.int 0])::(b1,.tup [.int i,.int 1])::Nw,_,U,ys,ye,yg,U,D.link fa fb,fun j hj=>?_,fun j hj=>?_,fun j hj=>?_,fun j h1 h2=>?_,fun j h1 h2=>?_,B4⟩
    ·obtain⟨k,h1,h2⟩:=kp j hj
     exact⟨k,h1.up u4,h2⟩
    ·by_cases c:j=i
     ·rw[c]
      exact Mt.l1 (a:=(b1,(i:Int),1)) (b:=(b2,(i:Int)+1,0)) uk (fun c=>by cases c)
     ·exact(mts j (by omega)).up u4 fun v hv=>uj _ (uj _ hv)
    ·exact(f2 j hj).link (fun c=>by injection c with _ c; cases c) (fun c=>by injection c with _ c; cases c)
    ·exact(f1 j (by omega) h2).link (fun c=>by injection c with c _; omega) (fun c=>by injection c with _ c; cases c)
    ·exact(f0 j (by omega) h2).link (fun c=>by injection c with _ c; cases c) (fun c=>by injection c with c _; omega)
   clear B fr0 ym kp D ys ye yg yt
   rintro σ' H3 ⟨y,Nw1,o4,rfl,ys,ye,yg,yt,D,kp,mts,f2,f1,f0,B⟩
   rw[<- hmm] at D mts
   clear f1 f0
   have BI0:BI y (Nw1++L1) m:=⟨kp,fun i hi=>mts i (by omega),f2⟩
   clear mts f2 kp
   have D:Ld y m 10 0:=⟨D.nx,D.kl,D.fr,D.mt,D.nl,D.rl,D.sl,by have:=D.ml; omega,D.g,D.t⟩
   obtain⟨L2,eL2,sL2,msa⟩:∃ L2:Kn,Nw1++L1=L2/\(∀ x ∈ L,x ∈ L2)/\(sa,HO.lst (sd.map V.int)) ∈ L2:=⟨_,U,fun x hx=>ul _ (sL1 x hx),ul _ msa⟩
   rw[eL2] at B BI0
   dsimp only[List.set]
   obtain⟨A2,gy⟩:=B.obj
   refine⟨_,U,p,A2.dx,_,U,gy,(aY _ _ _).1,?_⟩
   refine tc1 ?_
   refine pH B D ⟨by omega,by omega,by omega⟩ .line 0 (fun c=>nomatch c) (fun H4 B4=>?_)
   have D4:=D.lay .line 0 .non
   have BI4:BI (aN y .line 0 .non) L2 m:=BI0.up (D.up .line 0 .non) (fun v hv=>hv) fun x hx _ _=>hx.lay D .line 0 .non
   have k4:Kp (aN y .line 0 .non) m .line:=Kp.lay D .line 0 .non
   have g40:Fr (aN y .line 0 .non) ((m:Int),0):=Fr.new D .line 0 .non (Int.le_refl _) (by decide)
   have g41:Fr (aN y .line 0 .non) ((m:Int),1):=Fr.new D .line 0 .non (by decide) (by decide)
   have ys4:(aN y .line 0 .non).sides=sd.map V.int:=ys
   have ye4:(aN y .line 0 .non).eng=.non:=ye
   have yg4:(aN y .line 0 .non).rung=[]:=yg
   obtain⟨y4,ey4⟩:∃ y4,aN y .line 0 .non=y4:=⟨_,U⟩
   rw[ey4] at B4 D4 BI4 k4 g40 g41 ys4 ye4 yg4
   clear ey4 B BI0 D ys ye yg yt gy
   dsimp only[List.set]
   obtain⟨A2,gy⟩:=B4.obj
   refine⟨_,U,p,A2.dx,_,U,gy,(aY _ _ _).1,?_⟩
   refine pH B4 D4 ⟨by omega,by omega,by omega⟩ .bell 7 (fun _=>by decide) (fun H5 B5=>?_)
   have D5:=D4.lay .bell 7 .non
   have BI5:BI (aN y4 .bell 7 .non) L2 m:=BI4.up (D4.up .bell 7 .non) (fun v hv=>hv) fun x hx _ _=>hx.lay D4 .bell 7 .non
   have k5:Kp (aN y4 .bell 7 .non) m .line:=k4.up (D4.up .bell 7 .non)
   have g50:=g40.lay D4 .bell 7 .non
   have g51:=g41.lay D4 .bell 7 .non
   have r5:Kp (aN y4 .bell 7 .non) ((m+1:Nat):Int) .bell:=Kp.lay D4 .bell 7 .non
   have r50:Fr (aN y4 .bell 7 .non) (((m+1:Nat):Int),0):=Fr.new D4 .bell 7 .non (Int.le_refl _) (by decide)
   have r51:Fr (aN y4 .bell 7 .non) (((m+1:Nat):Int),1):=Fr.new D4 .bell 7 .non (by decide) (by decide)
   have rn5:ak (aN y4 .bell 7 .non).notes (Sum.inl ((m+1:Nat):Int))=some (.int 7):=by
    show ak (aH y4.notes (Sum.inl y4.next) (.int 7)) _=_
    rw[av,if_pos (by rw[D4.nx])]
   have ys5:(aN y4 .bell 7 .non).sides=sd.map V.int:=ys4
   have ye5:(aN y4 .bell 7 .non).eng=.non:=ye4
   have yg5:(aN y4 .bell 7 .non).rung=[]:=yg4
   obtain⟨y5,ey5⟩:∃ y5,aN y4 .bell 7 .non=y5:=⟨_,U⟩
   rw[ey5] at B5 D5 BI5 k5 g50 g51 r5 r50 r51 rn5 ys5 ye5 yg5
   have yt5:y5.trail=[]:=by rw[<- ey5]; rfl
   obtain⟨rg,erg⟩:∃ rg:Int,((m+1:Nat):Int)=rg:=⟨_,U⟩
   rw[erg] at r5 r50 r51 rn5 ⊢
   have rgm:(m:Int)<rg/\rg<m+2:=by omega
   clear ey5 B4 BI4 D4 ys4 ye4 yg4 gy k4 g40 g41
   dsimp only[List.set]
   refine⟨(bse3Inv t.c_Yard d p sa a m L2 sd rg o4),?_,?_⟩
   ·refine⟨_,U,_,U,_,_,U,U,d,_,_,_,U,U,SqL.of (B5.at_ (sL2 _ md)),gd (by omega) (by omega),_,_,U,U,⟨by decide,by decide⟩,_,_,U,U,(show(0:Int)<2 by decide),U,_,U,if2 (fun _=>?_) (fun _=>?_)⟩
    ·obtain⟨A2,gy⟩:=B5.obj
     refine⟨_,U,p,A2.dx,_,U,gy,qN _ _ _,_,U,?_⟩
     refine tn0 ?_
     refine qK B5 k5 (fun e e0 e1=>?_) ye5 (fun H6 B6=>?_)
     ·rcases (show e=0∨e=1 by have:Kd.line.many=2:=rfl; omega) with rfl | rfl
      ·exact g50.2
      ·exact g51.2
     ·exact⟨dI y5 m,_,U,ys5,ye5,yg5,U,D5.lift _,BI5.lift (Int.le_refl _),r5.lift (by omega),r50.lift (by show rg≠m; omega),r51.lift (by show rg≠m; omega),by show ak (ax y5.notes _) _=_; rw[bF (bz (by omega))]; exact rn5,Nat.le_trans (List.length_filter_le _ (KS++[((m:Int),Kd.line)]++[(((m+1:Nat):Int),Kd.bell)])) (by simp only[uq,uB]; omega),by have:=jq (YB.klen B5).2 m; simp only[uq,uB] at this; omega,B6⟩
    ·exact⟨y5,_,U,ys5,ye5,yg5,yt5,D5,BI5,r5,r50,r51,rn5,by simp only[uq,uB]; omega,by simp only[uq,uB]; omega,B5⟩
   clear B5 BI5 D5 ys5 ye5 yg5 yt5 k5 g50 g51 r5 r50 r51 rn5
   rintro σ' H6 ⟨y,KS',rfl,ys,ye,yg,yt,D,BI0,rk,r0,r1,rn,kl',kg',B⟩
   obtain⟨A2,gy⟩:=B.obj
   refine⟨_,U,p,A2.dx,_,U,gy,(b7 _ _ _).2.2.1,_,U,(show 2<=sizeLine by decide),fun b1 hb1=>?_⟩
   have B2:=B.alloc hb1 (.tup [.int rg,.int 0])
   refine⟨_,U,(show 2<=sizeLine by decide),fun b2 hb2=>?_⟩
   have B3:=B2.alloc hb2 (.tup [.int rg,.int 1])
   refine tn0 ?_
   refine qJ (a:=(b1,rg,0)) (b:=(b2,rg,1)) B3 D (by omega) (uj _ uk) uk r0 r1 (fun c=>by cases c) (fun H7 B7=>?_)
   have u7:=Up.link (a:=(b1,rg,0)) (b:=(b2,rg,1)) r0 r1
   have D7:=D.link (a:=(b1,rg,0)) (b:=(b2,rg,1)) r0 r1
   obtain⟨L3,eL3,sL3,mb1⟩:∃ L3:Kn,(b2,HO.tup [.int rg,.int 1])::(b1,.tup [.int rg,.int 0])::L2=L3/\(∀ x ∈ L2,x ∈ L3)/\pK2 (b1,rg,0) ∈ L3:=⟨_,U,fun x hx=>uj _ (uj _ hx),uj _ uk⟩
   have BI7:BI (b6 y (b1,rg,0) (b2,rg,1)) L3 m:=BI0.up u7 sL3 fun x hx h1 h2=>hx.link (fun c=>by rw[c] at h1; cases h1) (fun c=>by rw[c] at h1; cases h1)
   have R7:Rgs (b6 y (b1,rg,0) (b2,rg,1)) L3 rg:=⟨rk.up u7,u7.n _ _ rn,Mt.l2 (a:=(b1,rg,0)) (b:=(b2,rg,1)) mb1⟩
   have t7:bw (b6 y (b1,rg,0) (b2,rg,1)) rg 0:=r0.1
   have ys7:(b6 y (b1,rg,0) (b2,rg,1)).sides=sd.map V.int:=ys
   have ye7:(b6 y (b1,rg,0) (b2,rg,1)).eng=.non:=ye
   have yg7:(b6 y (b1,rg,0) (b2,rg,1)).rung=[]:=yg
   have yt7:(b6 y (b1,rg,0) (b2,rg,1)).trail=[]:=rfl
   obtain⟨y7,ey7⟩:∃ y7,b6 y (b1,rg,0) (b2,rg,1)=y7:=⟨_,U⟩
   rw[ey7] at B7 D7 BI7 R7 t7 ys7 ye7 yg7 yt7
   rw[eL3] at B7
   clear ey7 B B2 B3 BI0 D ys ye yg yt gy rk r0 r1 rn u7 hb1 hb2 A2
   refine⟨(bse4Inv t.c_Yard d p sa a m L3 sd rg o4),?_,?_⟩
   ·refine⟨_,U,_,U,_,_,U,U,d,_,_,_,U,U,SqL.of (B7.at_ (sL3 _ (sL2 _ md))),gd (by omega) (by omega),_,_,U,U,⟨by decide,by decide⟩,_,_,U,U,(show(0:Int)<2 by decide),U,_,U,if2 (fun _=>?_) (fun _=>?_)⟩
    ·obtain⟨A2,gy⟩:=B7.obj
     refine⟨_,U,p,A2.dx,_,U,gy,qN _ _ _,_,U,p,A2.dx,_,U,gy,(aY _ _ _).1,?_⟩
     refine tc1 ?_
     refine pH B7 D7 ⟨by omega,by omega,by omega⟩ .stop 0 (fun c=>nomatch c) (fun H8 B8=>?_)
     have D8:=D7.lay .stop 0 .non
     have BI8:BI (aN y7 .stop 0 .non) L3 m:=BI7.up (D7.up .stop 0 .non) (fun v hv=>hv) fun x hx _ _=>hx.lay D7 .stop 0 .non
     have R8:Rgs (aN y7 .stop 0 .non) L3 rg:=R7.up (D7.up .stop 0 .non) (fun v hv=>hv)
     have t8:bw (aN y7 .stop 0 .non) rg 0:=by
      obtain⟨k,hk,e⟩:=t7
      exact⟨k,(D7.up .stop 0 .non).k _ _ hk,e⟩
     have k8:Kp (aN y7 .stop 0 .non) ((m+1+1:Nat):Int) .stop:=Kp.lay D7 .stop 0 .non
     have f8:Fr (aN y7 .stop 0 .non) (((m+1+1:Nat):Int),0):=Fr.new D7 .stop 0 .non (Int.le_refl _) (by decide)
     refine tn0 ?_
     refine qK B8 k8 (fun e e0 e1=>?_) ye7 (fun H9 B9=>?_)
     ·rcases (show e=0 by have:Kd.stop.many=1:=rfl; omega) with rfl
      exact f8.2
     ·refine⟨dI (aN y7 .stop 0 .non) ((m+1+1:Nat):Int),_,_,U,ys7,ye7,yg7,U,D8.lift _,by omega,BI8.lift (by omega),R8.lift (by omega),?_,Nat.le_trans (List.length_filter_le _ (KS'++[(((m+1+1:Nat):Int),Kd.stop)])) (by simp only[uq,uB]; omega),by have:=jq (YB.klen B8).2 ((m+1+1:Nat):Int); simp only[uq,uB] at this; omega,B9⟩
      obtain⟨k,hk,e⟩:=t8
      exact⟨k,Kp.lift hk (by omega),e⟩
    ·exact⟨y7,_,_,U,ys7,ye7,yg7,yt7,D7,by omega,BI7,R7,t7,by omega,by omega,B7⟩
   clear B7 BI7 D7 R7 t7 ys7 ye7 yg7 yt7
   rintro σ' H8 ⟨y,KS',N,rfl,ys,ye,yg,yt,D,hN,BI0,R0,th,kl',kg',B⟩
   refine⟨(bse5Inv t.c_Yard d p sa a m L3 sd KS' rg o4 N),?_,?_⟩
   ·refine⟨_,U,_,U,_,_,U,U,d,_,_,_,U,U,SqL.of (B.at_ (sL3 _ (sL2 _ md))),gd (by omega) (by omega),_,_,U,U,(show(0:Int)<3 by decide),_,_,U,U,_,U,if2 (fun _=>?_) (fun _=>?_)⟩
    ·obtain⟨A2,gy⟩:=B.obj
     refine⟨_,U,p,A2.dx,_,U,gy,(bo _ _ _).1,_,U,(show 2<=sizeLine by decide),fun b3 hb3=>?_⟩
     have B2:=B.alloc hb3 (.tup [.int rg,.int 0])
     refine tn0 ?_
     refine putB (z:=(b3,rg,0)) B2 uk th (fun H9 B9=>?_)
     exact⟨{ y with eng:=.ref b3,trail:=[] },[(b3,.tup [.int rg,.int 0])],U,ys,yg,U,⟨D.nx,D.kl,D.fr,D.mt,D.nl,D.rl,D.sl,D.ml,D.g,Nat.zero_le _⟩,(BI0.mono fun v hv=>uj _ hv).same rfl rfl,(R0.up (Up.refl _) fun v hv=>uj _ hv).same rfl rfl rfl,.inr ⟨b3,U,uk⟩,B9⟩
    ·exact⟨y,[],U,ys,yg,yt,D,BI0,R0,.inl ye,B⟩
   clear B BI0 D R0 th ys ye yg yt
   rintro σ' H9 ⟨y,Nw3,rfl,ys,yg,yt,D,BI0,R0,E0',B⟩
   obtain⟨L4,eL4,sL4⟩:∃ L4:Kn,Nw3++L3=L4/\(∀ x ∈ L3,x ∈ L4):=⟨_,U,fun x hx=>ul _ hx⟩
   rw[eL4] at B BI0 R0 E0'
   rw[<- sl] at BI0 rgm
   have F0:Bse y L4 sd rg N 40:=⟨⟨D.nx,D.kl,D.fr,D.mt,D.nl,D.rl,D.sl,Nat.le_trans D.ml (by decide),D.g,D.t⟩,ys,yg,yt,BI0,R0,E0',by rw[(YB.klen B).1]; exact kg'⟩
   clear D ys yg yt BI0 R0 E0'
   have ndl:∀ {H':Hp}{p':Addr}{y':YR}{Nw:Kn},YIn t.c_Yard H' p' y' (Nw++L4)->SqL K H' d (ds.map V.int):=fun Y=>SqL.of (Y.at_ (ul _ (sL4 _ (sL3 _ (sL2 _ md)))))
   obtain⟨v,hv⟩:∃ v:Int,ds.getD ((a:Int)+7).toNat 0 / 12 % 4=v:=⟨_,U⟩
   refine⟨(bse6Inv t.c_Yard d sa a m L4 sd KS' rg o4 N),?_,?_⟩
   ·refine⟨_,U,_,U,_,_,U,U,d,_,_,_,U,U,ndl (Nw:=[]) B.yin,gd (by omega) (by omega),_,_,U,U,⟨by decide,by decide⟩,_,_,U,U,(show(0:Int)<4 by decide),U,_,U,if2 (fun _=>?_) (fun _=>?_)⟩
    ·refine⟨_,U,?_⟩
     refine tn0 ?_
     refine twinB B (by rw[F0.D.nx]; omega) (fun H10 p' Nw B10=>?_)
     exact⟨p',_,Nw,U,F0.trail.mono fun x hx=>ul _ hx,B10⟩
    ·exact⟨p,y,[],U,F0,B⟩
   clear B F0
   rintro σ' H10 ⟨p',y,Nw4,rfl,F0,B⟩
   refine⟨(bse7Inv t.c_Yard d sa a m L4 sd KS' rg v o4 N),?_,?_⟩
   ·refine⟨_,U,_,U,_,_,U,U,d,_,_,_,U,U,ndl B.yin,gd (by omega) (by omega),_,_,U,U,⟨by decide,by decide⟩,_,_,U,U,(show(0:Int)<4 by decide),U,_,U,if2 (fun c=>?_) (fun _=>?_)⟩
    ·refine⟨_,U,?_⟩
     refine tn0 ?_
     rw[dh,hv] at c
     refine readB B F0 hN (by decide) (by omega) (by omega) (fun H11 p2 y2 Nw F2 Y2=>?_)
     have e:Nw++(Nw4++L4)=(Nw++Nw4)++L4:=(uJ _ _ _).symm
     rw[e] at F2 Y2
     exact⟨p2,y2,Nw++Nw4,U,F2,Y2,fun h=>absurd (of_decide_eq_true c) h⟩
    ·exact⟨p',y,Nw4,U,F0,B.yin,fun _=>B⟩
   clear B F0
   rintro σ' H11 ⟨p',y,Nw4,rfl,F0,Y0,B⟩
   refine⟨(bse8Inv t.c_Yard d sa a m L4 sd rg o4 N),?_,?_⟩
   ·refine⟨_,U,_,U,_,_,U,U,d,_,_,_,U,U,ndl Y0,gd (by omega) (by omega),_,_,U,U,⟨by decide,by decide⟩,_,_,U,U,(show(0:Int)<4 by decide),U,_,U,if2 (fun c=>?_) (fun _=>?_)⟩
    ·skip
     rw[dh,hv] at c
     obtain⟨A,eA,h,W,s,BB⟩:=B (by have:=of_decide_eq_true c; omega)
     subst eA
     have ek:=BB.ekk (by rw[F0.D.nx]; omega)
     intro p3 dx3 hp3 hdx3 ne3
     refine⟨p3,dx3,_,U,(h.alloc hdx3 (.own p3)).alloc (by rw[aM (Ne.symm ne3)]; exact hp3) (.ins t.c_Shelf dx3 []),fun H12 S e1 h12=>⟨U,?_⟩⟩
     subst e1
     dsimp only[List.set]
     refine⟨_,U,S.p,S.dx,_,U,h12.get 0 U,(mR _ _).2.1,_,U,S.p,S.dx,_,U,h12.get 0 U,(mR _ _).1,_,U,?_⟩
     refine tn0 ?_
     refine⟨S,0,[],A,y,_,U,h12,ek,by decide,fun H13 A2 h13=>?_⟩
     refine tn0 ?_
     refine⟨S,_,_,_,A2,{ y with trail:=[] },_,U,h13,U,ek,fun H14 A3 h14=>?_⟩
     refine⟨A3.p,{ y with trail:=[] },sL t.c_Shelf S (0+1) (aH [] (.inl 0) (.ref A2.p))++(yL t.c_Yard A2 { y with trail:=[] }++(yL t.c_Yard A y++Nw4)),_,U,?_,A3,U,?_,W,s,?_⟩
     ·exact F0.trail.mono fun x hx=>by simp only[uA] at hx ⊢; rcases hx with h | h <;> simp[h]
     ·simp only[uJ]
      exact h14
     ·exact(BB.g.trail []).mono fun x hx=>by simp only[uA] at hx ⊢; rcases hx with h | h <;> simp[h]
    ·exact⟨p',y,Nw4,_,U,F0,Y0⟩
   clear B F0 Y0
   rintro σ' H12 ⟨p',y,Nw5,o7,rfl,F0,Y0⟩
   refine⟨_,U,_,U,(show 2<=sizeLine by decide),fun tp htp=>?_⟩
   have Y1:=Y0.alloc htp (.tup [.ref p',.ref sa])
   have eP:(Nw5++L4).Perm ((sa,HO.lst (sd.map V.int))::((Nw5++(Nw3++((b2,HO.tup [.int rg,.int 1])::(b1,.tup [.int rg,.int 0])::(Nw1++Nw))))++L)):=by
    rw[<- eL4,<- eL3,<- eL2,<- eL1]
    have e1:Nw5++(Nw3++((b2,HO.tup [.int rg,.int 1])::(b1,.tup [.int rg,.int 0])::(Nw1++((sa,HO.lst (sd.map V.int))::(Nw++L)))))=(Nw5++(Nw3++((b2,HO.tup [.int rg,.int 1])::(b1,.tup [.int rg,.int 0])::Nw1)))++((sa,HO.lst (sd.map V.int))::(Nw++L)):=by simp only[uJ,List.cons_append]
    rw[e1]
    refine List.perm_middle.trans (.cons _ ?_)
    simp only[uJ,List.cons_append]
    exact List.Perm.refl _
   have ntup:∀ {z:Pr},pK2 z ∈ Nw5++L4->pK2 z ∈ (Nw5++(Nw3++((b2,HO.tup [.int rg,.int 1])::(b1,.tup [.int rg,.int 0])::(Nw1++Nw))))++L:=fun {z} hz=>by
    rcases uz.mp (eP.mem_iff.mp hz) with c | c
    ·injection c with _ c; cases c
    ·exact c
   have mtt:∀ {x z:Int×Int},Mt y (Nw5++L4) x z->Mt y ((Nw5++(Nw3++((b2,HO.tup [.int rg,.int 1])::(b1,.tup [.int rg,.int 0])::(Nw1++Nw))))++L) x z:=fun⟨b,h1,h2⟩=>⟨b,h1,ntup h2⟩
   refine q _ p' y _ tp sa sd rg N 40 ⟨F0.D,F0.s,F0.g,F0.t,⟨F0.b.k,fun i hi=>mtt (F0.b.m1 i hi),F0.b.m2⟩,⟨F0.r.k,F0.r.n,mtt F0.r.m⟩,?_,F0.nk⟩ hN (Nat.le_refl _) (by omega) s12 (by omega) (Y1.perm (.cons _ eP))
   rcases F0.e with e | ⟨b,e,mb⟩
   ·exact .inl e
   ·exact .inr ⟨b,e,ntup mb⟩
end
end P
set_option Elab.async false
set_option linter.all false
set_option maxRecDepth 100000
namespace L2.St
open PySem
noncomputable def Up (xs:Array Nat):Prop:=∀ i j (hj:j<xs.size),i<j->xs.getD i 0<xs[j]
theorem eG {xs:Array Nat}{i:Nat} (h:i<xs.size) (d:Nat):xs.getD i d=xs[i]:=by simp[Array.getD,h]
theorem gE {xs:Array Nat} (hu:Up xs) (j:Nat):∀ (f lo hi:Nat),lo<=hi->hi<=xs.size->hi - lo<=f->(∀ i (h:i<xs.size),i<lo->xs[i]<j)->(∀ i (h:i<xs.size),hi<=i->j<=xs[i]) ->
  ∃ p,SetTable.below.go xs j f lo hi=p/\p<=xs.size/\(∀ i (h:i<xs.size),i<p->xs[i]<j)/\(∀ i (h:i<xs.size),p<=i->j<=xs[i])
 | 0,lo,hi,h1,h2,h3,h4,h5=>by
  obtain rfl:lo=hi:=by omega
  exact⟨lo,rfl,h2,h4,h5⟩
 | f+1,lo,hi,h1,h2,h3,h4,h5=>by
  unfold SetTable.below.go
  by_cases c:lo<hi
  ·rw[if_pos c]
   have hm:(lo+hi) / 2<xs.size:=by omega
   dsimp only
   rw[eG hm]
   by_cases c2:xs[(lo+hi) / 2]<j
   ·rw[if_pos c2]
    refine gE hu j f ((lo+hi) / 2+1) hi (by omega) h2 (by omega) (fun i h hi'=>?_) h5
    by_cases e:i=(lo+hi) / 2
    ·subst e; exact c2
    ·have:=hu i ((lo+hi) / 2) hm (by omega)
     rw[eG h] at this
     omega
   ·rw[if_neg c2]
    refine gE hu j f lo ((lo+hi) / 2) (by omega) (by omega) (by omega) h4 (fun i h hi'=>?_)
    by_cases e:i=(lo+hi) / 2
    ·subst e; omega
    ·have:=hu ((lo+hi) / 2) i h (by omega)
     rw[eG hm] at this
     omega
  ·rw[if_neg c]
   obtain rfl:lo=hi:=by omega
   exact⟨lo,rfl,h2,h4,h5⟩
theorem oG {xs:Array Nat} (hu:Up xs) (j:Nat):SetTable.below xs j<=xs.size/\(∀ i (h:i<xs.size),i<SetTable.below xs j->xs[i]<j)/\(∀ i (h:i<xs.size),SetTable.below xs j<=i->j<=xs[i]):=by
 obtain⟨p,e,h⟩:=gE hu j xs.size 0 xs.size (Nat.zero_le _) (Nat.le_refl _) (by omega) (fun i _ h=>by omega) (fun i h h'=>by omega)
 unfold SetTable.below
 rw[e]
 exact h
theorem lc {t:SetTable} (hu:Up t.place) {i:Nat} (hi:i<t.place.size):t.slot t.place[i]=.live i:=by
 obtain⟨h1,h2,h3⟩:=oG hu t.place[i]
 have e:SetTable.below t.place t.place[i]=i:=by
  rcases Nat.lt_trichotomy (SetTable.below t.place t.place[i]) i with h | h | h
  ·have:=hu _ i hi h
   rw[eG (by omega)] at this
   have:=h3 _ (by omega) (Nat.le_refl _)
   omega
  ·exact h
  ·have:=h2 i hi h
   omega
 unfold SetTable.slot
 dsimp only
 rw[e,Array.getElem?_eq_getElem hi]
 simp
theorem jI {t:SetTable} (hd:t.dummies = #[]) {j:Nat} (h:∀ i (h:i<t.place.size),t.place[i]≠j):t.slot j=.empty:=by
 unfold SetTable.slot
 dsimp only
 have e1:(t.place[SetTable.below t.place j]? == some j)=false:=by
  cases e:t.place[SetTable.below t.place j]? with
  | none=>rfl
  | some v=>
   obtain⟨hl,rfl⟩:=Array.getElem?_eq_some_iff.mp e
   have:=h _ hl
   simpa using this
 have e2:SetTable.has t.dummies j=false:=by rw[hd]; unfold SetTable.has; simp
 rw[e1,e2]
 rfl
noncomputable def way (m:Nat) (h:Int):Nat->SetTable.Probe
 | 0=>{ j:=SetTable.bits h % (m+1),more:=SetTable.runEnd m (SetTable.bits h % (m+1)) - SetTable.bits h % (m+1),i:=SetTable.bits h % (m+1),perturb:=SetTable.bits h,dummy:=none }
 | k+1=>SetTable.advance { mask:=m,place:=#[],dummies:=#[],finger:=0,led:=true,moves:=0,plain:=true } (way m h k)
theorem way_0 (t:SetTable) (h:Int):t.probeStart h=way t.mask h 0:=rfl
theorem way_s (t:SetTable) (h:Int) (k:Nat):t.advance (way t.mask h k)=way t.mask h (k+1):=rfl
theorem p9 (m:Nat) (h:Int):∀ k,(way m h k).dummy=none
 | 0=>rfl
 | k+1=>by
  have:=p9 m h k
  show(SetTable.advance _ (way m h k)).dummy=none
  unfold SetTable.advance
  split
  ·exact this
  ·exact this
noncomputable def wj (m:Nat) (h:Int) (k:Nat):Nat:=(way m h k).j
noncomputable def jU (m:Nat):Nat:=10*SetTable.turns m
theorem jb {t:SetTable}{ha:Nat->Int}{h:Int}:∀ (n k f:Nat),n<f->(∀ r,k<=r->r<k+n->∃ i,t.slot (wj t.mask h r)=.live i/\ha i≠h) ->
  SetTable.probe.go t ha h f (way t.mask h k)=SetTable.probe.go t ha h (f - n) (way t.mask h (k+n))
 | 0,k,f,_,_=>rfl
 | n+1,k,f,hf,hl=>by
  obtain⟨i,h1,h2⟩:=hl k (Nat.le_refl _) (by omega)
  obtain⟨f',rfl⟩:∃ f',f=f'+1:=⟨f - 1,by omega⟩
  rw[SetTable.probe.go]
  unfold wj at h1
  rw[h1]
  dsimp only
  rw[if_neg (by simpa using h2),way_s,jb n (k+1) f' (by omega) (fun r h3 h4=>hl r (by omega) (by omega))]
  congr 1
  ·omega
  ·congr 1; omega
theorem jc {t:SetTable}{ha:Nat->Int}{h:Int}{n:Nat} (hn:n<jU t.mask) (hl:∀ r,r<n->∃ i,t.slot (wj t.mask h r)=.live i/\ha i≠h) (he:t.slot (wj t.mask h n)=.empty):t.probe ha h (t.probeStart h)=some (.empty (wj t.mask h n) none):=by
 unfold jU at hn
 unfold SetTable.probe
 rw[way_0,jb n 0 _ hn (fun r _ h2=>hl r (by omega)),Nat.zero_add]
 obtain⟨f',e⟩:∃ f',10*SetTable.turns t.mask - n=f'+1:=⟨10*SetTable.turns t.mask - n - 1,by omega⟩
 rw[e,SetTable.probe.go]
 unfold wj at he ⊢
 rw[he]
 dsimp only
 rw[p9]
noncomputable def lps (m:Nat) (h:Int):Nat->Nat×Nat
 | 0=>(SetTable.bits h % (m+1),SetTable.bits h)
 | l+1=>SetTable.leap m (lps m h l).1 (lps m h l).2
noncomputable def stP (m:Nat) (x:Nat×Nat):SetTable.Probe:={ j:=x.1,more:=SetTable.runEnd m x.1 - x.1,i:=x.1,perturb:=x.2,dummy:=none }
theorem run9 (m i:Nat):i<=SetTable.runEnd m i/\SetTable.runEnd m i - i<=9:=by unfold SetTable.runEnd; split <;> omega
theorem j3 (m:Nat) (h:Int) (k:Nat) (x:Nat×Nat) (e:way m h k=stP m x):∀ d,d<=SetTable.runEnd m x.1 - x.1->way m h (k+d)={ j:=x.1+d,more:=SetTable.runEnd m x.1 - x.1 - d,i:=x.1,perturb:=x.2,dummy:=none }
 | 0,_=>by rw[Nat.add_zero,e]; rfl
 | d+1,hd=>by
  have ih:=j3 m h k x e d (by omega)
  show SetTable.advance _ (way m h (k+d))=_
  rw[ih]
  unfold SetTable.advance
  rw[if_pos (by show SetTable.runEnd m x.1 - x.1 - d > 0; omega)]
  show({ j:=x.1+d+1,more:=SetTable.runEnd m x.1 - x.1 - d - 1,i:=x.1,perturb:=x.2,dummy:=none }:SetTable.Probe)=_
  rw[show x.1+d+1=x.1+(d+1) by omega,show SetTable.runEnd m x.1 - x.1 - d - 1=SetTable.runEnd m x.1 - x.1 - (d+1) by omega]
theorem my (m:Nat) (h:Int):∀ l,∃ k,k<=10*l/\way m h k=stP m (lps m h l)
 | 0=>⟨0,by omega,rfl⟩
 | l+1=>by
  obtain⟨k,hk,e⟩:=my m h l
  have hr:=run9 m (lps m h l).1
  refine⟨k+(SetTable.runEnd m (lps m h l).1 - (lps m h l).1)+1,by omega,?_⟩
  have e2:=j3 m h k _ e _ (Nat.le_refl _)
  show SetTable.advance _ (way m h (k+(SetTable.runEnd m (lps m h l).1 - (lps m h l).1)))=_
  rw[e2]
  unfold SetTable.advance
  rw[if_neg (by show ¬ (SetTable.runEnd m (lps m h l).1 - (lps m h l).1 - (SetTable.runEnd m (lps m h l).1 - (lps m h l).1) > 0); omega)]
  rfl
theorem qH (m:Nat) (h:Int):∀ l,(lps m h l).2=SetTable.bits h / 32 ^ l
 | 0=>by show SetTable.bits h=_; rw[Nat.pow_zero,Nat.div_one]
 | l+1=>by
  show(lps m h l).2 / 32=_
  rw[qH m h l,Nat.div_div_eq_div_mul,Nat.pow_succ]
theorem pQ (h:Int):SetTable.bits h<2 ^ 64:=by
 unfold SetTable.bits
 have h1:=Int.emod_nonneg h (show(2 ^ 64:Int)≠0 by decide)
 have h2:=Int.emod_lt_of_pos h (show(0:Int)<2 ^ 64 by decide)
 omega
theorem lps_0 (m:Nat) (h:Int) (l:Nat) (hl:13<=l):(lps m h l).2=0:=by
 rw[qH]
 refine Nat.div_eq_of_lt (Nat.lt_of_lt_of_le (pQ h) (Nat.le_trans (show 2 ^ 64<=32 ^ 13 by decide) (Nat.pow_le_pow_right (by decide) hl)))
noncomputable def nxI (m i:Nat):Nat:=(i*5+1) % (m+1)
noncomputable def itI (m:Nat):Nat->Nat->Nat
 | 0,i=>i
 | r+1,i=>itI m r (nxI m i)
theorem eF (m:Nat):∀ (a b i:Nat),itI m (a+b) i=itI m b (itI m a i)
 | 0,b,i=>by rw[Nat.zero_add]; rfl
 | a+1,b,i=>by
  rw[show a+1+b=(a+b)+1 by omega]
  exact eF m a b (nxI m i)
theorem nQ (m:Nat) (h:Int):∀ r,(lps m h (13+r)).1=itI m r (lps m h 13).1
 | 0=>rfl
 | r+1=>by
  rw[eF m r 1,<- nQ m h r]
  show(SetTable.leap m (lps m h (13+r)).1 (lps m h (13+r)).2).1=nxI m _
  rw[lps_0 m h (13+r) (by omega)]
  rfl
theorem r6 (m:Nat) (h:Int):∀ l,(lps m h l).1<=m
 | 0=>Nat.le_of_lt_succ (Nat.mod_lt _ (Nat.succ_pos m))
 | l+1=>Nat.le_of_lt_succ (Nat.mod_lt _ (Nat.succ_pos m))
noncomputable def orb (m:Nat):Nat->Nat->List Nat
 | 0,_=>[]
 | n+1,i=>i::orb m n (nxI m i)
theorem ky (m:Nat):∀ (n i j:Nat),j ∈ orb m n i->∃ r,r<n/\itI m r i=j
 | 0,i,j,h=>by cases h
 | n+1,i,j,h=>by
  rcases uz.mp h with e | h
  ·exact⟨0,Nat.succ_pos _,e.symm⟩
  ·obtain⟨r,h1,h2⟩:=ky m n _ j h
   exact⟨r+1,by omega,h2⟩
noncomputable def t0 (m:Nat):Bool:=((List.range (m+1)).all fun j=>(orb m (m+1) 0).contains j) && (itI m (m+1) 0 == 0)
noncomputable def Msk (m:Nat):Prop:=m=7∨m=31∨m=127∨m=511
theorem nO {m:Nat} (h:Msk m):t0 m=true:=by
 rcases h with rfl | rfl | rfl | rfl <;> decide +kernel
theorem full {m:Nat} (h:Msk m) {i j:Nat} (hi:i<=m) (hj:j<=m):∃ r,r<=m/\itI m r i=j:=by
 have g:=nO h
 unfold t0 at g
 rw[Bool.and_eq_true] at g
 have all:∀ x,x<=m->∃ r,r<m+1/\itI m r 0=x:=fun x hx=>by
  have:=List.all_eq_true.mp g.1 x (uR.mpr (by omega))
  exact ky m _ _ _ (by simpa using this)
 have per:itI m (m+1) 0=0:=by simpa using g.2
 obtain⟨a,ha,ea⟩:=all i hi
 obtain⟨b,hb,eb⟩:=all j hj
 by_cases c:a<=b
 ·refine⟨b - a,by omega,?_⟩
  rw[<- ea,<- eF,show a+(b - a)=b by omega,eb]
 ·refine⟨m+1 - a+b,by omega,?_⟩
  rw[<- ea,<- eF,show a+(m+1 - a+b)=(m+1)+b by omega,eF,per,eb]
theorem cover {m:Nat} (hm:Msk m) (h:Int) {j:Nat} (hj:j<=m):∃ k,k<jU m/\wj m h k=j:=by
 obtain⟨r,hr,e⟩:=full hm (r6 m h 13) hj
 obtain⟨k,hk,ek⟩:=my m h (13+r)
 refine⟨k,by unfold jU SetTable.turns; omega,?_⟩
 unfold wj
 rw[ek]
 show(lps m h (13+r)).1=j
 rw[nQ,e]
end L2.St
set_option Elab.async false
set_option linter.all false
set_option maxRecDepth 100000
namespace L2.St
open PySem
noncomputable abbrev En2:=Int×Value
structure Tb (t:SetTable) (es:Array En2):Prop where
 m:Msk t.mask
 d:t.dummies = #[]
 sz:t.place.size=es.size
 up:Up t.place
 le:∀ i (h:i<t.place.size),t.place[i]<=t.mask
 dis:∀ i j (hi:i<es.size) (hj:j<es.size),es[i].1=es[j].1->i=j
 way:∀ i (h:i<es.size),∃ k,k<jU t.mask/\wj t.mask es[i].1 k=t.place.getD i 0/\∀ r,r<k->∃ i',∃ h':i'<t.place.size,t.place[i']=wj t.mask es[i].1 r
 lt:es.size<=t.mask
theorem least {p:Nat->Prop} (h:∃ n,p n):∃ n,p n/\∀ m,m<n->¬ p m:=by
 obtain⟨n,hn⟩:=h
 induction n using Nat.strongRecOn with
 | _ n ih=>
  by_cases c:∃ m,m<n/\p m
  ·obtain⟨m,h1,h2⟩:=c
   exact ih m h1 h2
  ·exact⟨n,hn,fun m hm pm=>c ⟨m,hm,pm⟩⟩
theorem oj {t:SetTable} (up:Up t.place) (lt:t.place.size<=t.mask):∃ j,j<=t.mask/\∀ i (h:i<t.place.size),t.place[i]≠j:=by
 apply Classical.byContradiction
 intro c
 have all:∀ j,j<=t.mask->∃ i,∃ h:i<t.place.size,t.place[i]=j:=fun j hj=>by
  apply Classical.byContradiction
  intro c2
  exact c ⟨j,hj,fun i h e=>c2 ⟨i,h,e⟩⟩
 have key:∀ j,j<=t.mask->∃ i,∃ h:i<t.place.size,t.place[i]=j/\j<=i:=fun j=>by
  induction j with
  | zero=>intro hj; obtain⟨i,h,e⟩:=all 0 hj; exact⟨i,h,e,Nat.zero_le _⟩
  | succ j ih=>
   intro hj
   obtain⟨i0,h0,e0,l0⟩:=ih (by omega)
   obtain⟨i,h,e⟩:=all (j+1) hj
   refine⟨i,h,e,?_⟩
   rcases Nat.lt_trichotomy i0 i with c | c | c
   ·omega
   ·subst c; omega
   ·have:=up i i0 h0 c
    rw[eG h] at this
    omega
 obtain⟨i,h,_,l⟩:=key t.mask (Nat.le_refl _)
 omega
theorem Tb.none {t:SetTable}{es:Array En2} (T:Tb t es) {ha:Nat->Int} (hh:∀ i (h:i<es.size),ha i=es[i].1) {h:Int} (ne:∀ i (hi:i<es.size),es[i].1≠h) :
  ∃ n,n<jU t.mask/\t.probe ha h (t.probeStart h)=some (.empty (wj t.mask h n) .none)/\(∀ r,r<n->∃ i',∃ h':i'<t.place.size,t.place[i']=wj t.mask h r)/\(∀ i (hi:i<t.place.size),t.place[i]≠wj t.mask h n)/\wj t.mask h n<=t.mask:=by
 obtain⟨j,hj,fr⟩:=oj T.up (by rw[T.sz]; exact T.lt)
 obtain⟨k,hk,ek⟩:=cover T.m h hj
 obtain⟨n,hn,mn⟩:=least (p:=fun r=>r<=k/\(∀ i (hi:i<t.place.size),t.place[i]≠wj t.mask h r)) ⟨k,Nat.le_refl _,by rw[ek]; exact fr⟩
 have occ:∀ r,r<n->∃ i',∃ h':i'<t.place.size,t.place[i']=wj t.mask h r:=fun r hr=>by
  apply Classical.byContradiction
  intro c
  exact mn r hr ⟨by omega,fun i hi e=>c ⟨i,hi,e⟩⟩
 refine⟨n,by omega,jc (by omega) (fun r hr=>?_) (jI T.d hn.2),occ,hn.2,?_⟩
 ·obtain⟨i',h',e'⟩:=occ r hr
  refine⟨i',by rw[<- e']; exact lc T.up h',?_⟩
  have hi2:i'<es.size:=by rw[<- T.sz]; exact h'
  rw[hh i' hi2]
  exact ne i' hi2
 ·have:∀ k,(St.way t.mask h k).j<=t.mask:=fun k=>by
   have hw:∀ k,(St.way t.mask h k).j+(St.way t.mask h k).more<=t.mask/\(St.way t.mask h k).i<=t.mask:=fun k=>by
    have re:∀ i,i<=t.mask->i+(SetTable.runEnd t.mask i - i)<=t.mask:=fun i hi=>by unfold SetTable.runEnd; split <;> omega
    induction k with
    | zero=>
     have:SetTable.bits h % (t.mask+1)<t.mask+1:=Nat.mod_lt _ (by omega)
     exact⟨re _ (by show SetTable.bits h % (t.mask+1)<=t.mask; omega),by show SetTable.bits h % (t.mask+1)<=t.mask; omega⟩
    | succ k ih=>
     show(SetTable.advance _ (St.way t.mask h k)).j+(SetTable.advance _ (St.way t.mask h k)).more<=t.mask/\(SetTable.advance _ (St.way t.mask h k)).i<=t.mask
     unfold SetTable.advance
     split
     ·dsimp only; exact⟨by omega,ih.2⟩
     ·dsimp only[SetTable.leap]
      have:((St.way t.mask h k).i*5+1+(St.way t.mask h k).perturb / 32) % (t.mask+1)<t.mask+1:=Nat.mod_lt _ (by omega)
      exact⟨re _ (by omega),by omega⟩
   have:=(hw k).1
   omega
  exact this n
end L2.St
set_option Elab.async false
set_option linter.all false
set_option maxRecDepth 100000
namespace L2.St
open PySem
structure Ow (m:Nat) (hs:Array Int) (ow:Array (Option Nat)) (k:Nat):Prop where
 sz:ow.size=m+1
 all:∀ a,a<k->∃ j,j<=m/\ow[j]?=some (some a)
 lt:∀ (j:Nat) a,ow[j]?=some (some a)->a<k
 inj:∀ (j j':Nat) a,ow[j]?=some (some a)->ow[j']?=some (some a)->j=j'
 way:∀ (j a:Nat) (ha:a<hs.size),ow[j]?=some (some a)->∃ q,q<jU m/\wj m hs[a] q=j/\∀ r,r<q->∃ b,ow[wj m hs[a] r]?=some (some b)
theorem Ow.nil (m:Nat) (hs:Array Int):Ow m hs (Array.replicate (m+1) none) 0:=by
 have g:∀ (j a:Nat),(Array.replicate (m+1) (none:Option Nat))[j]?=some (some a)->False:=fun j a h=>by
  rw[Array.getElem?_replicate] at h
  split at h <;> cases h
 exact⟨by rw[Array.size_replicate],fun a ha=>by omega,fun j a h=>(g j a h).elim,fun j j' a h=>(g j a h).elim,fun j a _ h=>(g j a h).elim⟩
end L2.St
set_option Elab.async false
set_option linter.all false
set_option maxRecDepth 100000
namespace L2.St
open PySem
noncomputable def IsPair (h:Heap) (i j:Int) (a:Addr):Prop:=∃ o t u n,h.get? a=some o/\o.cls=.type "tuple" /\ o.data=.seq #[.int i t,.int j u] n
noncomputable abbrev kp (i j:Int):List Key:=[.inl i,.inl j]
end L2.St
set_option Elab.async false
set_option linter.all false
set_option maxRecDepth 100000
namespace L2.St
open PySem
noncomputable abbrev bt (w:World):Bool:=w.params.followText "set-order"
noncomputable def SetE (w:World) (h:Heap) (a:Addr) (es:Array En2):Prop:=∃ o ep t,h.get? a=some o/\o.ExactSet/\o.data=.set es ep t/\Tb t es/\t.plain=true/\(t.led = !bt w)/\es.size*5<t.mask*3
end L2.St
set_option Elab.async false
set_option linter.all false
set_option maxRecDepth 100000
namespace L2.St
open PySem
section
variable {prog:Program}{w:World}{A:Around}{E:Value->Shared->Prop}{s:Shared}{a b c:Addr}{es:Array En2}{i j:Int}
noncomputable def In (h:Heap) (es:Array En2) (i j:Int):Prop:=∃ n,∃ hn:n<es.size,∃ c,es[n].2=Value.ref c/\IsPair h i j c
end
end L2.St
set_option Elab.async false
set_option linter.all false
set_option maxRecDepth 100000
namespace L2.St
open PySem
end L2.St
set_option Elab.async false
set_option linter.all false
set_option maxRecDepth 100000
namespace L2.St
open PySem
end L2.St
set_option Elab.async false
set_option linter.all false
set_option maxRecDepth 100000
namespace L2.St
open PySem
noncomputable def SetX (w:World) (h:Heap) (a:Addr) (es:Array En2) (ep:Nat) (t:SetTable):Prop:=∃ o,h.get? a=some o/\o.ExactSet/\o.data=.set es ep t/\Tb t es/\t.plain=true/\t.led = !bt w
noncomputable abbrev itObj (slot i n ep:Nat) (a:Addr):Obj:={ cls:=.type "set_iterator",data:=.fields #[.int slot 0,.int i 0,.ref a,.int n 0,.int ep 0] }
noncomputable def SetIt (w:World) (h:Heap) (it a:Addr) (es:Array En2) (ep:Nat) (t:SetTable) (i:Nat):Prop:=∃ slot:Nat,h.get? it=some (itObj slot i es.size ep a)/\(bt w=false->SetTable.below t.place slot=i)
end L2.St
set_option Elab.async false
set_option linter.all false
set_option maxRecDepth 100000
namespace L2.St
open PySem PyProof.Rows
end L2.St
set_option Elab.async false
set_option linter.all false
set_option maxRecDepth 100000
namespace L2
open PySem PySem.Spec PyProof.Rows
noncomputable def SetP (P:Program) (w:World) (a:Addr) (ps:List Pr) (h:Heap):Prop:=∃ es:Array St.En2,St.SetE w h a es/\es.toList.Perm (ps.map fun z=>(hV P w (St.kp z.2.1 z.2.2),Value.ref z.1))
end L2
set_option Elab.async false
set_option linter.all false
set_option maxRecDepth 100000
namespace L2.St
open PySem PyProof.Rows
end L2.St
set_option Elab.async false
set_option linter.all false
set_option maxRecDepth 100000
namespace L2
open PySem PySem.Spec PyProof.Rows
end L2
set_option Elab.async false
set_option linter.all false
set_option maxRecDepth 100000
set_option maxHeartbeats 4000000
namespace P
open PySem L2
noncomputable def Eq2 (y:YR) (L:Kn) (v:V):Prop:=(v=.non/\y.eng=.non)∨∃ (b c:Addr) (z:Int×Int),v=.ref b/\y.eng=.ref c/\pK2 (b,z) ∈ L/\pK2 (c,z) ∈ L
theorem Eq2.mono {y:YR}{L L':Kn}{v:V} (h:Eq2 y L v) (s:∀ x ∈ L,x ∈ L'):Eq2 y L' v:=by
 rcases h with h | ⟨b,c,z,h1,h2,h3,h4⟩
 ·exact .inl h
 ·exact .inr ⟨b,c,z,h1,h2,s _ h3,s _ h4⟩
noncomputable def iW (y:YR) (sd:List Int):Prop:=∀ (i:Nat) (x:Int),sd[i]?=some x->y.sides[i]?=some (.int x)
inductive sp_tg (C:Addr) (vs:List V) (H:Hp) (Q:VK) (E_:XK):Prop
 | mk (p:Addr) (y:YR) (L:Kn) (rl:Addr) (ys:List Int) (_:vs=[.ref p,.ref rl]) (_:YIn C H p y L) (_:y.trail=[]) (_:y.rung=ys.map V.int) (_:ys.length<=1000) (_:(rl,HO.lst (ys.map V.int)) ∈ L) (_:∀ H' Nw,YIn C H' p y (Nw++L)->Q (.bl true) H'):sp_tg C vs H Q E_
inductive sp_bs (C:Addr) (vs:List V) (H:Hp) (Q:VK) (E_:XK):Prop
 | mk (p:Addr) (y:YR) (L:Kn) (sa:Addr) (sd:List Int) (v:V) (_:vs=[.ref p,.ref sa,v]) (_:YIn C H p y L) (_:(sa,HO.lst (sd.map V.int)) ∈ L) (_:BI y L sd.length) (_:iW y sd) (_:sd.length<=100) (_:Eq2 y L v) (_:∀ H' Nw,YIn C H' p y (Nw++L)->Q (.bl true) H'):sp_bs C vs H Q E_
structure Stp (y y':YR) (L:Kn) (z:Pr) (N M R:Nat):Prop where
 u:Up y y'
 D:Ld y' (N+1) (M+2) R
 m:Mt y' L z.2 ((N:Int),0)
 k:Kp y' N .stop
 f:∀ x,Fr y x->x≠z.2->Fr y' x
 s:y'.sides=y.sides
 t:y'.trail=[]
inductive sp_stopped (C:Addr) (vs:List V) (H:Hp) (Q:VK) (E_:XK):Prop
 | mk (p:Addr) (y:YR) (L:Kn) (z:Pr) (N M R:Nat) (_:vs=[.ref p,.ref z.1]) (_:YIn C H p y L) (_:Ld y N M R) (_:N<=8000) (_:M<=29000) (_:R<=1000) (_:pK2 z ∈ L) (_:Fr y z.2) (_:∀ H' y' Nw b,Stp y y' (Nw++L) z N M R->pK2 (b,(N:Int),0) ∈ Nw->YIn C H' p y' (Nw++L)->Q (.ref b) H'):sp_stopped C vs H Q E_
inductive Flp (y:YR) (sd:List Int):YR->List Int->Prop
 | none:Flp y sd y sd
 | one (i:Nat) (x:Int) (hi:i<sd.length) (hx:x=1∨x=2):Flp y sd { y with sides:=y.sides.set i (.int x),trail:=[] } (sd.set i x)
inductive sp_flip (C:Addr) (vs:List V) (H:Hp) (Q:VK) (E_:XK):Prop
 | mk (p:Addr) (y:YR) (L:Kn) (sa:Addr) (sd:List Int) (dr:Int) (_:vs=[.ref p,.ref sa,.int dr]) (_:YIn C H p y ((sa,.lst (sd.map V.int))::L)) (_:cc y) (_:0<=dr) (_:(∀ x ∈ sd,x=1∨x=2)) (_:sd.length<=y.sides.length) (_:∀ H' y' sd' l (ss:List Int) Nw,Flp y sd y' sd'->y'.sides=ss.map V.int->YIn C H' p y' ((sa,.lst (sd'.map V.int))::(Nw++L))->(l,HO.lst (ss.map V.int)) ∈ Nw->Q (.ref l) H'):sp_flip C vs H Q E_
section
variable {C:Addr}{H:Hp}{p:Addr}{y:YR}{L:Kn}{Q:V->Hp->Prop}
theorem hU {a b:Addr}{xs ys:List Int} (Y:YIn C H p y L) (ma:(a,HO.lst (xs.map V.int)) ∈ L) (mb:(b,HO.lst (ys.map V.int)) ∈ L) (hl:xs.length<=100000) (q:∀ H',YIn C H' p y L->Q (.bl (decide (xs=ys))) H'):sp_Jj1 [.ref a,.ref b] H Q E0:=by
 obtain⟨A,e,h,W,s,G⟩:=Y
 obtain⟨i,hi⟩:=List.getElem?_of_mem (ul (yL C A y) ma)
 obtain⟨j,hj⟩:=List.getElem?_of_mem (ul (yL C A y) mb)
 exact⟨a,b,xs,ys,i,j,_,U,h,hi,hj,hl,fun H' h'=>q H' ⟨A,e,h',W,s,G⟩⟩
theorem lI {v:V} (Y:YIn C H p y L) (h:Eq2 y L v) (q:Q (.bl true) H):mP [y.eng,v] H Q E0:=by
 rcases h with ⟨h1,h2⟩ | ⟨b,c,z,h1,h2,h3,h4⟩
 ·rw[h1,h2]; exact .inl ⟨U,q⟩
 ·rw[h1,h2]
  exact .inr ⟨c,b,z.1,z.2,U,Y.at_ h4,Y.at_ h3,q⟩
end
inductive hlp1Inv (C_:Addr) (p:Addr) (sa:Addr) (v:V) (y:YR) (L:Kn) (i:Nat) (σ':St) (H':Hp):Prop
 | mk (Nw:Kn) (o3:Option V) (_:σ'=[some (.ref p),some (.ref sa),some v,o3,none]) (_:YIn C_ H' p y (Nw++L)):hlp1Inv C_ p sa v y L i σ' H'
inductive hlp2Inv (C_:Addr) (p:Addr) (D:Addr) (y:YR) (sd:List Int) (L:Kn) (n:Nat) (m:Nat) (zs:List V) (H':Hp):Prop
 | mk (_:m=sd.length - n) (_:n<=sd.length) (bs:List Addr) (Nw:Kn) (_:bs.length=n) (_:zs=bs.map V.ref) (_:(∀ (j:Nat) b,bs[j]?=some b->pK2 (b,(j:Int),2) ∈ Nw)) (_:YIn C_ H' p y ((D,.lst zs)::(Nw++L))):hlp2Inv C_ p D y sd L n m zs H'
inductive hlp3Inv (C_:Addr) (p:Addr) (D3:Addr) (y:YR) (sd:List Int) (L:Kn) (Nw:Kn) (n:Nat) (m:Nat) (zs:List V) (H':Hp):Prop
 | mk (_:m=sd.length - n) (_:n<=sd.length) (Z:Kn) (_:zs=(List.replicate n true).map V.bl) (_:YIn C_ H' p y ((D3,.lst zs)::(Z++(Nw++L)))):hlp3Inv C_ p D3 y sd L Nw n m zs H'
section
variable {P:Program}{w:World}{K:PySem.W.Frag}{mg:Str->Option Value}{base:Heap}{t:Adr}
theorem scTg:FnScope ["_law_yard","_law_rung"] ["_law_yard","_law_rung"] (ah tq):={}
theorem ok_Jn (T:Txt K mg t):FnOk P w K mg base CX0 4 t.f_Jn t.d_Jn ["_law_yard","_law_rung"] (sp_tg t.c_Yard):=by
 refine T.F_Jn.ok scTg (fun vs H Q E h=>?_) (fun cdv A outer s H vs Q E hr h=>?_)
 ·obtain⟨_,_,_,_,_,rfl,_⟩:=h
  rfl
 ·obtain⟨p,y,L,rl,ys,rfl,Y,yt,yr,yl,mr,q⟩:=h
  refine⟨_,(af (aq (dc (pcl (fZ T) hr T.m_is T.F_is.kp (jY T) (aa (aC (pv 0) T.cl_Yard T.M_Ju (qC T) hr (uc T) .nil ap) (aa ag ae))) (cQ (pcl (nJ T) hr T.m_Jj1 T.F_Jj1.kp (qQ T) (aa (aC (pv 0) T.cl_Yard T.M_Jq (kC T) hr (pW T) .nil ap) (aa (pv 1) ae))))))),?_⟩
  rw[show L2.start ["_law_yard","_law_rung"] [V.ref p,V.ref rl]=([some (V.ref p),some (V.ref rl)]:St) from rfl]
  obtain⟨A1,gy⟩:=Y.obj
  refine⟨_,U,p,A1.dx,_,U,gy,(bo _ _ _).2.2.2.2.2.2.2.2,?_⟩
  refine i3 Y ?_
  rw[yt]
  refine⟨_,_,U,?_⟩
  rw[decide_eq_true (show((([]:List V).length:Nat):Int)=0 from rfl)]
  refine⟨_,U,df ?_⟩
  refine⟨_,U,p,A1.dx,_,U,gy,(bo _ _ _).2.2.2.2.2.2.2.1,?_⟩
  refine jB Y fun H2 l Y2=>?_
  refine⟨_,U,?_⟩
  refine tn0 ?_
  rw[yr] at Y2
  refine hU Y2 uk (uj _ mr) (by omega) fun H3 Y3=>?_
  rw[decide_eq_true rfl]
  exact q H3 [_] Y3
theorem scBy:FnScope ["_law_yard","_law_sides","_law_engine","_law_turn","_law_free"] ["_law_yard","_law_sides","_law_engine"] (ah mW):={}
theorem qD (T:Txt K mg t):FnOk P w K mg base CX0 5 t.f_Jo t.d_Jo ["_law_yard","_law_sides","_law_engine"] (sp_bs t.c_Yard):=by
 refine T.F_Jo.ok scBy (fun vs H Q E h=>?_) (fun cdv A outer s H vs Q E hr h=>?_)
 ·obtain⟨_,_,_,_,_,_,rfl,_⟩:=h
  rfl
 ·obtain⟨p,y,L,sa,sd,v,rfl,Y,msa,bi,so,sl,eq,q⟩:=h
  refine⟨_,(ac (aA (bP (bx (pcl (eX T) hr T.m_Ji1 T.F_Ji1.kp (ii T) (aa (aC (pv 0) T.cl_Yard T.M_Jd (d9 T) hr (iT T) .nil ap) (aa (pv 2) ae)))))
    (af (aq cx))
    aj)
   (ac (bD PassesOwn.never rfl (bG (by rfl) T.z_range (aa (az cR (aG ay (by rfl) T.z_len (by rfl) (aa (pv 1) ae)) ag) ae)) (aw (i:=3) scBy.nd rfl (Or.inl rfl))
    (af (aA (bP (bx (pcl (eX T) hr T.m_Ji1 T.F_Ji1.kp (ii T) (@aa _ _ _ _ _ (ao (pv 0) T.cl_Yard T.M_J01 (eY T) hr (ij T) .nil ap (@aa _ _ _ _ _ (aI (aa (pv 3) (aa ag ae))) ae (by rfl))) (@aa _ _ _ _ _ (aI (aa (az bh (pv 3) ag) (aa ag ae))) ae (by rfl)) (by rfl)))))
      (af (aq cx))
      aj)))
   (ac (dZ (ix:=4) scBy.nd rfl (Or.inl rfl) (esc:=ah mW) (k:=1) ["_law_piece","_law_yard","_law_sides","_law_engine","_law_turn","_law_free"] rfl (bG (by rfl) T.z_range (aa (aG ay (by rfl) T.z_len (by rfl) (aa (pv 1) ae)) ae)) (fun _ _ _ _ _=>by exact(aw (i:=0) (show List.Nodup (["_law_piece","_law_yard","_law_sides","_law_engine","_law_turn","_law_free"]:List Str) from by decide +kernel) rfl (Or.inl rfl))) (fun _ _ _ _ _=>by exact bB) (fun _ _ _ _ _=>by exact(aI (aa (pv 0) (aa ag ae)))) rfl (by decide +kernel) (by decide +kernel) rfl (by decide +kernel) (by rfl) (fun _ _ h _=>h) (by decide +kernel))
   (ac (aA (bP (bx (aG (gB rfl) (by rfl) T.z_all (by rfl) (aa (d6 (esc:=ah mW) (k:=1) ["_law_end","_law_yard","_law_sides","_law_engine","_law_turn","_law_free"] rfl (br (pv 4)) (fun _ _ _ _ _=>by exact(aw (i:=0) (show List.Nodup (["_law_end","_law_yard","_law_sides","_law_engine","_law_turn","_law_free"]:List Str) from by decide +kernel) rfl (Or.inl rfl))) (fun _ _ _ _ _=>by exact bB) (fun _ _ _ _ _=>by exact(bO dq (ao (pv 1) T.cl_Yard T.M_J01 (eY T) hr (ij T) .nil ap (aa (pv 0) ae)) aV (am _))) rfl (by decide +kernel) (by decide +kernel) rfl (by decide +kernel) (by rfl) (fun _ _ h _=>h) (by decide +kernel)) ae))))
    (af (aq cx))
    aj)
   (af (aq (aG (gB rfl) (by rfl) T.z_all (by rfl) (aa (d6 (esc:=ah mW) (k:=2) ["_law_bar","_law_side","_law_yard","_law_sides","_law_engine","_law_turn","_law_free"] rfl (pq (by rfl) T.z_enumerate (aa (pv 1) ae)) (fun _ _ _ _ _=>by exact(iu (K:=K) (n:=2) rfl rfl (aK (aw (i:=0) (show List.Nodup (["_law_bar","_law_side","_law_yard","_law_sides","_law_engine","_law_turn","_law_free"]:List Str) from by decide +kernel) rfl (Or.inl rfl)) (aK (aw (i:=1) (show List.Nodup (["_law_bar","_law_side","_law_yard","_law_sides","_law_engine","_law_turn","_law_free"]:List Str) from by decide +kernel) rfl (Or.inl rfl)) bH)))) (fun _ _ _ _ _=>by exact bB) (fun _ _ _ _ _=>by exact(pcl (fZ T) hr T.m_is T.F_is.kp (jY T) (aa (ao (pv 2) T.cl_Yard T.M_J41 (dt T) hr (fD T) .nil ap (aa (pv 0) ae)) (aa (pv 1) ae)))) rfl (by decide +kernel) (by decide +kernel) rfl (by decide +kernel) (by rfl) (fun _ _ h _=>h) (by decide +kernel)) ae)))))))),?_⟩
  rw[show L2.start ["_law_yard","_law_sides","_law_engine","_law_turn","_law_free"] [V.ref p,V.ref sa,v]=([some (V.ref p),some (V.ref sa),some (v),none,none]:St) from rfl]
  have lsd:(sd.map V.int).length=sd.length:=um _
  obtain⟨A1,gy⟩:=Y.obj
  refine⟨_,U,p,A1.dx,_,U,gy,(bo _ _ _).2.2.2.2.2.2.1,?_⟩
  refine cB Y ?_
  refine⟨_,U,?_⟩
  refine tn0 ?_
  refine lI Y eq ?_
  refine⟨_,U,bA ?_⟩
  refine⟨_,U,sa,_,U,.inl (SqL.of (Y.at_ msa)),_,_,U,U,_,U,by omega,by omega,bS (hlp1Inv t.c_Yard p sa v y L) ⟨[],_,U,Y⟩ ?_ ?_⟩
  ·clear Y gy A1
   rintro i σ' H2 hi ⟨Nw,o3,rfl,Y⟩
   rw[lsd] at hi
   dsimp only[List.set]
   rw[Int.zero_add]
   obtain⟨A1,gy⟩:=Y.obj
   refine⟨_,U,p,A1.dx,_,U,gy,(b7 _ _ _).2.1,_,U,(show 2<=sizeLine by decide),fun b1 hb1=>?_⟩
   have Y1:=Y.alloc hb1 (.tup [.int i,.int 1])
   obtain⟨k,hk,hp⟩:=bi.k i (by omega)
   obtain⟨c,hc,mc⟩:=bi.m1 i (by omega)
   refine tn0 ?_
   refine fJ (z:=(b1,(i:Int),1)) Y1 uk ⟨k,hk,(show(0:Int)<=1 by decide),by rw[Kd.many_point hp]; exact(show(1:Int)<3 by decide)⟩ ?_
   rw[show ak y.mates (kE (b1,(i:Int),(1:Int)).2.1 (b1,(i:Int),(1:Int)).2.2)=some (.ref c) from hc]
   refine⟨_,U,_,_,U,U,(show 2<=sizeLine by decide),fun b2 hb2=>?_⟩
   have Y2:=Y1.alloc hb2 (.tup [.int ((i:Int)+1),.int 0])
   refine tn0 ?_
   refine .inr ⟨c,b2,(i:Int)+1,0,U,Y2.at_ (uj _ (uj _ (ul _ mc))),Y2.at_ uk,?_⟩
   refine⟨_,U,bA ?_⟩
   exact⟨(b2,.tup [.int ((i:Int)+1),.int 0])::(b1,.tup [.int i,.int 1])::Nw,_,U,Y2⟩
  clear Y gy A1
  rintro σ' H2 ⟨Nw,o3,rfl,Y⟩
  refine⟨_,U,sa,_,U,.inl (SqL.of (Y.at_ (ul _ msa))),_,U,by omega,by omega,fun D hD=>?_⟩
  rw[lsd]
  refine⟨(hlp2Inv t.c_Yard p D y sd L),⟨sd.length,U,Nat.zero_le _,[],Nw,U,U,(fun j b h=>by cases h),Y.alloc hD _⟩,?_⟩
  clear Y
  rintro n m' zs H' ⟨rfl,hn,bs,Nw,bl,rfl,mb,Y⟩
  refine⟨Y.at_ uk,?_⟩
  by_cases hlt:n<sd.length
  ·refine .inr ⟨by show n<sd.length; exact hlt,?_⟩
   rintro x H2 ⟨rfl,rfl⟩
   refine⟨U,bT ?_⟩
   refine⟨_,U,(show 2<=sizeLine by decide),fun b1 hb1=>?_⟩
   rw[Int.zero_add]
   have Y1:=Y.alloc hb1 (.tup [.int (n:Int),.int 2])
   refine⟨sizeOk (by rw[um]; omega),Y1.at_ (uj _ uk),sd.length - (n+1),by omega,U,hlt,bs++[b1],(b1,.tup [.int n,.int 2])::Nw,by rw[uq,bl]; rfl,by rw[uw]; rfl,fun j b hj=>?_,?_⟩
   ·by_cases c:j<bs.length
    ·rw[uF c] at hj
     exact uj _ (mb j b hj)
    ·rw[uG (by omega)] at hj
     have c2:j - bs.length=0:=by
      have:=(List.getElem?_eq_some_iff.mp hj).1
      rw[uB] at this
      omega
     rw[c2] at hj
     cases hj
     rw[show j=n by omega]
     exact uk
   ·have:=(Y1.perm (.swap _ _ _)).put0 (.lst (bs.map V.ref++[.ref b1]))
    exact this
  have en:n=sd.length:=by omega
  subst en
  refine .inl ⟨(show(sd.length:Int).toNat<=sd.length by omega),?_⟩
  dsimp only[List.set]
  refine⟨_,U,D,U,⟨_,SqL.of (Y.at_ uk)⟩,fun D2 hD2=>?_⟩
  refine⟨fun n m zs H'=>m=sd.length - n/\n<=sd.length/\zs=(List.replicate n true).map V.bl/\YIn t.c_Yard H' p y ((D2,.lst zs)::(D,.lst (bs.map V.ref))::(Nw++L)),⟨sd.length,U,Nat.zero_le _,U,Y.alloc hD2 _⟩,?_⟩
  clear Y
  rintro n m' zs H' ⟨rfl,hn,rfl,Y⟩
  refine⟨Y.at_ uk,?_⟩
  have g1:SqL K H' D (bs.map V.ref):=SqL.of (Y.at_ (uj _ uk))
  by_cases hlt:n<sd.length
  ·have hb:=uo (show n<bs.length by omega)
   have hbv:(bs.map V.ref)[n]?=some (.ref bs[n]):=by rw[ur,hb]; rfl
   refine .inr ⟨⟨_,_,g1,hbv⟩,?_⟩
   rintro x H2 ⟨rfl,hx1⟩
   have hx2:=hx1 _ g1
   rw[hbv] at hx2
   cases hx2
   refine⟨U,bT ?_⟩
   obtain⟨A1,gy⟩:=Y.obj
   refine⟨_,U,p,A1.dx,_,U,gy,(b7 _ _ _).2.1,_,U,?_⟩
   refine tn0 ?_
   have fm:=bi.m2 n hlt
   refine fJ (z:=(bs[n],(n:Int),2)) Y (uj _ (uj _ (uC _ (mb n _ hb)))) fm.1 ?_
   rw[show ak y.mates (kE (bs[n],(n:Int),(2:Int)).2.1 (bs[n],(n:Int),(2:Int)).2.2)=none from fm.2]
   refine⟨U,?_⟩
   refine⟨sizeOk (by rw[um,uD]; omega),Y.at_ uk,sd.length - (n+1),by omega,U,hlt,?_,Y.put0 _⟩
   rw[List.replicate_succ',uw]; rfl
  refine .inl ⟨⟨_,g1,by rw[um]; omega⟩,?_⟩
  refine⟨D2,List.replicate n true,U,SqL.of (Y.at_ uk),?_⟩
  rw[show(List.replicate n true).all id=true by simp]
  refine⟨_,U,bA ?_⟩
  have ms:∀ {X:Kn},(sa,HO.lst (sd.map V.int)) ∈ X++(Nw++L):=ul _ (ul _ msa)
  refine⟨_,U,sa,U,⟨_,SqL.of (Y.at_ (ms (X:=[_,_])))⟩,fun D3 hD3=>?_⟩
  refine⟨(hlp3Inv t.c_Yard p D3 y sd L Nw),⟨sd.length,U,Nat.zero_le _,[_,_],U,Y.alloc hD3 _⟩,?_⟩
  clear Y
  rintro n m' zs H' ⟨rfl,hn,Z,rfl,Y⟩
  refine⟨Y.at_ uk,?_⟩
  have g2:SqL K H' sa (sd.map V.int):=SqL.of (Y.at_ (uj _ ms))
  by_cases hlt:n<sd.length
  ·have hs:=uo hlt
   have hsv:(sd.map V.int)[n]?=some (.int sd[n]):=by rw[ur,hs]; rfl
   refine .inr ⟨⟨_,_,g2,hsv⟩,?_⟩
   rintro x H2 ⟨pp,x1,rfl,hpp,rfl,hx1⟩
   have hx2:=hx1 _ g2
   rw[hsv] at hx2
   cases hx2
   have Y1:=Y.alloc hpp (.tup [.int n,.int sd[n]])
   refine⟨pp,_,U,SqT.of (Y1.at_ uk),U,_,_,U,_,_,U,U,U,bT ?_⟩
   obtain⟨A1,gy⟩:=Y1.obj
   refine⟨_,U,p,A1.dx,_,U,gy,(aY _ _ _).2.2.2.2.2.1,_,U,?_⟩
   refine tn0 ?_
   refine dy Y1 (by omega) (v:=.int sd[n]) (by rw[Int.toNat_natCast]; exact so n _ hs) ?_
   refine⟨_,U,_,_,U,?_⟩
   rw[decide_eq_true rfl]
   refine⟨sizeOk (by rw[um,uD]; omega),Y1.at_ (uj _ uk),sd.length - (n+1),by omega,U,hlt,(pp,.tup [.int n,.int sd[n]])::Z,?_,?_⟩
   ·rw[List.replicate_succ',uw]; rfl
   ·exact(Y1.perm (.swap _ _ _)).put0 _
  refine .inl ⟨⟨_,g2,by rw[um]; omega⟩,?_⟩
  refine⟨D3,List.replicate n true,U,SqL.of (Y.at_ uk),?_⟩
  rw[show(List.replicate n true).all id=true by simp]
  have e:((D3,HO.lst ((List.replicate n true).map V.bl))::(Z++(Nw++L)))=((D3,HO.lst ((List.replicate n true).map V.bl))::(Z++Nw))++L:=by rw[List.cons_append,uJ]
  rw[e] at Y
  exact q _ _ Y
end
section
variable {P:Program}{w:World}{K:PySem.W.Frag}{mg:Str->Option Value}{base:Heap}{t:Adr}
theorem scFl:FnScope ["_law_yard","_law_sides","_law_draw","_law_bar"] ["_law_yard","_law_sides","_law_draw"] (ah mY):={}
theorem rT (T:Txt K mg t):FnOk P w K mg base CX0 5 t.f_Jf1 t.d_Jf1 ["_law_yard","_law_sides","_law_draw"] (sp_flip t.c_Yard):=by
 refine T.F_Jf1.ok scFl (fun vs H Q E h=>?_) (fun cdv A outer s H vs Q E hr h=>?_)
 ·obtain⟨_,_,_,_,_,_,rfl,_⟩:=h
  rfl
 ·obtain⟨p,y,L,sa,sd,dr,rfl,Y,sm,dr0,s12,sl,q⟩:=h
  refine⟨_,(ac (cf (aA (PW.pt (dL (ai dG (aG ay (by rfl) T.z_len (by rfl) (aa (pv 1) ae)) ag (am _)) (da (ai bq (az aT (pv 2) ag) ag (am _)))))
    (ac (aD (i:=3) scFl.nd rfl (Or.inl rfl) (az aT (az bW (pv 2) ag) (aG ay (by rfl) T.z_len (by rfl) (aa (pv 1) ae))))
     (ac (bJ (az cR ag (aF ar (pv 1) (pv 3))) (dN (pv 1) (pv 3) cE))
     (af (al (ao (pv 0) T.cl_Yard T.M_Jr (nH T) hr (sJ T) .nil ap (aa (pv 3) (aa (aF ar (pv 1) (pv 3)) ae)))))))
    aj))
   (af (aq (d6 (esc:=ah mY) (k:=1) ["_law_bar","_law_yard","_law_sides","_law_draw","_law_bar'"] rfl (br (aC (pv 0) T.cl_Yard T.M_J31 (du T) hr (fE T) .nil ap)) (fun _ _ _ _ _=>by exact(aw (i:=0) (show List.Nodup (["_law_bar","_law_yard","_law_sides","_law_draw","_law_bar'"]:List Str) from by decide +kernel) rfl (Or.inl rfl))) (fun _ _ _ _ _=>by exact bB) (fun _ _ _ _ _=>by exact(ao (pv 1) T.cl_Yard T.M_J41 (dt T) hr (fD T) .nil ap (aa (pv 0) ae))) rfl (by decide +kernel) (by decide +kernel) rfl (by decide +kernel) (by rfl) (fun i y h hf=>by
    by_cases c:i=3
    ·subst c; cases h; exact absurd hf (by decide +kernel)
    ·have h2:(List.set (["_law_yard","_law_sides","_law_draw","_law_bar"]:List Str) 3 "_law_bar'")[i]?=some y:=h
     rw[List.getElem?_set_ne (fun z=>c z.symm)] at h2; exact h2) (by decide +kernel))))),?_⟩
  rw[show L2.start ["_law_yard","_law_sides","_law_draw","_law_bar"] [V.ref p,V.ref sa,V.int dr]=([some (V.ref p),some (V.ref sa),some (V.int dr),none]:St) from rfl]
  refine⟨fun σ' H'=>∃ (y':YR) (sd':List Int) (o3:Option V),σ'=[some (.ref p),some (.ref sa),some (.int dr),o3]/\Flp y sd y' sd'/\cc y'/\YIn t.c_Yard H' p y' ((sa,.lst (sd'.map V.int))::L),?_,?_⟩
  ·refine⟨_,U,sa,_,U,.inl (SqL.of (Y.at_ uk)),_,_,U,U,_,U,?_⟩
   refine if2 (fun c1=>?_) (fun _=>⟨y,sd,_,U,.none,sm,Y⟩)
   have l0:0<sd.length:=by have:=of_decide_eq_true c1; rw[um] at this; omega
   refine⟨_,U,_,_,U,U,(show(0:Int)<2 by decide),U,_,U,if2 (fun _=>?_) (fun _=>⟨y,sd,_,U,.none,sm,Y⟩)⟩
   refine⟨_,U,_,_,U,U,⟨by decide,by decide⟩,_,U,sa,_,U,.inl (SqL.of (Y.at_ uk)),_,_,U,U,(by rw[um]; omega),?_⟩
   dsimp only[List.set]
   rw[um]
   obtain⟨i,hi,il⟩:∃ i:Nat,dr / 2 % (sd.length:Int)=i/\i<sd.length:=by
    have h1:=Int.emod_nonneg (dr / 2) (show(sd.length:Int)≠0 by omega)
    have h2:=Int.emod_lt_of_pos (dr / 2) (show(0:Int)<(sd.length:Int) by omega)
    exact⟨(dr / 2 % (sd.length:Int)).toNat,by omega,by omega⟩
   rw[hi]
   have gv:=uo il
   have gvm:(sd.map V.int)[i]?=some (.int sd[i]):=by rw[ur,gv]; rfl
   have x12:3 - sd[i]=1∨3 - sd[i]=2:=by have:=s12 _ (List.getElem_mem il); omega
   refine⟨_,U,_,U,sa,_,_,_,U,U,SqL.of (Y.at_ uk),aL (j:=i) gvm,_,_,U,U,?_⟩
   refine⟨_,U,_,U,sa,_,_,i,U,U,Y.at_ uk,by unfold ixN; rw[um,if_pos (by omega),if_pos (by omega)]; rfl,?_⟩
   have Y1:=Y.put0 (.lst ((sd.map V.int).set i (.int (3 - sd[i]))))
   rw[show(sd.map V.int).set i (.int (3 - sd[i]))=(sd.set i (3 - sd[i])).map V.int from List.map_set.symm] at Y1 ⊢
   obtain⟨A1,gy⟩:=Y1.obj
   refine⟨_,U,p,A1.dx,_,U,gy,(aY _ _ _).2.2.1,_,U,_,U,_,U,sa,_,_,_,U,U,SqL.of (Y1.at_ uk),aL (j:=i) (by rw[ur,List.getElem?_set_self il]; rfl),?_⟩
   refine tn0 ?_
   refine iZ Y1 (by omega) (by omega) x12 fun H3 Y3=>?_
   exact⟨_,_,_,U,.one i _ il x12,⟨sm.k,sm.n,sm.r,by show(y.sides.set _ _).length<=_; rw[List.length_set]; exact sm.s,sm.m,sm.g,Nat.zero_le _⟩,Y3⟩
  ·rintro σ' H2 ⟨y',sd',o3,rfl,fl,sm',Y'⟩
   obtain⟨ss,es,_⟩:=Y'.sides
   obtain⟨A1,gy⟩:=Y'.obj
   refine⟨_,U,p,A1.dx,_,U,gy,(aY _ _ _).2.2.2.1,?_⟩
   refine cZ Y' sm' fun H3 l Y3=>?_
   have ln:y'.sides.length=ss.length:=by rw[es,um]
   have sl':ss.length<=10000:=by have:=sm'.s; omega
   rw[ln] at Y3
   refine⟨l,U,⟨_,SqL.of (Y3.at_ uk)⟩,fun D hD=>?_⟩
   refine⟨fun n m zs H'=>m=ss.length - n/\n<=ss.length/\zs=(ss.take n).map V.int/\YIn t.c_Yard H' p y' ((D,.lst zs)::(l,.lst (aX ss.length))::(sa,.lst (sd'.map V.int))::L),⟨ss.length,U,Nat.zero_le _,U,Y3.alloc hD _⟩,?_⟩
   rintro n m' zs H' ⟨rfl,hn,rfl,Y4⟩
   refine⟨Y4.at_ uk,?_⟩
   have g1:SqL K H' l (aX ss.length):=SqL.of (Y4.at_ (uj _ uk))
   by_cases hlt:n<ss.length
   ·refine .inr ⟨⟨_,_,g1,bu hlt⟩,?_⟩
    rintro x H2 ⟨rfl,hx1⟩
    have hx2:=hx1 _ g1
    rw[bu hlt] at hx2
    cases hx2
    refine⟨U,bT ?_⟩
    obtain⟨A2,gy2⟩:=Y4.obj
    refine⟨_,U,p,A2.dx,_,U,gy2,(aY _ _ _).2.2.2.2.2.1,_,U,?_⟩
    refine tn0 ?_
    refine dy Y4 (by omega) (v:=.int ss[n]) (by rw[es,Int.toNat_natCast,ur,uo hlt]; rfl) ?_
    refine⟨sizeOk (by rw[um,uI]; omega),Y4.at_ uk,ss.length - (n+1),by omega,U,hlt,?_,Y4.put0 _⟩
    rw[List.take_succ,uw,uo hlt]; rfl
   have en:n=ss.length:=by omega
   subst en
   refine .inl ⟨⟨_,g1,by rw[bp]; omega⟩,?_⟩
   rw[List.take_length] at Y4
   exact q _ y' sd' D ss [(D,.lst (ss.map V.int)),(l,.lst (aX ss.length))] fl es (Y4.perm (((List.Perm.swap _ _ _).cons _).trans (.swap _ _ _))) uk
end
end P
set_option Elab.async false
set_option linter.all false
set_option maxRecDepth 100000
namespace L2
open PySem PySem.Spec PyProof.Rows
section
variable {X:Cx}
noncomputable def pc:V->List V->Hp->VK->Prop:=fun x vs H Q=>∃ (l:Addr) (xs:List V) (y:V) (k:Nat),x=.ref l/\vs=[.int k,y]/\H l=some (.lst xs)/\k<=xs.length/\xs.length<=100000/\Q .non (upd H l (.lst (xs.take k++y::xs.drop k)))
theorem Vals.app2 {xs ys:List V}{a b:List Value} (h:Vals xs a) (g:Vals ys b):Vals (xs++ys) (a++b):=by
 induction h with
 | nil=>exact g
 | cons a _ ih=>exact .cons a ih
theorem lK (l:Addr) (its:List Value) (n k:Nat) (z:Int) (ez:z=k) (t:Tok) (u:Value) (hk:k<=its.length) (hz:its.length<=100000) :
  Meets (Builtin.«list.insert» ⟨[.ref l,.int z t,u],[]⟩) (fun _ R s=>s.heap.get? l=some { cls:=.type "list",dict:=none,data:=.seq its.toArray n,slots:=#[] }/\R (.ok (.ret Value.none)) { s with heap:=s.heap.update l (Obj.mapSeq fun xs=>have k:=if z<0 then(z+((xs.size:Nat):Int)).toNat else min z.toNat xs.size; (xs.extract 0 k).push u++xs.extract k),toks:=s.toks }):=by
 have fit:Builtin.List.listFitsIndex z=true:=by
  unfold Builtin.List.listFitsIndex
  have p:(2:Int) ^ 63=9223372036854775808:=by decide
  rw[p]
  simp only[Bool.and_eq_true,decide_eq_true_eq]
  constructor <;> omega
 have hsz:its.toArray.size<=sizeLine:=by rw[uE]; exact Nat.le_of_lt (sizeOk (by omega))
 exact AutoSeq1.list_insert_list_int_val_1 l its.toArray n z t u (by rw[fit]; decide) hsz
theorem lu:MtM X "list.insert" pc:=by
 intro pins s σ H x vs v us Q I rx rv h
 obtain⟨l,xs,y,k,rfl,rfl,hH,hk,hz,q⟩:=h
 cases rx
 obtain⟨u0,u,rfl,r0,ru⟩:=j5 rv
 obtain⟨z,ez⟩:∃ z:Int,z=k:=⟨_,U⟩
 rw[<- ez] at r0
 obtain⟨t,rfl⟩:=(show ∃ t,u0=Value.int z t from r0)
 obtain⟨_,its,n,r,hl,e⟩:=I.lstM hH
 refine call_meets F.slot_list_insert ⟨_,e,U⟩ F.entry_list_insert (F.args_list_insert_3 _ _ _) (lK l its n k z ez t u (by omega) (by omega)) ⟨e,?_⟩
 refine⟨.non,_,I.lset (its':=its.take k++u::its.drop k) hH e ?_ ((r.take k).app2 (.cons ru (r.drop k))) ?_,U,q⟩
 ·apply Array.toList_inj.mp
  have hk2:(if z<0 then(z+((its.toArray.size:Nat):Int)).toNat else min z.toNat its.toArray.size)=k:=by
   rw[if_neg (by omega),uE]; omega
  simp only[hk2]
  simp
  exact List.take_of_length_le (by rw[List.length_drop]; omega)
 ·rw[uq,uv,uI,List.length_drop]
  have h2:xs.length+1<sizeLine:=sizeOk (by omega)
  omega
end
end L2
set_option Elab.async false
set_option linter.all false
set_option maxRecDepth 100000
set_option maxHeartbeats 4000000
namespace P
open PySem L2
inductive Rn (w:Wd):Nat->Sd->Sd->Prop
 | refl (s:Sd):Rn w 0 s s
 | step {n:Nat}{s t u:Sd} (h:w.nx s=some t) (r:Rn w n t u):Rn w (n+1) s u
variable{w:Wd}
theorem Rn.trans {n m:Nat}{s t u:Sd} (h:Rn w n s t) (g:Rn w m t u):Rn w (n+m) s u:=by
 induction h with
 | refl s=>rw[Nat.zero_add]; exact g
 | @step n s t v h _ ih=>
  have:=Rn.step h (ih g)
  rw[show n+1+m=n+m+1 by omega]
  exact this
theorem Rn.go {n:Nat}{s t:Sd} (h:Rn w n s t):w.go n s=t:=by
 induction h with
 | refl s=>rfl
 | @step n s t u h _ ih=>
  show(match w.nx s with | none=>s | some s'=>w.go n s')=_
  rw[h]
  exact ih
noncomputable def AtE (s:Sd) (z:Int×Int) (ss rg:List Int):Prop:=(∃ a,s.at_=some (a,z))/\s.ss=ss/\s.rg=rg
noncomputable def Out (w:Wd) (s:Sd) (x:Int×Int) (ss rg:List Int):Prop:=(∃ z,w.mf x.1 x.2=some z/\s.at_=some z)/\s.ss=ss/\s.rg=rg
variable{L:Kn}
theorem Out.at_ {s:Sd}{x z:Int×Int}{ss rg:List Int}{y:YR} (h:Out w s x ss rg) (W:WY w y L) (m:Mt y L x z):AtE s z ss rg:=by
 obtain⟨⟨u,h1,h2⟩,h3⟩:=h
 obtain⟨a,h4⟩:=W.m _ _ m
 rw[h1] at h4
 cases h4
 exact⟨⟨a,h2⟩,h3⟩
theorem dY (l:List Int) (i:Nat):l.set i (l.getD i 0)=l:=by
 refine List.ext_getElem? fun j=>?_
 rw[List.getElem?_set]
 split
 ·rename_i c
  subst c
  split
  ·rename_i hi
   rw[List.getD_eq_getElem?_getD,uo hi]; rfl
  ·rename_i hi
   rw[List.getElem?_eq_none (by omega)]
 ·rfl
theorem AtE.step {w:Wd}{s:Sd}{p e o:Int}{ss rg:List Int}{k:Kd}{z:En} (h:AtE s (p,e) ss rg) (hk:w.kf p=some k) (ho:k.out e (ss.getD (w.rf p).toNat 0)=.int o) (hm:w.mf p o=some z) :
  ∃ t,w.nx s=some t/\Out w t (p,o) (if k.point then ss.set (w.rf p).toNat (k.side e (ss.getD (w.rf p).toNat 0)) else ss) (if k=.bell then rg++[w.nf p] else rg):=by
 obtain⟨⟨a,h1⟩,rfl,rfl⟩:=h
 refine⟨bd w s (a,p,e) k z,?_,⟨z,hm,U⟩,U,U⟩
 unfold Wd.nx
 rw[h1]
 show(match w.kf p with | none=>none | some k=>match k.out e (w.sv s p) with | .int o=>(w.mf p o).map (bd w s (a,p,e) k) | _=>none)=_
 rw[hk]
 show(match k.out e (w.sv s p) with | .int o=>(w.mf p o).map (bd w s (a,p,e) k) | _=>none)=_
 rw[show k.out e (w.sv s p)=.int o from ho]
 show(w.mf p o).map _=_
 rw[hm]
 rfl
theorem iH {w:Wd}{s:Sd} (h:w.nx s=none):∀ k,w.go k s=s/\w.hist k s=[]
 | 0=>⟨U,U⟩
 | k+1=>by
  constructor
  ·show(match w.nx s with | none=>s | some s'=>w.go k s')=_
   rw[h]
  ·show(match w.nx s with | none=>[] | some s'=>s::w.hist k s')=_
   rw[h]
theorem Rn.held {n:Nat}{s t:Sd} (h:Rn w n s t) (ht:w.nx t=none):∀ k,n<=k->w.go k s=t/\(w.hist k s).length=n:=by
 induction h with
 | refl s=>intro k _; rw[(iH ht k).1,(iH ht k).2]; exact⟨U,U⟩
 | @step n s t u h _ ih=>
  intro k hk
  obtain⟨k,rfl⟩:∃ k',k=k'+1:=⟨k - 1,by omega⟩
  obtain⟨a,b⟩:=ih ht k (by omega)
  constructor
  ·show(match w.nx s with | none=>s | some s'=>w.go k s')=_
   rw[h]; exact a
  ·show(match w.nx s with | none=>[] | some s'=>s::w.hist k s').length=_
   rw[h]
   show(s::w.hist k t).length=_
   rw[uv,b]
theorem kK (w:Wd):∀ (n:Nat) (s:Sd),(w.hist n s).length<=n
 | 0,_=>Nat.le_refl _
 | n+1,s=>by
  show(match w.nx s with | none=>[] | some s'=>s::w.hist n s').length<=_
  cases h:w.nx s with
  | none=>exact Nat.zero_le _
  | some t=>
   show(s::w.hist n t).length<=_
   rw[uv]
   have:=kK w n t
   omega
theorem i8 {y:YR}{rg:Int} (W:WY w y L) (R:Rgs y L rg):∀ (n:Nat) (s:Sd),(s.at_=none∨∃ a,s.at_=some (a,rg,0))->(w.go n s).ss=s.ss/\(w.go n s).rg.length<=s.rg.length+n/\((s.at_=none/\(w.go n s).at_=none)∨((∃ a,s.at_=some (a,rg,0))/\∃ a,(w.go n s).at_=some (a,rg,0)))
 | 0,s,h=>⟨U,Nat.le_refl _,by rcases h with h | h; exact .inl ⟨h,h⟩; exact .inr ⟨h,h⟩⟩
 | n+1,s,h=>by
  rcases h with h | h
  ·have e:=(iH (w:=w) (jP h) (n+1)).1
   rw[e]
   exact⟨U,by omega,.inl ⟨h,h⟩⟩
  ·obtain⟨b,hm⟩:=W.m _ _ R.m
   obtain⟨t,nx,o⟩:=(show AtE s (rg,0) s.ss s.rg from⟨h,U,U⟩).step (o:=1) (W.k _ _ R.k) rfl hm
   rw[if_neg (by decide),if_pos rfl] at o
   have at1:=o.at_ W R.m
   have e:w.go (n+1) s=w.go n t:=by
    show(match w.nx s with | none=>s | some s'=>w.go n s')=_
    rw[nx]
   obtain⟨a1,a2,a3⟩:=i8 W R n t (.inr at1.1)
   rw[e]
   refine⟨a1.trans at1.2.1,?_,?_⟩
   ·have:=at1.2.2
    rw[this,uq,uB] at a2
    omega
   ·rcases a3 with ⟨a3,_⟩ | ⟨_,a3⟩
    ·obtain⟨c,hc⟩:=at1.1
     rw[hc] at a3; cases a3
    ·exact .inr ⟨h,a3⟩
noncomputable def Eq3 (y:YR) (L:Kn) (v:V) (rg:Int):Prop:=(v=.non/\y.eng=.non)∨∃ (b c:Addr),v=.ref b/\y.eng=.ref c/\pK2 (b,rg,0) ∈ L/\pK2 (c,rg,0) ∈ L
theorem Eq3.mono {y y':YR}{L L':Kn}{v:V}{rg:Int} (h:Eq3 y L v rg) (s:∀ x ∈ L,x ∈ L') (e:y'.eng=y.eng):Eq3 y' L' v rg:=by
 rcases h with h | ⟨b,c,h1,h2,h3,h4⟩
 ·exact .inl ⟨h.1,e.trans h.2⟩
 ·exact .inr ⟨b,c,h1,e.trans h2,s _ h3,s _ h4⟩
theorem Eq3.run {s:Sd}{y y':YR}{L Nw:Kn}{v:V}{rg:Int}{n:Nat} (h:Eq3 y L v rg) (G:GW w s y L) (W:WY w y L) (E:sO s y L) (R:Rgs y L rg) (G':GW w (w.go n s) y' (Nw++L)) :
  y'.sides=y.sides/\y'.rung.length<=y.rung.length+n/\Eq3 y' (Nw++L) v rg:=by
 have hs:s.at_=none∨∃ a,s.at_=some (a,rg,0):=by
  rcases h with ⟨_,h⟩ | ⟨b,c,h1,h2,h3,h4⟩
  ·have:=G.R.en
   rw[h] at this
   cases hz:s.at_ with
   | none=>exact .inl rfl
   | some z=>rw[hz] at this; cases this
  ·exact .inr ⟨c,E c _ h2 h4⟩
 obtain⟨a1,a2,a3⟩:=i8 W R n s hs
 refine⟨by rw[G'.R.sd,a1,G.R.sd],by rw[G'.R.rg,G.R.rg,um,um]; exact a2,?_⟩
 have en:=G.R.en
 have en':=G'.R.en
 rcases a3 with ⟨e1,e2⟩ | ⟨⟨a,e1⟩,a',e2⟩
 ·rw[e1] at en
  rw[e2] at en'
  rcases h with ⟨h1,_⟩ | ⟨_,_,_,h2,_⟩
  ·exact .inl ⟨h1,en'⟩
  ·rw[en] at h2; cases h2
 ·rw[e1] at en
  rw[e2] at en'
  rcases h with ⟨_,h1⟩ | ⟨b,c,h1,h2,h3,h4⟩
  ·rw[en] at h1; cases h1
  ·obtain⟨j,hj⟩:=G'.P.e _ e2
   exact .inr ⟨b,a',h1,en',ul _ h3,ut hj⟩
section
variable {C:Addr}{H:Hp}{p:Addr}{y:YR}{L X Nw:Kn}{Q:V->Hp->Prop}
theorem YIn.front (Y:YIn C H p y (Nw++(X++L))):YIn C H p y (X++(Nw++L)):=Y.perm (List.perm_append_comm_assoc Nw X L)
theorem YIn.front1 {a:Addr×HO} (Y:YIn C H p y (a::(X++L))):YIn C H p y (X++(a::L)):=Y.perm List.perm_middle.symm
theorem Mt.tup {L':Kn}{x z:Int×Int} (h:Mt y L x z) (s:∀ z:Pr,pK2 z ∈ L->pK2 z ∈ L'):Mt y L' x z:=by
 obtain⟨b,h1,h2⟩:=h
 exact⟨b,h1,s _ h2⟩
theorem Eq3.tup {L':Kn}{v:V}{rg:Int} (h:Eq3 y L v rg) (s:∀ z:Pr,pK2 z ∈ L->pK2 z ∈ L'):Eq3 y L' v rg:=by
 rcases h with h | ⟨b,c,h1,h2,h3,h4⟩
 ·exact .inl h
 ·exact .inr ⟨b,c,h1,h2,s _ h3,s _ h4⟩
theorem noX (hX:∀ z:Pr,pK2 z ∉ X) (z:Pr) (h:pK2 z ∈ Nw++(X++L)):pK2 z ∈ Nw++L:=by
 rcases uA.mp h with h | h
 ·exact uC _ h
 ·rcases uA.mp h with h | h
  ·exact absurd h (hX z)
  ·exact ul _ h
theorem mZ {v:V}{rg:Int}{n:Nat} (Y:YIn C H p y (X++L)) (hX:∀ z:Pr,pK2 z ∉ X) (et:y.trail=[]) (b1:n<=100000) (b2:y.rung.length<=200000) (R:Rgs y L rg) (e:Eq3 y L v rg)
  (q:∀ H' y' Nw k,y'.next=y.next->y'.kinds=y.kinds->y'.notes=y.notes->y'.rods=y.rods->y'.mates=y.mates->y'.sides=y.sides->y'.rung.length<=y.rung.length+n->y'.trail.length<=n->Eq3 y' (Nw++L) v rg->YIn C H' p y' (X++(Nw++L))->Q (.int k) H'):sp_run C [.ref p,.int n] H Q E0:=by
 have sX:∀ x ∈ L,x ∈ X++L:=fun x hx=>ul _ hx
 refine iq Y et (by omega) b2 fun W s G wy eg H' y' Nw G' n1 n2 n3 n4 n5 n6 Y'=>?_
 obtain⟨a1,a2,a3⟩:=(e.mono sX rfl).run G wy eg (R.up (Up.refl _) sX) G'
 rw[Int.toNat_natCast] at n6 a2 ⊢
 have:=kK W n s
 exact q H' y' Nw _ n1 n2 n3 n4 n5 a1 a2 (by omega) (a3.tup (noX hX)) Y'.front
end
inductive Ch (y:YR) (L:Kn):Nat->Int×Int->Int×Int->Prop
 | refl (x:Int×Int):Ch y L 0 x x
 | still {n:Nat}{x w:Int×Int}{s a:Int} (m:Mt y L x (s,a)) (k:Kp y s .still) (ha:a=1∨a=2) (c:Ch y L n (s,0) w):Ch y L (n+1) x w
noncomputable def Lead (y:YR) (L:Kn) (b:Nat) (x z:Int×Int):Prop:=∃ n w,n<=b/\Ch y L n x w/\Mt y L w z
theorem Ch.up {y y':YR}{L L':Kn}{n:Nat}{x z:Int×Int} (h:Ch y L n x z) (u:Up y y') (s:∀ v ∈ L,v ∈ L'):Ch y' L' n x z:=by
 induction h with
 | refl x=>exact .refl x
 | still m k ha _ ih=>exact .still (m.up u s) (k.up u) ha ih
theorem Ch.snoc {y:YR}{n:Nat}{x w:Int×Int}{s a:Int} (h:Ch y L n x w) (m:Mt y L w (s,a)) (k:Kp y s .still) (ha:a=1∨a=2):Ch y L (n+1) x (s,0):=by
 induction h with
 | refl x=>exact .still m k ha (.refl _)
 | still m' k' ha' _ ih=>exact .still m' k' ha' (ih m)
theorem Lead.up {y y':YR}{L L':Kn}{b:Nat}{x z:Int×Int} (h:Lead y L b x z) (u:Up y y') (s:∀ v ∈ L,v ∈ L'):Lead y' L' b x z:=by
 obtain⟨n,w,h0,h1,h2⟩:=h
 exact⟨n,w,h0,h1.up u s,h2.up u s⟩
inductive sp_merge (C:Addr) (vs:List V) (H:Hp) (Q:VK) (E_:XK):Prop
 | mk (p:Addr) (y:YR) (L:Kn) (lo:Addr) (zs:List Pr) (z:Pr) (N M R:Nat) (_:vs=[.ref p,.ref lo,.ref z.1]) (_:YIn C H p y L) (_:(lo,HO.lst (prV zs)) ∈ L) (_:(∀ x ∈ zs,pK2 x ∈ L)) (_:pK2 z ∈ L) (_:Ld y N M R) (_:(zs.map (·.2)).Nodup) (_:z.2 ∉ zs.map (·.2)) (_:(∀ x ∈ zs,Fr y x.2)) (_:Fr y z.2) (_:N+zs.length<=8000) (_:M+4*zs.length<=29000) (_:R<=1000) (_:∀ H' y' Nw M',Ld y' (N+(zs.length - 1)) M' R->(zs≠[]->y'.trail=[])->(zs=[]->y'=y)->y'.kinds.length=y.kinds.length+(zs.length - 1)->M'<=M+4*zs.length->Up y y'->(∀ x,Fr y x->x ∉ zs.map (·.2)->x≠z.2->Fr y' x)->(∀ x ∈ zs,Lead y' (Nw++L) (zs.length - 1) x.2 z.2)->YIn C H' p y' (Nw++L)->Q .non H'):sp_merge C vs H Q E_
inductive mrg1Inv (C_:Addr) (p:Addr) (lo:Addr) (z:Pr) (z0:Pr) (zr:List Pr) (y:YR) (N:Nat) (M:Nat) (R:Nat) (L:Kn) (m:Nat) (σ':St) (H':Hp):Prop
 | mk (y':YR) (Nw:Kn) (wl:Addr) (ws:List Pr) (N' M':Nat) (o:Option V) (_:m=ws.length) (_:σ'=[some (.ref p),some (.ref lo),some (.ref z.1),some (.ref wl),o]) (_:YIn C_ H' p y' ((wl,.lst (prV ws))::(Nw++L))) (_:ws≠[]) (_:(∀ x ∈ ws,pK2 x ∈ Nw++L)) (_:Ld y' N' M' R) (_:N'+ws.length=N+(z0::zr).length) (_:y'.kinds.length+ws.length=y.kinds.length+(z0::zr).length) (_:M'+4*ws.length=M+4*(z0::zr).length) (_:(ws.map (·.2)).Nodup) (_:z.2 ∉ ws.map (·.2)) (_:(∀ x ∈ ws,Fr y' x.2)) (_:Fr y' z.2) (_:(∀ x,Fr y x->x ∉ (z0::zr).map (·.2)->x≠z.2->Fr y' x/\x ∉ ws.map (·.2))) (_:Up y y') (_:(∀ x ∈ z0::zr,∃ w ∈ ws,∃ n,n+ws.length<=(z0::zr).length/\Ch y' (Nw++L) n x.2 w.2)):mrg1Inv C_ p lo z z0 zr y N M R L m σ' H'
section
variable {P:Program}{w:World}{K:PySem.W.Frag}{mg:Str->Option Value}{base:Heap}{t:Adr}
theorem scMe:FnScope ["yard","outs","end","waiting","point"] ["yard","outs","end"] (ah j9):={}
theorem fY (T:Txt K mg t):FnOk P w K mg base CX0 5 t.f_merge t.d_merge ["yard","outs","end"] (sp_merge t.c_Yard):=by
 obtain⟨ds_l2,hd_Ja1_2,hb_Ja1_2⟩:=cY T
 refine T.F_merge.ok scMe (fun vs H Q E h=>?_) (fun cdv A outer s H vs Q E hr h=>?_)
 ·obtain⟨_,_,_,_,_,_,_,_,_,rfl,_⟩:=h
  rfl
 ·obtain⟨p,y,L,lo,zs,z,N,M,R,rfl,Y,mlo,mzs,mz,D,nd,nz,fz,fe,bN,bM,bR,q⟩:=h
  refine⟨_,(ac (aA (bP (ja (pv 1) (by intro _; rfl)))
    (af pi)
    aj)
   (ac (aD (i:=3) scMe.nd rfl (Or.inl rfl) (aU bI (by rfl) T.z_list (by rfl) (aa (pv 1) ae)))
   (ac (fX PassesOwn.never (ai dG (aG ay (by rfl) T.z_len (by rfl) (aa (pv 3) ae)) ag (am _))
    (ac (aD (i:=4) scMe.nd rfl (Or.inl rfl) (ao (pv 0) T.cl_Yard T.M_Ja1 (cG T) hr hb_Ja1_2 hd_Ja1_2 ap (aa aJ ae)))
     (ac (al (ao (pv 0) T.cl_Yard T.M_J11 (dO T) hr (gF T) .nil ap (@aa _ _ _ _ _ (aF ar (pv 3) ag) (@aa _ _ _ _ _ (aI (aa (pv 4) (aa ag ae))) ae (by rfl)) (by rfl))))
     (ac (al (ao (pv 0) T.cl_Yard T.M_J11 (dO T) hr (gF T) .nil ap (@aa _ _ _ _ _ (aF ar (pv 3) ag) (@aa _ _ _ _ _ (aI (aa (pv 4) (aa ag ae))) ae (by rfl)) (by rfl))))
     (af (aD (i:=3) scMe.nd rfl (Or.inl rfl) (az kA (dm dX (pv 3) (d3 ag) d4) (bb (@aa _ _ _ _ _ (aI (aa (pv 4) (aa ag ae))) ae (by rfl))))))))))
   (af (al (ao (pv 0) T.cl_Yard T.M_J11 (dO T) hr (gF T) .nil ap (aa (aF ar (pv 3) ag) (aa (pv 2) ae)))))))),?_⟩
  rw[show L2.start ["yard","outs","end","waiting","point"] [V.ref p,V.ref lo,V.ref z.1]=([some (V.ref p),some (V.ref lo),some (V.ref z.1),none,none]:St) from rfl]
  cases zs with
  | nil=>
   refine⟨_,U,false,.inl ⟨_,SqL.of (Y.at_ mlo),U⟩,df ?_⟩
   exact q _ y [] M D (fun c=>absurd rfl c) (fun _=>rfl) rfl (by omega) (Up.refl _) (fun x h _ _=>h) (fun x hx=>(nomatch hx)) Y
  | cons z0 zr=>
  refine⟨_,U,true,.inl ⟨_,SqL.of (Y.at_ mlo),U⟩,bA ?_⟩
  refine⟨_,U,lo,_,U,.inl (SqL.of (Y.at_ mlo)),fun wl hwl=>?_⟩
  dsimp only[List.set]
  refine⟨(mrg1Inv t.c_Yard p lo z z0 zr y N M R L),
   ⟨_,y,[],wl,z0::zr,N,M,none,U,U,Y.alloc hwl _,(fun c=>nomatch c),mzs,D,U,U,U,nd,nz,fz,fe,fun x h1 h2 _=>⟨h1,h2⟩,Up.refl _,fun x hx=>⟨x,hx,0,by omega,.refl _⟩⟩,?_⟩
  rintro m σ H1 ⟨y1,Nw,wl,ws,N1,M1,o,rfl,rfl,Y1,hne,mws,D1,eN,kln,eM,nd1,nz1,fw,fe1,old,up,chs⟩
  have gw:=Y1.at_ uk
  refine⟨_,U,wl,_,U,.inl (SqL.of gw),_,_,U,U,_,U,?_⟩
  have lw:(prV ws).length=ws.length:=by unfold prV; rw[um]
  match ws,hne with
  | [a],_=>
   refine ifF (decide_eq_false (by rw[lw]; simp)) ?_
   obtain⟨A1,gy⟩:=Y1.obj
   refine⟨_,U,p,A1.dx,_,U,gy,(b7 _ _ _).2.2.1,_,U,wl,_,_,_,U,U,SqL.of gw,aL (j:=0) rfl,_,U,?_⟩
   have fa:=fw a uk
   have ne:a.2≠z.2:=fun c=>nz1 (by rw[<- c]; exact uk)
   refine fL Y1 D1 (by simp at eM bM; omega) (uj _ (mws a uk)) (uj _ (ul _ mz)) fa fe1 ne (fun H2 Y2=>?_)
   have D2:=D1.link fa fe1
   have e:N1=N+((z0::zr).length - 1):=by simp at eN ⊢; omega
   rw[e] at D2
   refine q H2 _ ((wl,.lst (prV [a]))::Nw) _ D2 (fun _=>rfl) (fun c=>nomatch c) (by simp only[uv,List.length_nil] at kln ⊢; show y1.kinds.length=_; omega) (by simp at eM ⊢; omega) (up.trans (Up.link fa fe1)) (fun x h1 h2 h3=>?_) (fun x hx=>?_) Y2
   ·obtain⟨h4,h5⟩:=old x h1 h2 h3
    exact h4.link (fun c=>h5 (by rw[c]; exact uk)) h3
   ·obtain⟨w',hw',nc,hnc,cw⟩:=chs x hx
    cases uu.mp hw'
    exact⟨nc,a.2,by simp only[uv,List.length_nil] at hnc ⊢; omega,cw.up (Up.link fa fe1) (fun v hv=>uj _ hv),Mt.l1 (uj _ (ul _ mz)) ne⟩
  | a::b::r,_=>
   refine ifT (decide_eq_true (by rw[lw]; simp; omega)) ?_
   refine⟨_,fun σ' H' h=>h,?_⟩
   obtain⟨A1,gy⟩:=Y1.obj
   simp only[uv] at eN eM bN bM
   refine⟨_,U,p,A1.dx,_,U,gy,(aY _ _ _).1,?_⟩
   refine tc1 ?_
   refine fc Y1 D1 ⟨by omega,by omega,bR⟩ .still 0 .non (fun c=>nomatch c) (fun _ c=>absurd rfl c) (fun H2 Y2=>?_)
   have D2:=D1.lay .still 0 .non
   have fa:=(fw a uk).lay D1 .still 0 .non
   have fb:=(fw b (uj _ uk)).lay D1 .still 0 .non
   have f0:Fr _ ((N1:Int),0):=Fr.new D1 .still 0 .non (Int.le_refl _) (by decide)
   have f1:Fr _ ((N1:Int),1):=Fr.new D1 .still 0 .non (by decide) (by decide)
   have f2:Fr _ ((N1:Int),2):=Fr.new D1 .still 0 .non (by decide) (by decide)
   have no:∀ x e,Fr y1 x->x≠((N1:Int),e):=fun x e h=>h.ne D1
   have old2:∀ x,Fr y1 x->Fr (aN y1 .still 0 .non) x:=fun x h=>h.lay D1 .still 0 .non
   have up2:=up.trans (D1.up .still 0 .non)
   have u2:=D1.up .still 0 .non
   have k2:Kp _ N1 .still:=Kp.lay D1 .still 0 .non
   have kl2:(aN y1 .still 0 .non).kinds.length=y1.kinds.length+1:=pf (D1.fr _ (Int.le_refl _)).1
   obtain⟨y2,ey2⟩:∃ y2,aN y1 .still 0 .non=y2:=⟨_,U⟩
   rw[ey2] at kl2 u2 k2 up2 Y2 D2 fa fb f0 f1 f2 old2
   have mw:∀ x ∈ a::b::r,pK2 x ∈ (wl,HO.lst (prV (a::b::r)))::(Nw++L):=fun x hx=>uj _ (mws x hx)
   have ab:a.2≠b.2:=fun c=>(List.nodup_cons.mp nd1).1 (by show a.2 ∈ _; rw[c]; exact uk)
   have na:=no _ 1 (fw a uk)
   have n01:∀ i j:Int,i≠j->((N1:Int),i)≠((N1:Int),j):=fun i j h c=>h (by injection c)
   have ra:a.2 ∉ r.map (·.2):=fun h=>(List.nodup_cons.mp nd1).1 (uj _ h)
   have nd2:=(List.nodup_cons.mp nd1).2
   have rb:b.2 ∉ r.map (·.2):=(List.nodup_cons.mp nd2).1
   dsimp only[List.set]
   obtain⟨A2,gy2⟩:=Y2.obj
   have gw2:=Y2.at_ uk
   refine⟨_,U,p,A2.dx,_,U,gy2,(b7 _ _ _).2.2.1,_,U,wl,_,_,_,U,U,SqL.of gw2,aL (j:=0) rfl,_,U,(show 2<=sizeLine by decide),fun b1 hb1=>?_⟩
   have Y3:=Y2.alloc hb1 (.tup [.int N1,.int 1])
   refine tn0 ?_
   refine fL (b:=(b1,(N1:Int),1)) Y3 D2 (by omega) (uj _ (mw a uk)) uk fa f1 na (fun H4 Y4=>?_)
   have D4:=D2.link (b:=(b1,(N1:Int),1)) fa f1
   have fb4:=fb.link (a:=a) (b:=(b1,(N1:Int),1)) (fun c=>ab c.symm) (no _ 1 (fw b (uj _ uk)))
   have f24:=f2.link (a:=a) (b:=(b1,(N1:Int),1)) (fun c=>no _ 2 (fw a uk) c.symm) (n01 _ _ (by decide))
   have f04:=f0.link (a:=a) (b:=(b1,(N1:Int),1)) (fun c=>no _ 0 (fw a uk) c.symm) (n01 _ _ (by decide))
   have old4:∀ x,Fr y1 x->x≠a.2->Fr (b6 y2 a (b1,(N1:Int),1)) x:=fun x h1 h2=>(old2 x h1).link h2 (no x 1 h1)
   have up4:=up2.trans (Up.link (b:=(b1,(N1:Int),1)) fa f1)
   have u4:=u2.trans (Up.link (b:=(b1,(N1:Int),1)) fa f1)
   have k4:=k2.up (Up.link (b:=(b1,(N1:Int),1)) fa f1)
   have m4:∀ L',pK2 (b1,(N1:Int),1) ∈ L'->Mt (b6 y2 a (b1,(N1:Int),1)) L' a.2 ((N1:Int),1):=fun L' h=>Mt.l1 (b:=(b1,(N1:Int),1)) h na
   obtain⟨y4,ey4⟩:∃ y4,b6 y2 a (b1,(N1:Int),1)=y4:=⟨_,U⟩
   rw[ey4] at u4 k4 m4 up4 Y4 D4 fb4 f24 f04 old4
   obtain⟨A4,gy4⟩:=Y4.obj
   have gw4:=Y4.at_ (uj _ uk)
   refine⟨_,U,p,A4.dx,_,U,gy4,(b7 _ _ _).2.2.1,_,U,wl,_,_,_,U,U,SqL.of gw4,aL (j:=1) rfl,_,U,(show 2<=sizeLine by decide),fun b2 hb2=>?_⟩
   have Y5:=Y4.alloc hb2 (.tup [.int N1,.int 2])
   refine tn0 ?_
   refine fL (b:=(b2,(N1:Int),2)) Y5 D4 (by omega) (uj _ (uj _ (mw b (uj _ uk)))) uk fb4 f24 (no _ 2 (fw b (uj _ uk))) (fun H6 Y6=>?_)
   have D6:=D4.link (b:=(b2,(N1:Int),2)) fb4 f24
   have f06:=f04.link (a:=b) (b:=(b2,(N1:Int),2)) (fun c=>no _ 0 (fw b (uj _ uk)) c.symm) (n01 _ _ (by decide))
   have old6:∀ x,Fr y1 x->x≠a.2->x≠b.2->Fr (b6 y4 b (b2,(N1:Int),2)) x:=fun x h1 h2 h3=>(old4 x h1 h2).link h3 (no x 2 h1)
   have up6:=up4.trans (Up.link (b:=(b2,(N1:Int),2)) fb4 f24)
   have l6:=Up.link (a:=b) (b:=(b2,(N1:Int),2)) fb4 f24
   have u6:=u4.trans l6
   have k6:=k4.up l6
   have m6:∀ L',pK2 (b2,(N1:Int),2) ∈ L'->Mt (b6 y4 b (b2,(N1:Int),2)) L' b.2 ((N1:Int),2):=fun L' h=>Mt.l1 (b:=(b2,(N1:Int),2)) h (no _ 2 (fw b (uj _ uk)))
   have kl6:(b6 y4 b (b2,(N1:Int),2)).kinds.length=y1.kinds.length+1:=by rw[<- ey4]; exact kl2
   obtain⟨y6,ey6⟩:∃ y6,b6 y4 b (b2,(N1:Int),2)=y6:=⟨_,U⟩
   rw[ey6] at kl6 l6 u6 k6 m6 up6 Y6 D6 f06 old6
   have gw6:=Y6.at_ (uj _ (uj _ uk))
   refine⟨_,U,_,U,wl,_,U,SqL.of gw6,fun c1 hc1=>?_⟩
   have e2:di (prV (a::b::r)) (some 2) none=prV r:=cut2 _ _ _
   rw[e2]
   have Y7:=Y6.alloc hc1 (.lst (prV r))
   refine⟨_,U,(show 2<=sizeLine by decide),fun b3 hb3=>?_⟩
   have Y8:=Y7.alloc hb3 (.tup [.int N1,.int 0])
   refine⟨(sz_ 1),fun c2 hc2=>?_⟩
   have Y9:=Y8.alloc hc2 (.lst [.ref b3])
   refine⟨c1,c2,_,_,U,U,SqL.of (Y9.at_ (uj _ (uj _ uk))),SqL.of (Y9.at_ uk),sz (show _<=1000000 by unfold prV; rw[um,uB]; omega),fun w2 hw2=>?_⟩
   have Y10:=Y9.alloc hw2 (.lst (prV r++[.ref b3]))
   have er:prV r++[.ref b3]=prV (r++[(b3,(N1:Int),0)]):=by unfold prV; rw[uw]; rfl
   have em:(r++[(b3,(N1:Int),0)]).map (fun x:Pr=>x.2)=r.map (·.2)++[((N1:Int),0)]:=by rw[uw]; rfl
   have n0r:((N1:Int),0) ∉ r.map (·.2):=fun h=>by
    obtain⟨x,hx,e⟩:=uK.mp h
    exact no x.2 0 (fw x (uj _ (uj _ hx))) e
   rw[er] at Y10 ⊢
   refine⟨(r++[(b3,(N1:Int),0)]).length,by simp,y6,(c2,.lst [.ref b3])::(b3,.tup [.int N1,.int 0])::(c1,.lst (prV r))::(b2,.tup [.int N1,.int 2])::(b1,.tup [.int N1,.int 1])::(wl,.lst (prV (a::b::r)))::Nw,w2,r++[(b3,(N1:Int),0)],N1+1,M1+2+2,_,U,U,Y10,?_,?_,D6,by simp at eN ⊢; omega,by rw[kl6]; simp only[uv,uq,List.length_nil] at kln ⊢; omega,by simp at eM ⊢; omega,?_,?_,?_,?_,?_,up6,?_⟩
   ·exact fun c=>by simp at c
   ·intro x hx
    rcases uA.mp hx with hx | hx
    ·simp only[List.cons_append]
     exact uj _ (uj _ (uj _ (uj _ (uj _ (uj _ (mws x (uj _ (uj _ hx))))))))
    ·cases uu.mp hx
     exact uC _ (uj _ uk)
   ·rw[em]
    exact List.nodup_append.mpr ⟨(List.nodup_cons.mp nd2).2,by simp,fun x hx y hy e=>n0r (by rw[<- uu.mp hy,<- e]; exact hx)⟩
   ·rw[em]
    intro h
    rcases uA.mp h with h | h
    ·exact nz1 (uj _ (uj _ h))
    ·exact no _ 0 fe1 (uu.mp h)
   ·intro x hx
    rcases uA.mp hx with hx | hx
    ·have:=uO (f:=fun x:Pr=>x.2) hx
     exact old6 _ (fw x (uj _ (uj _ hx))) (fun c=>ra (by rw[<- c]; exact this)) (fun c=>rb (by rw[<- c]; exact this))
    ·cases uu.mp hx
     exact f06
   ·exact old6 _ fe1 (fun c=>nz1 (by rw[c]; exact uk)) (fun c=>nz1 (by rw[c]; exact uj _ uk))
   ·intro x h1 h2 h3
    obtain⟨h4,h5⟩:=old x h1 h2 h3
    refine⟨old6 x h4 (fun c=>h5 (by rw[c]; exact uk)) (fun c=>h5 (by rw[c]; exact uj _ uk)),?_⟩
    rw[em]
    intro h
    rcases uA.mp h with h | h
    ·exact h5 (uj _ (uj _ h))
    ·exact no _ 0 h4 (uu.mp h)
   ·intro x hx
    obtain⟨w',hw',nc,hnc,cw⟩:=chs x hx
    obtain⟨Lf,eLf⟩:∃ Lf:Kn,((c2,HO.lst [.ref b3])::(b3,.tup [.int N1,.int 0])::(c1,.lst (prV r))::(b2,.tup [.int N1,.int 2])::(b1,.tup [.int N1,.int 1])::(wl,.lst (prV (a::b::r)))::Nw)++L=Lf:=⟨_,U⟩
    have sL:∀ v ∈ Nw++L,v ∈ Lf:=fun v hv=>by rw[<- eLf]; simp only[List.cons_append]; exact uj _ (uj _ (uj _ (uj _ (uj _ (uj _ hv)))))
    have mb1:pK2 (b1,(N1:Int),1) ∈ Lf:=by rw[<- eLf]; exact uC _ (by simp)
    have mb2:pK2 (b2,(N1:Int),2) ∈ Lf:=by rw[<- eLf]; exact uC _ (by simp)
    rw[eLf]
    have cw6:=cw.up u6 sL
    have new:(b3,(N1:Int),(0:Int)) ∈ r++[(b3,(N1:Int),0)]:=ul _ uk
    rcases uz.mp hw' with rfl | hw'
    ·exact⟨_,new,nc+1,by simp only[uv,uq,List.length_nil] at hnc ⊢; omega,cw6.snoc ((m4 Lf mb1).up l6 (fun v hv=>hv)) k6 (.inl rfl)⟩
    ·rcases uz.mp hw' with rfl | hw'
     ·exact⟨_,new,nc+1,by simp only[uv,uq,List.length_nil] at hnc ⊢; omega,cw6.snoc (m6 Lf mb2) k6 (.inr rfl)⟩
     ·exact⟨w',uC _ hw',nc,by simp only[uv,uq,List.length_nil] at hnc ⊢; omega,cw6⟩
end
theorem Lead.mate {y:YR}{b:Nat}{x z:Int×Int} (h:Lead y L b x z):∃ u,Mt y L x u:=by
 obtain⟨_,w',_,c,m⟩:=h
 cases c with
 | refl=>exact⟨_,m⟩
 | still m1 _ _ _=>exact⟨_,m1⟩
theorem Lead.walk {y:YR}{b:Nat}{x z:Int×Int} (W:WY w y L) (h:Lead y L b x z):∀ {s:Sd}{ss rg:List Int},Out w s x ss rg->∃ n t,n<=b/\Rn w n s t/\AtE t z ss rg:=by
 obtain⟨n0,w',hb,c,m⟩:=h
 induction c generalizing b with
 | refl x=>intro s ss rg o; exact⟨0,s,Nat.zero_le _,.refl _,o.at_ W m⟩
 | @still n1 x w' p a m1 k ha c ih=>
  intro s ss rg o
  have at1:=o.at_ W m1
  obtain⟨u,mu⟩:=Lead.mate (b:=n1) ⟨_,w',Nat.le_refl _,c,m⟩
  obtain⟨b9,hb9⟩:=W.m _ _ mu
  have ea:a≠0:=by rcases ha with rfl | rfl <;> decide
  obtain⟨t,nx,o'⟩:=at1.step (o:=0) (W.k _ _ k) (by unfold Kd.out; rw[if_neg (by decide),if_pos (show Kd.still.point=true from rfl),if_neg ea]) hb9
  have e1:(if Kd.still.point=true then ss.set (w.rf p).toNat (Kd.still.side a (ss.getD (w.rf p).toNat 0)) else ss)=ss:=by
   rw[if_pos (show Kd.still.point=true from rfl)]
   unfold Kd.side
   rw[if_pos (show Kd.still.point=true from rfl),if_neg ea,if_neg (by decide)]
   exact dY _ _
  rw[e1,if_neg (by decide)] at o'
  obtain⟨n,t',hn,r,g⟩:=ih (b:=b - 1) (by omega) m o'
  exact⟨n+1,t',by omega,.step nx r,g⟩
section
variable {w:Wd}{y:YR}{L:Kn}{s:Sd}{ss rg:List Int}
theorem lB {n:Int}{u:Int×Int} (W:WY w y L) (k:Kp y n .line) (m:Mt y L (n,1) u) (h:AtE s (n,0) ss rg):∃ t,w.nx s=some t/\Out w t (n,1) ss rg:=by
 obtain⟨a,hm⟩:=W.m _ _ m
 obtain⟨t,nx,g⟩:=h.step (o:=1) (W.k _ _ k) rfl hm
 rw[if_neg (show ¬ Kd.line.point=true by decide),if_neg (by decide)] at g
 exact⟨t,nx,g⟩
end
theorem Kp.same {y y':YR}{n:Int}{k:Kd} (h:Kp y n k) (e:y'.kinds=y.kinds):Kp y' n k:=by unfold Kp at h ⊢; rw[e]; exact h
theorem Mt.same {y y':YR}{x z:Int×Int} (h:Mt y L x z) (e:y'.mates=y.mates):Mt y' L x z:=by
 obtain⟨b,h1,h2⟩:=h
 exact⟨b,by rw[e]; exact h1,h2⟩
theorem Ch.same {y y':YR}{n:Nat}{x z:Int×Int} (h:Ch y L n x z) (e1:y'.kinds=y.kinds) (e2:y'.mates=y.mates):Ch y' L n x z:=by
 induction h with
 | refl x=>exact .refl x
 | still m k ha _ ih=>exact .still (m.same e2) (k.same e1) ha ih
theorem Ch.tup {y:YR}{L L':Kn}{n:Nat}{x z:Int×Int} (h:Ch y L n x z) (s:∀ z:Pr,pK2 z ∈ L->pK2 z ∈ L'):Ch y L' n x z:=by
 induction h with
 | refl x=>exact .refl x
 | still m k ha _ ih=>exact .still (m.tup s) k ha ih
theorem Lead.tup {y:YR}{L L':Kn}{b:Nat}{x z:Int×Int} (h:Lead y L b x z) (s:∀ z:Pr,pK2 z ∈ L->pK2 z ∈ L'):Lead y L' b x z:=by
 obtain⟨n,w,h0,h1,h2⟩:=h
 exact⟨n,w,h0,h1.tup s,h2.tup s⟩
theorem Lead.same {y y':YR}{b:Nat}{x z:Int×Int} (h:Lead y L b x z) (e1:y'.kinds=y.kinds) (e2:y'.mates=y.mates):Lead y' L b x z:=by
 obtain⟨n,w,h0,h1,h2⟩:=h
 exact⟨n,w,h0,h1.same e1 e2,h2.same e2⟩
noncomputable def TG (y:YR) (z:Int×Int):Prop:=∃ k,Kp y z.1 k/\0<=z.2/\z.2<k.many/\∀ o:Int,0<=o->o<k.many->o≠z.2->ak y.mates (kE z.1 o)=none
theorem TG.same {y y':YR}{z:Int×Int} (h:TG y z) (e1:y'.kinds=y.kinds) (e2:y'.mates=y.mates):TG y' z:=by
 obtain⟨k,h1,h2,h3,h4⟩:=h
 exact⟨k,h1.same e1,h2,h3,fun o a b c=>by rw[e2]; exact h4 o a b c⟩
theorem Kd.out_ne {k:Kd}{e s o:Int} (hs:k.point=true->s=1∨s=2) (h:k.out e s=.int o):o≠e:=by
 unfold Kd.out at h
 by_cases c:k=.stop
 ·rw[if_pos c] at h; cases h
 rw[if_neg c] at h
 by_cases p:k.point=true
 ·rw[if_pos p] at h
  rcases hs p with r | r <;> split at h <;> (injection h with h; omega)
 ·rw[if_neg p] at h
  injection h with h
  omega
theorem TG.held {W:Wd}{s:Sd}{y:YR}{z:Int×Int}{ss rg:List Int} (h:TG y z) (G:GW W s y L) (wy:WY W y L) {t:Sd} (a:AtE t z ss rg) (s12:∀ x ∈ ss,x=1∨x=2) (sl:ss.length=s.ss.length):W.nx t=none:=by
 obtain⟨k,h1,h2,h3,h4⟩:=h
 obtain⟨⟨b,hb⟩,es,_⟩:=a
 have hk:=wy.k _ _ h1
 have sv:k.point=true->W.sv t z.1=1∨W.sv t z.1=2:=fun hp=>by
  have:=G.R.rr _ _ hk hp
  unfold Wd.sv
  rw[es]
  have hl:(W.rf z.1).toNat<ss.length:=by omega
  rw[List.getD_eq_getElem?_getD,uo hl]
  exact s12 _ (List.getElem_mem hl)
 cases ho:k.out z.2 (W.sv t z.1) with
 | int o=>
  obtain⟨o0,o1⟩:=Kd.out_in h2 h3 sv ho
  have hm:W.mf z.1 o=none:=by
   have:=G.R.mt z.1 o
   rw[h4 o o0 o1 (Kd.out_ne sv ho)] at this
   cases hm:W.mf z.1 o with
   | none=>rfl
   | some u=>rw[hm] at this; cases this
  unfold Wd.nx
  simp only[hb,hk,ho,hm,Option.map_none]
 | _=>unfold Wd.nx; simp only[hb,hk,ho]
noncomputable def SPL (y:YR) (L:Kn) (n:Nat) (s z:Int×Int):Prop:=(∃ l h:Int,Kp y l .line/\s=(l,h)/\(h=0∨h=1)/\Lead y L n (l,1 - h) z)∨∃ f:Int,Kp y f .still/\s=(f,0)/\(∃ r:Int,ak y.rods (Sum.inl f)=some (.int r)/\0<=r/\r<y.sides.length)/\Lead y L n (f,1) z/\Lead y L n (f,2) z
theorem SPL.walk {W:Wd}{s:Sd}{y:YR}{n:Nat}{x z:Int×Int} (h:SPL y L n x z) (G:GW W s y L) (wy:WY W y L) (a:∃ b,s.at_=some (b,x)):∃ k t,1<=k/\k<=n+1/\Rn W k s t/\AtE t z s.ss s.rg:=by
 have a0:AtE s x s.ss s.rg:=⟨a,U,U⟩
 rcases h with ⟨l,h,k1,rfl,hh,ld⟩ | ⟨f,k1,rfl,⟨r,hr,r0,r1⟩,ld1,ld2⟩
 ·obtain⟨u,mu⟩:=ld.mate
  obtain⟨b,hm⟩:=wy.m _ _ mu
  obtain⟨t,nx,o⟩:=a0.step (o:=1 - h) (wy.k _ _ k1) (by unfold Kd.out; rw[if_neg (by decide),if_neg (by decide)]) hm
  rw[if_neg (show ¬ Kd.line.point=true by decide),if_neg (by decide)] at o
  obtain⟨k,t2,hk,rn,g⟩:=ld.walk wy o
  exact⟨k+1,t2,by omega,by omega,.step nx rn,g⟩
 ·have ef:=wy.r _ _ hr
  have sl:(y.sides.length:Int)=s.ss.length:=by rw[G.R.sd,um]
  have hl:r.toNat<s.ss.length:=by omega
  obtain⟨v,ev⟩:∃ v,s.ss.getD r.toNat 0=v:=⟨_,U⟩
  have v12:v=1∨v=2:=by
   rw[<- ev,List.getD_eq_getElem?_getD,uo hl]
   exact G.R.s12 _ (List.getElem_mem hl)
  have ld:Lead y L n (f,v) z:=by rcases v12 with rfl | rfl; exact ld1; exact ld2
  obtain⟨u,mu⟩:=ld.mate
  obtain⟨b,hm⟩:=wy.m _ _ mu
  obtain⟨t,nx,o⟩:=a0.step (o:=v) (wy.k _ _ k1) (by rw[Kd.out_point rfl,if_pos rfl,ef,ev]) hm
  rw[if_pos (show Kd.still.point=true from rfl),if_neg (by decide)] at o
  unfold Kd.side at o
  rw[if_pos (show Kd.still.point=true from rfl),if_pos rfl,if_neg (by decide),dY] at o
  obtain⟨k,t2,hk,rn,g⟩:=ld.walk wy o
  exact⟨k+1,t2,by omega,by omega,.step nx rn,g⟩
theorem tg7 (i:Int) (h0:0<=i) (h1:i<7):∃ (k:Kd) (e:Int),0<=e/\e<k.many/\atI ([V.str "stop",.str "line",.str "bell",.str "still",.str "lazy",.str "turning",.str "line"]:List V) i=some (.str k.str)/\atI ([V.int 0,.int 1,.int 1,.int 2,.int 1,.int 0,.int 0]:List V) i=some (.int e):=by
 rcases (show i=0∨i=1∨i=2∨i=3∨i=4∨i=5∨i=6 by omega) with rfl | rfl | rfl | rfl | rfl | rfl | rfl
 ·exact⟨.stop,0,by decide,by decide,U,U⟩
 ·exact⟨.line,1,by decide,by decide,U,U⟩
 ·exact⟨.bell,1,by decide,by decide,U,U⟩
 ·exact⟨.still,2,by decide,by decide,U,U⟩
 ·exact⟨.lazy,1,by decide,by decide,U,U⟩
 ·exact⟨.turning,0,by decide,by decide,U,U⟩
 ·exact⟨.line,0,by decide,by decide,U,U⟩
inductive sp_Jh1 (C:Addr) (vs:List V) (H:Hp) (Q:VK) (E_:XK):Prop
 | mk (p:Addr) (y:YR) (L:Kn) (dr:Int) (N M R:Nat) (_:vs=[.ref p,.int dr]) (_:YIn C H p y L) (_:Ld y N M R) (_:N<=1000) (_:M<=1000) (_:R<=100) (_:0<=dr) (_:∀ H' k e tp Nw,0<=e->e<k.many->YIn C H' p (aN y k 0 .non) ((tp,.tup [.int N,.int e])::(Nw++L))->Q (.ref tp) H'):sp_Jh1 C vs H Q E_
section
variable {P:Program}{w:World}{K:PySem.W.Frag}{mg:Str->Option Value}{base:Heap}{t:Adr}
theorem scTt:FnScope ["_law_yard","_law_draw","_law_kinds"] ["_law_yard","_law_draw"] (ah qh):={}
theorem rR (T:Txt K mg t):FnOk P w K mg base CX0 5 t.f_Jh1 t.d_Jh1 ["_law_yard","_law_draw"] (sp_Jh1 t.c_Yard):=by
 obtain⟨_,hd_Ja1_2,hb_Ja1_2⟩:=cY T
 refine T.F_Jh1.ok scTt (fun vs H Q E h=>?_) (fun cdv A outer s H vs Q E hr h=>?_)
 ·obtain⟨_,_,_,_,_,_,_,rfl,_⟩:=h
  rfl
 ·obtain⟨p,y,L,dr,N,M,R,rfl,Y,D,bN,bM,bR,d0,q⟩:=h
  refine⟨_,(ac (aD (i:=2) scTt.nd rfl (Or.inl rfl) (bb (aa aJ (aa aJ (aa aJ (aa aJ (aa aJ (aa aJ (aa aJ ae)))))))))
   (af (aq (aI (aa (ao (pv 0) T.cl_Yard T.M_Ja1 (cG T) hr hb_Ja1_2 hd_Ja1_2 ap (aa (aF ar (pv 2) (az aT (pv 1) ag)) ae)) (aa (aF ar (bb (aa ag (aa ag (aa ag (aa ag (aa ag (aa ag (aa ag ae)))))))) (az aT (pv 1) ag)) ae)))))),?_⟩
  rw[show L2.start ["_law_yard","_law_draw","_law_kinds"] [V.ref p,V.int dr]=([some (V.ref p),some (V.int dr),none]:St) from rfl]
  obtain⟨k,e,e0,e1,hk,he⟩:=tg7 (dr % 7) (by omega) (by omega)
  refine⟨(sz_ 7),fun la hla=>?_⟩
  have Y1:=Y.alloc hla (.lst [.str "stop",.str "line",.str "bell",.str "still",.str "lazy",.str "turning",.str "line"])
  dsimp only[List.set]
  obtain⟨A1,gy⟩:=Y1.obj
  refine⟨_,U,p,A1.dx,_,U,gy,(aY _ _ _).1,_,U,_,U,_,_,U,U,(show(0:Int)<7 by decide),la,_,_,_,U,U,SqL.of (Y1.at_ uk),hk,?_⟩
  refine tn0 ?_
  refine fc Y1 D ⟨by omega,by omega,by omega⟩ k 0 .non (fun _=>by decide) (fun _ c=>absurd rfl c) fun H2 Y2=>?_
  refine⟨(sz_ 7),fun lb hlb=>?_⟩
  have Y3:=Y2.alloc hlb (.lst [.int 0,.int 1,.int 1,.int 2,.int 1,.int 0,.int 0])
  refine⟨_,U,_,_,U,U,(show(0:Int)<7 by decide),lb,_,_,_,U,U,SqL.of (Y3.at_ uk),he,(show 2<=sizeLine by decide),fun tp htp=>?_⟩
  exact q _ k e tp [(lb,_),(la,_)] e0 e1 (Y3.alloc htp _)
end
theorem Rn.len {n:Nat}{s t:Sd} (h:Rn w n s t):(w.hist n s).length=n:=by
 induction h with
 | refl s=>rfl
 | @step n s t u h _ ih=>
  show(match w.nx s with | none=>[] | some s'=>s::w.hist n s').length=_
  rw[h]
  show(s::w.hist n t).length=_
  rw[uv,ih]
theorem Rn.rounds {z:Int×Int}{ss:List Int}{c:Nat} (h:∀ s rg,AtE s z ss rg->∃ t rg',Rn w c s t/\AtE t z ss rg'):∀ (j:Nat) s rg,AtE s z ss rg->∃ t rg',Rn w (j*c) s t/\AtE t z ss rg'
 | 0,s,rg,a=>⟨s,rg,by rw[Nat.zero_mul]; exact .refl _,a⟩
 | j+1,s,rg,a=>by
  obtain⟨t,rg',r,a'⟩:=h s rg a
  obtain⟨t2,rg2,r2,a2⟩:=Rn.rounds h j t rg' a'
  refine⟨t2,rg2,?_,a2⟩
  rw[show(j+1)*c=c+j*c by rw[Nat.succ_mul,Nat.add_comm]]
  exact r.trans r2
theorem own3 (i:Int) (h0:0<=i) (h1:i<3):∃ k:Kd,atI ([V.str "line",.str "still",.str "bell"]:List V) i=some (.str k.str)/\((i=1/\k=.still)∨(i≠1/\(k=.line∨k=.bell))):=by
 rcases (show i=0∨i=1∨i=2 by omega) with rfl | rfl | rfl
 ·exact⟨.line,U,.inr ⟨by decide,.inl rfl⟩⟩
 ·exact⟨.still,U,.inl ⟨U,U⟩⟩
 ·exact⟨.bell,U,.inr ⟨by decide,.inr rfl⟩⟩
theorem lm {W:Wd}{s0:Sd}{y:YR}{N:Int}{k:Kd}{n:Nat} (G:GW W s0 y L) (wy:WY W y L) (hk:Kp y N k) (hc:(n=1/\k=.still/\Lead y L 1 (N,1) (N,0)/\Lead y L 1 (N,2) (N,0))∨(n=0/\(k=.line∨k=.bell)/\Lead y L 0 (N,1) (N,0))) :
  ∃ c,(c=1∨c=n+1)/\1<=c/\∀ s rg,AtE s (N,0) s0.ss rg->∃ t rg',Rn W c s t/\AtE t (N,0) s0.ss rg':=by
 rcases hc with ⟨rfl,rfl,l1,l2⟩ | ⟨rfl,hk2,l1⟩
 ·have kf:=wy.k _ _ hk
  have rr:=G.R.rr _ _ kf rfl
  obtain⟨v,ev⟩:∃ v,s0.ss.getD (W.rf N).toNat 0=v:=⟨_,U⟩
  have hl:(W.rf N).toNat<s0.ss.length:=by omega
  have v12:v=1∨v=2:=by
   rw[<- ev,List.getD_eq_getElem?_getD,uo hl]
   exact G.R.s12 _ (List.getElem_mem hl)
  have ld:Lead y L 1 (N,v) (N,0):=by rcases v12 with rfl | rfl; exact l1; exact l2
  obtain⟨m,w',hm,ch,mt⟩:=ld
  obtain⟨u,mu⟩:=Lead.mate (b:=m) ⟨m,w',Nat.le_refl _,ch,mt⟩
  obtain⟨b,hmf⟩:=wy.m _ _ mu
  have wk:∀ {x w':Int×Int}{m:Nat},Ch y L m x w'->Mt y L w' (N,0)->∀ {s:Sd}{ss rg:List Int},Out W s x ss rg->∃ t,Rn W m s t/\AtE t (N,0) ss rg:=fun {x w' m} ch=>by
   induction ch with
   | refl x=>intro mt s ss rg o; exact⟨s,.refl _,o.at_ wy mt⟩
   | @still n1 x w' p a m1 k1 ha c ih=>
    intro mt s ss rg o
    have at1:=o.at_ wy m1
    obtain⟨u,mu⟩:=Lead.mate (b:=n1) ⟨n1,w',Nat.le_refl _,c,mt⟩
    obtain⟨b9,hb9⟩:=wy.m _ _ mu
    have ea:a≠0:=by rcases ha with rfl | rfl <;> decide
    obtain⟨t,nx,o'⟩:=at1.step (o:=0) (wy.k _ _ k1) (by unfold Kd.out; rw[if_neg (by decide),if_pos (show Kd.still.point=true from rfl),if_neg ea]) hb9
    have e1:(if Kd.still.point=true then ss.set (W.rf p).toNat (Kd.still.side a (ss.getD (W.rf p).toNat 0)) else ss)=ss:=by
     rw[if_pos (show Kd.still.point=true from rfl)]
     unfold Kd.side
     rw[if_pos (show Kd.still.point=true from rfl),if_neg ea,if_neg (by decide)]
     exact dY _ _
    rw[e1,if_neg (by decide)] at o'
    obtain⟨t',r,g⟩:=ih mt o'
    exact⟨t',.step nx r,g⟩
  refine⟨m+1,by omega,by omega,fun s rg a=>?_⟩
  obtain⟨t,nx,o⟩:=a.step (o:=v) kf (by rw[Kd.out_point rfl,if_pos rfl,ev]) hmf
  rw[if_pos (show Kd.still.point=true from rfl),if_neg (by decide)] at o
  unfold Kd.side at o
  rw[if_pos (show Kd.still.point=true from rfl),if_pos rfl,if_neg (by decide),dY] at o
  obtain⟨t2,r,g⟩:=wk ch mt o
  exact⟨t2,rg,.step nx r,g⟩
 ·obtain⟨m,w',hm,ch,mt⟩:=l1
  have m0:m=0:=by omega
  subst m0
  cases ch
  obtain⟨b,hmf⟩:=wy.m _ _ mt
  refine⟨1,.inl rfl,Nat.le_refl _,fun s rg a=>?_⟩
  rcases hk2 with rfl | rfl
  ·obtain⟨t,nx,o⟩:=a.step (o:=1) (wy.k _ _ hk) rfl hmf
   rw[if_neg (show ¬ Kd.line.point=true by decide),if_neg (by decide)] at o
   exact⟨t,_,.step nx (.refl _),o.at_ wy mt⟩
  ·obtain⟨t,nx,o⟩:=a.step (o:=1) (wy.k _ _ hk) rfl hmf
   rw[if_neg (show ¬ Kd.bell.point=true by decide),if_pos rfl] at o
   exact⟨t,_,.step nx (.refl _),o.at_ wy mt⟩
inductive sp_own (C:Addr) (vs:List V) (H:Hp) (Q:VK) (E_:XK):Prop
 | mk (p:Addr) (y:YR) (L:Kn) (dr:Int) (N M R:Nat) (_:vs=[.ref p,.int dr]) (_:YIn C H p y L) (_:Ld y N M R) (_:N<=1000) (_:M<=1000) (_:R<=100) (_:0<=dr) (_:∀ H',Q (.bl true) H'):sp_own C vs H Q E_
inductive own1Inv (C_:Addr) (p:Addr) (lo:Addr) (dr:Int) (N:Nat) (k:Kd) (y2:YR) (σ':St) (H':Hp):Prop
 | mk (os:List Pr) (Nw:Kn) (_:σ'=[some (.ref p),some (.int dr),some (.int N),some (.ref lo),none]) (_:((dr % 3=1/\k=.still/\os.map (·.2)=[((N:Int),1),((N:Int),2)])∨((k=.line∨k=.bell)/\os.map (·.2)=[((N:Int),1)]))) (_:(∀ x ∈ os,pK2 x ∈ Nw)) (_:YIn C_ H' p y2 ((lo,.lst (prV os))::Nw)):own1Inv C_ p lo dr N k y2 σ' H'
section
variable {P:Program}{w:World}{K:PySem.W.Frag}{mg:Str->Option Value}{base:Heap}{t:Adr}
theorem scOw:FnScope ["_law_yard","_law_draw","_law_piece","_law_outs","_law_most"] ["_law_yard","_law_draw"] (ah qe):={}
theorem nB (T:Txt K mg t):FnOk P w K mg base CX0 8 t.f_own t.d_own ["_law_yard","_law_draw"] (sp_own t.c_Yard):=by
 obtain⟨_,hd_Ja1_2,hb_Ja1_2⟩:=cY T
 refine T.F_own.ok scOw (fun vs H Q E h=>?_) (fun cdv A outer s H vs Q E hr h=>?_)
 ·obtain⟨_,_,_,_,_,_,_,rfl,_⟩:=h
  rfl
 ·obtain⟨p,y,L,dr,N,M,R,rfl,Y,D,bN,bM,bR,d0,q⟩:=h
  refine⟨_,(ac (aD (i:=2) scOw.nd rfl (Or.inl rfl) (ao (pv 0) T.cl_Yard T.M_Ja1 (cG T) hr hb_Ja1_2 hd_Ja1_2 ap (aa (aF ar (bb (aa aJ (aa aJ (aa aJ ae)))) (az aT (pv 1) ag)) ae)))
   (ac (aD (i:=3) scOw.nd rfl (Or.inl rfl) (bb (@aa _ _ _ _ _ (aI (aa (pv 2) (aa ag ae))) ae (by rfl))))
   (ac (cf (aA (ai bq (az aT (pv 1) ag) ag (am _))
    (af (al (bV PySem.F.plainAttrs_list PySem.F.slot_list_append PySem.F.type_list_append aZ (pv 3) (@aa _ _ _ _ _ (aI (aa (pv 2) (aa ag ae))) ae (by rfl)))))
    aj))
   (ac (al (pcl (fY T) hr T.m_merge T.F_merge.kp (iS T) (@aa _ _ _ _ _ (pv 0) (@aa _ _ _ _ _ (pv 3) (@aa _ _ _ _ _ (aI (aa (pv 2) (aa ag ae))) ae (by rfl)) (by rfl)) (by rfl))))
   (ac (al (ao (pv 0) T.cl_Yard T.M_Jb1 (f7 T) hr (jD T) .nil ap (@aa _ _ _ _ _ (aI (aa (pv 2) (aa ag ae))) ae (by rfl))))
   (ac (aD (i:=4) scOw.nd rfl (Or.inl rfl) (az eW (aG ay (by rfl) T.z_len (by rfl) (aa (pv 3) ae)) (az bh ag (az aT (pv 1) ag))))
   (af (aq (dc (pcl (fZ T) hr T.m_is T.F_is.kp (jY T) (aa (pcl (iz T) hr T.m_run T.F_run.kp (kU T) (aa (pv 0) (aa (pv 4) ae))) (aa (pv 4) ae))) (cQ (pcl (eX T) hr T.m_Ji1 T.F_Ji1.kp (ii T) (@aa _ _ _ _ _ (aC (pv 0) T.cl_Yard T.M_Jd (d9 T) hr (iT T) .nil ap) (@aa _ _ _ _ _ (aI (aa (pv 2) (aa ag ae))) ae (by rfl)) (by rfl))))))))))))),?_⟩
  rw[show L2.start ["_law_yard","_law_draw","_law_piece","_law_outs","_law_most"] [V.ref p,V.int dr]=([some (V.ref p),some (V.int dr),none,none,none]:St) from rfl]
  obtain⟨A1,gy⟩:=Y.obj
  obtain⟨k,hk,kc⟩:=own3 (dr % 3) (by omega) (by omega)
  refine⟨_,U,p,A1.dx,_,U,gy,(aY _ _ _).1,(sz_ 3),fun la hla=>?_⟩
  have Y1:=Y.alloc hla (.lst [.str "line",.str "still",.str "bell"])
  refine⟨_,U,_,_,U,U,(show(0:Int)<3 by decide),la,_,_,_,U,U,SqL.of (Y1.at_ uk),hk,?_⟩
  refine tn0 ?_
  refine fc Y1 D ⟨by omega,by omega,by omega⟩ k 0 .non (fun _=>by decide) (fun _ c=>absurd rfl c) fun H2 Y2=>?_
  have D2:=D.lay k 0 .non
  have k2:Kp (aN y k 0 .non) N k:=Kp.lay D k 0 .non
  have m2:1<k.many:=by rcases kc with ⟨_,rfl⟩ | ⟨_,rfl | rfl⟩ <;> decide
  have f0:Fr (aN y k 0 .non) ((N:Int),0):=Fr.new D k 0 .non (Int.le_refl _) (by omega)
  have f1:Fr (aN y k 0 .non) ((N:Int),1):=Fr.new D k 0 .non (by decide) m2
  have f2:k=.still->Fr (aN y k 0 .non) ((N:Int),2):=fun e=>Fr.new D k 0 .non (by decide) (by rw[e]; decide)
  obtain⟨y2,ey2⟩:∃ y2,aN y k 0 .non=y2:=⟨_,U⟩
  rw[ey2] at Y2 D2 k2 f0 f1 f2
  dsimp only[List.set]
  refine⟨_,U,(show 2<=sizeLine by decide),fun b1 hb1=>?_⟩
  have Y3:=Y2.alloc hb1 (.tup [.int N,.int 1])
  refine⟨(sz_ 1),fun lo hlo=>?_⟩
  have Y4:=Y3.alloc hlo (.lst [.ref b1])
  dsimp only[List.set]
  refine⟨(own1Inv t.c_Yard p lo dr N k y2),?_,?_⟩
  ·refine⟨_,U,_,_,U,U,(show(0:Int)<3 by decide),U,_,U,?_⟩
   rw[dh]
   refine if2 (fun c=>?_) (fun c=>?_)
   ·have c1:=of_decide_eq_true c
    have ks:k=.still:=by rcases kc with ⟨_,e⟩ | ⟨e,_⟩; exact e; exact absurd c1 e
    refine⟨_,U,.inl ⟨U,_,SqL.of (Y4.at_ uk)⟩,_,U,(show 2<=sizeLine by decide),fun b2 hb2=>?_⟩
    have Y5:=(Y4.alloc hb2 (.tup [.int N,.int 2])).perm (.swap _ _ _)
    refine tn0 ?_
    refine⟨lo,_,_,U,U,Y5.at_ uk,sizeOk (by show 1<=_; decide),?_⟩
    have Y6:=Y5.put0 (.lst [.ref b1,.ref b2])
    refine⟨[(b1,(N:Int),1),(b2,(N:Int),2)],_,U,.inl ⟨c1,ks,U⟩,fun x hx=>?_,Y6⟩
    simp only[uz,uL,or_false] at hx
    rcases hx with rfl | rfl
    ·exact uj _ uk
    ·exact uk
   ·have c1:=of_decide_eq_false c
    have ks:k=.line∨k=.bell:=by rcases kc with ⟨e,_⟩ | ⟨_,e⟩; exact absurd e c1; exact e
    refine⟨[(b1,(N:Int),1)],_,U,.inr ⟨ks,U⟩,fun x hx=>?_,Y4⟩
    rw[uu.mp hx]
    exact uk
  clear Y1 Y2 Y3 Y4 gy A1
  rintro σ' H5 ⟨os,Nw,rfl,oc,mo,Y⟩
  refine⟨_,U,_,U,_,U,(show 2<=sizeLine by decide),fun b0 hb0=>?_⟩
  have Y1:=Y.alloc hb0 (.tup [.int N,.int 0])
  refine tn0 ?_
  have ol:os.length=(os.map (fun x:Pr=>x.2)).length:=(um _).symm
  have osl:os.length=1∨os.length=2:=by rcases oc with ⟨_,_,e⟩ | ⟨_,e⟩ <;> rw[ol,e]; exact .inr rfl; exact .inl rfl
  have nd:(os.map (fun x:Pr=>x.2)).Nodup/\((N:Int),(0:Int)) ∉ os.map (fun x:Pr=>x.2):=by rcases oc with ⟨_,_,e⟩ | ⟨_,e⟩ <;> rw[e] <;> simp
  have fo:∀ x ∈ os,Fr y2 x.2:=fun x hx=>by
   have:=uO (f:=fun x:Pr=>x.2) hx
   rcases oc with ⟨_,ks,e⟩ | ⟨_,e⟩
   ·rw[e] at this
    simp only[uz,uL,or_false] at this
    rcases this with e | e <;> rw[e]; exact f1; exact f2 ks
   ·rw[e] at this
    rw[uu.mp this]; exact f1
  refine⟨p,y2,_,lo,os,(b0,(N:Int),0),N+1,M,R,U,Y1,uj _ uk,fun x hx=>uj _ (uj _ (mo x hx)),uk,D2,nd.1,nd.2,fo,f0,by omega,by omega,by omega,fun H6 y6 Nw6 M6 D6 t6 _ _ bM6 u6 f6 ld6 Y6=>?_⟩
  have k6:=k2.up u6
  obtain⟨L6,eL6⟩:∃ L6:Kn,Nw6++((b0,HO.tup [.int N,.int 0])::(lo,.lst (prV os))::Nw)=L6:=⟨_,U⟩
  have ml6:(lo,HO.lst (prV os)) ∈ L6:=by rw[<- eL6]; exact ul _ (uj _ uk)
  rw[eL6] at Y6 ld6
  obtain⟨A1,gy⟩:=Y6.obj
  refine⟨_,U,p,A1.dx,_,U,gy,(bo _ _ _).1,_,U,(show 2<=sizeLine by decide),fun b3 hb3=>?_⟩
  have Y7:=Y6.alloc hb3 (.tup [.int N,.int 0])
  refine tn0 ?_
  refine jK (z:=(b3,(N:Int),0)) Y7 uk ⟨k,k6,(show(0:Int)<=0 by decide),by show(0:Int)<k.many; omega⟩ fun H8 Y8=>?_
  obtain⟨j,hj,j0⟩:∃ j:Nat,1+dr % 4=j/\j<=4:=⟨(1+dr % 4).toNat,by omega,by omega⟩
  refine⟨_,U,lo,_,U,.inl (SqL.of (Y8.at_ (uj _ ml6))),_,U,_,_,U,U,(show(0:Int)<4 by decide),_,_,U,U,?_⟩
  rw[hj]
  have pl:((prV os).length:Int)=os.length:=by unfold prV; rw[um]
  rw[pl]
  refine⟨_,_,U,U,.inl (by constructor <;> omega),?_⟩
  dsimp only[List.set]
  have em:(os.length:Int)*(j:Int)=((os.length*j:Nat):Int):=by rw[Int.natCast_mul]
  rw[em]
  have bmo:os.length*j<=8:=by rcases osl with e | e <;> rw[e] <;> omega
  refine⟨_,U,_,U,?_⟩
  refine tn0 ?_
  refine iq Y8 rfl (by omega) (by show y6.rung.length<=_; exact D6.g) fun W s G wy eg H9 y9 Nw9 G9 n1 n2 n3 n4 n5 n6 Y9=>?_
  have lds:∀ x ∈ os,Lead { y6 with eng:=.ref b3,trail:=[] } ((b3,HO.tup [.int N,.int 0])::L6) (os.length - 1) x.2 ((N:Int),0):=fun x hx=>(Lead.same (y':={ y6 with eng:=.ref b3,trail:=[] }) (ld6 x hx) rfl rfl).up (Up.refl _) fun v hv=>uj _ hv
  have at0:∀ e ∈ os.map (fun x:Pr=>x.2),Lead { y6 with eng:=.ref b3,trail:=[] } ((b3,HO.tup [.int N,.int 0])::L6) (os.length - 1) e ((N:Int),0):=fun e he=>by
   obtain⟨x,hx,rfl⟩:=uK.mp he
   exact lds x hx
  obtain⟨c,c1,c0,rd⟩:=lm (n:=os.length - 1) G wy (k6.same rfl) (by
   rcases oc with ⟨_,ks,e⟩ | ⟨ks,e⟩
   ·have e2:os.length=2:=by rw[ol,e]; rfl
    rw[e2] at at0 ⊢
    exact .inl ⟨U,ks,at0 _ (by rw[e]; simp),at0 _ (by rw[e]; simp)⟩
   ·have e2:os.length=1:=by rw[ol,e]; rfl
    rw[e2] at at0 ⊢
    exact .inr ⟨U,ks,at0 _ (by rw[e]; simp)⟩)
  obtain⟨i,hi⟩:∃ i:Nat,os.length*j=i*c:=by
   rcases c1 with e | e
   ·exact⟨os.length*j,by rw[e,Nat.mul_one]⟩
   ·exact⟨j,by rw[e,show os.length - 1+1=os.length by omega,Nat.mul_comm]⟩
  obtain⟨u,rg',rn,au⟩:=Rn.rounds rd i s s.rg ⟨⟨b3,eg _ _ rfl uk⟩,U,U⟩
  rw[<- hi] at rn
  rw[Int.toNat_natCast,rn.len]
  rw[Int.toNat_natCast,rn.go] at G9
  obtain⟨⟨a9,ha9⟩,_⟩:=au
  have en9:y9.eng=.ref a9:=by rw[G9.R.en,ha9]; rfl
  have ma9:pK2 (a9,(N:Int),0) ∈ Nw9++((b3,HO.tup [.int N,.int 0])::L6):=by
   obtain⟨j,hj⟩:=G9.P.e _ ha9
   exact ut hj
  refine⟨_,U,?_⟩
  refine tn0 ?_
  refine⟨_,_,U,?_⟩
  rw[decide_eq_true rfl]
  refine⟨_,U,df ?_⟩
  obtain⟨A1,gy⟩:=Y9.obj
  refine⟨_,U,p,A1.dx,_,U,gy,(bo _ _ _).2.2.2.2.2.2.1,?_⟩
  refine cB Y9 ?_
  refine⟨_,U,(show 2<=sizeLine by decide),fun b4 hb4=>?_⟩
  have Y10:=Y9.alloc hb4 (.tup [.int N,.int 0])
  refine tn0 ?_
  rw[en9]
  exact .inr ⟨a9,b4,(N:Int),0,U,Y10.at_ (uj _ ma9),Y10.at_ uk,q _⟩
end
theorem ua (d:PyData) (h:d.canLay0=true):PyData.eqv d d=true:=PySem.SeqAt.eqv_refl d h
noncomputable def kD:Key->PyData
 | .inl i=>.int i
 | .inr s=>.str s
noncomputable def ju (ks:List (Key×V)) (n:Nat) (ss:List Int):PyData:=.list [.list (ks.map fun kv=>kD kv.1),.list ((List.range n).map fun i:Nat=>PyData.int i),.list (ss.map PyData.int)]
theorem qM {k:Key} (h:∃ i:Int,k=Sum.inl i):(kD k).canLay0=true/\(kD k).depth<=1:=by
 obtain⟨i,rfl⟩:=h
 exact⟨U,by simp[kD,PyData.depth]⟩
theorem jt (ks:List (Key×V)) (n:Nat) (ss:List Int) (hk:∀ k ∈ ks.map (·.1),∃ i:Int,k=Sum.inl i):(ju ks n ss).canLay0=true:=by
 have h1:=bL (fun kv:Key×V=>kD kv.1) ks fun x hx=>(qM (hk _ (uO (f:=fun kv:Key×V=>kv.1) hx))).1
 have h2:=bL (fun i:Nat=>PyData.int i) (List.range n) fun x _=>rfl
 have h3:=bL PyData.int ss fun x _=>rfl
 unfold ju
 simp only[PyData.canLay0,PyData.canLayAll0,h1,h2,h3,Bool.and_true]
theorem kS (ks:List (Key×V)) (n:Nat) (ss:List Int) (hk:∀ k ∈ ks.map (·.1),∃ i:Int,k=Sum.inl i):SeqAt.shaped (ju ks n ss)=true:=by
 refine gS (jt ks n ss hk) ?_
 have h1:=bZ (fun kv:Key×V=>kD kv.1) 1 ks fun x hx=>(qM (hk _ (uO (f:=fun kv:Key×V=>kv.1) hx))).2
 have h2:=bZ (fun i:Nat=>PyData.int i) 1 (List.range n) fun x _=>by simp[PyData.depth]
 have h3:=bZ PyData.int 1 ss fun x _=>by simp[PyData.depth]
 unfold ju
 simp only[PyData.depth,PyData.depthAll]
 omega
variable{K:PySem.W.Frag}
theorem kT {H:Hp}{l a b c:Addr}{ks:List (Key×V)}{n:Nat}{ss:List Int} (h:H l=some (.lst [.ref a,.ref b,.ref c])) (ha:H a=some (.lst (ks.map fun kv=>kV kv.1))) (hb:H b=some (.lst (aX n))) (hc:H c=some (.lst (ss.map V.int))):DV K H (ju ks n ss) (.ref l):=by
 unfold ju DV
 refine⟨l,_,U,SqL.of h,?_⟩
 unfold DVs
 refine⟨_,_,U,?_,?_⟩
 ·unfold DV
  exact⟨a,_,U,SqL.of ha,DVs.map _ _ _ fun x _=>by obtain⟨k,v⟩:=x; cases k <;> (unfold kD DV; rfl)⟩
 unfold DVs
 refine⟨_,_,U,?_,?_⟩
 ·unfold DV
  exact⟨b,_,U,SqL.of hb,DVs.map _ _ _ fun x _=>by unfold DV; rfl⟩
 unfold DVs
 refine⟨_,_,U,?_,?_⟩
 ·unfold DV
  exact⟨c,_,U,SqL.of hc,DVs.map _ _ _ fun x _=>by unfold DV; rfl⟩
 unfold DVs
 rfl
theorem Rn.rounds0 {w:Wd}{z:Int×Int}{ss rg:List Int}{c:Nat} (h:∀ s,AtE s z ss rg->∃ t,Rn w c s t/\AtE t z ss rg):∀ (j:Nat) s,AtE s z ss rg->∃ t,Rn w (j*c) s t/\AtE t z ss rg
 | 0,s,a=>⟨s,by rw[Nat.zero_mul]; exact .refl _,a⟩
 | j+1,s,a=>by
  obtain⟨t,r,a'⟩:=h s a
  obtain⟨t2,r2,a2⟩:=Rn.rounds0 h j t a'
  refine⟨t2,?_,a2⟩
  rw[show(j+1)*c=c+j*c by rw[Nat.succ_mul,Nat.add_comm]]
  exact r.trans r2
inductive sp_Jg1 (C:Addr) (vs:List V) (H:Hp) (Q:VK) (E_:XK):Prop
 | mk (p:Addr) (y:YR) (L:Kn) (z:Pr) (N M R mo:Nat) (_:vs=[.ref p,.ref z.1,.int mo]) (_:YIn C H p y L) (_:Ld y N M R) (_:N<=1000) (_:M<=1000) (_:R<=100) (_:mo<=10) (_:y.rung.length<=100) (_:pK2 z ∈ L) (_:Fr y z.2) (_:∀ H' y' Nw,Ld y' (N+1) (M+2) R->YIn C H' p y' (Nw++L)->Q (.bl true) H'):sp_Jg1 C vs H Q E_
section
variable {P:Program}{w:World}{K:PySem.W.Frag}{mg:Str->Option Value}{base:Heap}{t:Adr}
theorem scNo:FnScope ["_law_yard","_law_stop","_law_most","_law_line","_law_before"] ["_law_yard","_law_stop","_law_most"] (ah kj):={}
theorem rS (T:Txt K mg t):FnOk P w K mg base CX0 8 t.f_Jg1 t.d_Jg1 ["_law_yard","_law_stop","_law_most"] (sp_Jg1 t.c_Yard):=by
 obtain⟨_,hd_Ja1_2,hb_Ja1_2⟩:=cY T
 refine T.F_Jg1.ok scNo (fun vs H Q E h=>?_) (fun cdv A outer s H vs Q E hr h=>?_)
 ·obtain⟨_,_,_,_,_,_,_,_,rfl,_⟩:=h
  rfl
 ·obtain⟨p,y,L,z,N,M,R,mo,rfl,Y,D,bN,bM,bR,bmo,yg,mz,fz,q⟩:=h
  refine⟨_,(ac (aD (i:=3) scNo.nd rfl (Or.inl rfl) (ao (pv 0) T.cl_Yard T.M_Ja1 (cG T) hr hb_Ja1_2 hd_Ja1_2 ap (aa aJ ae)))
   (ac (al (ao (pv 0) T.cl_Yard T.M_J11 (dO T) hr (gF T) .nil ap (@aa _ _ _ _ _ (aI (aa (pv 3) (aa ag ae))) (@aa _ _ _ _ _ (aI (aa (pv 3) (aa ag ae))) ae (by rfl)) (by rfl))))
   (ac (al (ao (pv 0) T.cl_Yard T.M_Jb1 (f7 T) hr (jD T) .nil ap (@aa _ _ _ _ _ (aI (aa (pv 3) (aa ag ae))) ae (by rfl))))
   (ac (al (pcl (iz T) hr T.m_run T.F_run.kp (kU T) (aa (pv 0) (aa (pv 2) ae))))
   (ac (aD (i:=4) scNo.nd rfl (Or.inl rfl) (bb (aa (aC (pv 0) T.cl_Yard T.M_Je (gZ T) hr (lX T) .nil ap) (aa (aC (pv 0) T.cl_Yard T.M_J31 (du T) hr (fE T) .nil ap) (aa (d6 (esc:=ah kj) (k:=1) ["_law_bar","_law_yard","_law_stop","_law_most","_law_line","_law_before"] rfl (br (aC (pv 0) T.cl_Yard T.M_J31 (du T) hr (fE T) .nil ap)) (fun _ _ _ _ _=>by exact(aw (i:=0) (show List.Nodup (["_law_bar","_law_yard","_law_stop","_law_most","_law_line","_law_before"]:List Str) from by decide +kernel) rfl (Or.inl rfl))) (fun _ _ _ _ _=>by exact bB) (fun _ _ _ _ _=>by exact(ao (pv 1) T.cl_Yard T.M_J41 (dt T) hr (fD T) .nil ap (aa (pv 0) ae))) rfl (by decide +kernel) (by decide +kernel) rfl (by decide +kernel) (by rfl) (fun _ _ h _=>h) (by decide +kernel)) ae)))))
   (ac (aA (PW.pt (dl (ai cz (pcl (fY T) hr T.m_merge T.F_merge.kp (iS T) (aa (pv 0) (aa (bb ae) (aa (pv 1) ae)))) aV (am _)) (cO (ai cz (ao (pv 0) T.cl_Yard T.M_J01 (eY T) hr (ij T) .nil ap (aa (pv 1) ae)) aV (am _)))))
    (af (aq cx))
    aj)
   (ac (aA (ai (nt hr.units) (bb (aa (aC (pv 0) T.cl_Yard T.M_Je (gZ T) hr (lX T) .nil ap) (aa (aC (pv 0) T.cl_Yard T.M_J31 (du T) hr (fE T) .nil ap) (aa (d6 (esc:=ah kj) (k:=1) ["_law_bar","_law_yard","_law_stop","_law_most","_law_line","_law_before"] rfl (br (aC (pv 0) T.cl_Yard T.M_J31 (du T) hr (fE T) .nil ap)) (fun _ _ _ _ _=>by exact(aw (i:=0) (show List.Nodup (["_law_bar","_law_yard","_law_stop","_law_most","_law_line","_law_before"]:List Str) from by decide +kernel) rfl (Or.inl rfl))) (fun _ _ _ _ _=>by exact bB) (fun _ _ _ _ _=>by exact(ao (pv 1) T.cl_Yard T.M_J41 (dt T) hr (fD T) .nil ap (aa (pv 0) ae))) rfl (by decide +kernel) (by decide +kernel) rfl (by decide +kernel) (by rfl) (fun _ _ h _=>h) (by decide +kernel)) ae)))) (pv 4) (am _))
    (af (aq cx))
    aj)
   (af (aq (dc (pcl (fZ T) hr T.m_is T.F_is.kp (jY T) (aa (aC (pv 0) T.cl_Yard T.M_Ju (qC T) hr (uc T) .nil ap) (aa (pv 2) ae))) (cQ (pcl (eX T) hr T.m_Ji1 T.F_Ji1.kp (ii T) (@aa _ _ _ _ _ (aC (pv 0) T.cl_Yard T.M_Jd (d9 T) hr (iT T) .nil ap) (@aa _ _ _ _ _ (aI (aa (pv 3) (aa ag ae))) ae (by rfl)) (by rfl)))))))))))))),?_⟩
  rw[show L2.start ["_law_yard","_law_stop","_law_most","_law_line","_law_before"] [V.ref p,V.ref z.1,V.int mo]=([some (V.ref p),some (V.ref z.1),some (V.int mo),none,none]:St) from rfl]
  obtain⟨A1,gy⟩:=Y.obj
  refine⟨_,U,p,A1.dx,_,U,gy,(aY _ _ _).1,?_⟩
  refine tc1 ?_
  refine fc Y D ⟨by omega,by omega,by omega⟩ .line 0 .non (fun c=>nomatch c) (fun c=>nomatch c) fun H2 Y2=>?_
  have D2:=D.lay .line 0 .non
  have k2:Kp (aN y .line 0 .non) N .line:=Kp.lay D .line 0 .non
  have f0:Fr (aN y .line 0 .non) ((N:Int),0):=Fr.new D .line 0 .non (Int.le_refl _) (by decide)
  have f1:Fr (aN y .line 0 .non) ((N:Int),1):=Fr.new D .line 0 .non (by decide) (by decide)
  have fz2:=fz.lay D .line 0 .non
  have nz:∀ e,z.2≠((N:Int),e):=fun e=>fz.ne D
  have g2:(aN y .line 0 .non).rung.length<=100:=yg
  obtain⟨y2,ey2⟩:∃ y2,aN y .line 0 .non=y2:=⟨_,U⟩
  rw[ey2] at Y2 D2 k2 f0 f1 fz2 g2
  dsimp only[List.set]
  obtain⟨A2,gy2⟩:=Y2.obj
  refine⟨_,U,p,A2.dx,_,U,gy2,(b7 _ _ _).2.2.1,_,U,(show 2<=sizeLine by decide),fun b1 hb1=>?_⟩
  have Y3:=Y2.alloc hb1 (.tup [.int N,.int 0])
  refine⟨_,U,(show 2<=sizeLine by decide),fun b2 hb2=>?_⟩
  have Y4:=Y3.alloc hb2 (.tup [.int N,.int 1])
  refine tn0 ?_
  refine fL (a:=(b1,(N:Int),0)) (b:=(b2,(N:Int),1)) Y4 D2 (by omega) (uj _ uk) uk f0 f1 (fun c=>by injection c with _ c; cases c) fun H5 Y5=>?_
  have u5:=Up.link (a:=(b1,(N:Int),0)) (b:=(b2,(N:Int),1)) f0 f1
  have D5:=D2.link (a:=(b1,(N:Int),0)) (b:=(b2,(N:Int),1)) f0 f1
  have k5:=k2.up u5
  have mt5:Mt (b6 y2 (b1,(N:Int),0) (b2,(N:Int),1)) ((b2,HO.tup [.int N,.int 1])::(b1,.tup [.int N,.int 0])::L) ((N:Int),1) ((N:Int),0):=Mt.l2 (a:=(b1,(N:Int),0)) (b:=(b2,(N:Int),1)) (uj _ uk)
  have fz5:=fz2.link (a:=(b1,(N:Int),0)) (b:=(b2,(N:Int),1)) (nz 0) (nz 1)
  have g5:(b6 y2 (b1,(N:Int),0) (b2,(N:Int),1)).rung.length<=100:=g2
  obtain⟨y5,ey5⟩:∃ y5,b6 y2 (b1,(N:Int),0) (b2,(N:Int),1)=y5:=⟨_,U⟩
  rw[ey5] at Y5 D5 k5 mt5 fz5 g5
  obtain⟨L5,eL5,s5⟩:∃ L5:Kn,(b2,HO.tup [.int N,.int 1])::(b1,.tup [.int N,.int 0])::L=L5/\∀ x ∈ L,x ∈ L5:=⟨_,U,fun x hx=>uj _ (uj _ hx)⟩
  rw[eL5] at Y5 mt5
  obtain⟨A3,gy3⟩:=Y5.obj
  refine⟨_,U,p,A3.dx,_,U,gy3,(bo _ _ _).1,_,U,(show 2<=sizeLine by decide),fun b3 hb3=>?_⟩
  have Y6:=Y5.alloc hb3 (.tup [.int N,.int 0])
  refine tn0 ?_
  refine jK (z:=(b3,(N:Int),0)) Y6 uk ⟨.line,k5,(show(0:Int)<=0 by decide),(show(0:Int)<2 by decide)⟩ fun H7 Y7=>?_
  refine⟨_,U,_,U,?_⟩
  refine tn0 ?_
  refine iq Y7 rfl (by omega) (by show y5.rung.length<=_; omega) fun W s G wy eg H8 y8 Nw8 G8 n1 n2 n3 n4 n5 n6 Y8=>?_
  have mt7:Mt { y5 with eng:=.ref b3,trail:=[] } ((b3,HO.tup [.int N,.int 0])::L5) ((N:Int),1) ((N:Int),0):=(mt5.mono fun v hv=>uj _ hv).same rfl
  obtain⟨u,rn,au⟩:=Rn.rounds0 (w:=W) (z:=((N:Int),0)) (ss:=s.ss) (rg:=s.rg) (c:=1) (fun s1 a1=>by
   obtain⟨t1,nx1,o1⟩:=lB wy (k5.same rfl) mt7 a1
   exact⟨t1,.step nx1 (.refl _),o1.at_ wy mt7⟩) mo s ⟨⟨b3,eg _ _ rfl uk⟩,U,U⟩
  rw[Nat.mul_one] at rn
  rw[Int.toNat_natCast,rn.len] at n6
  rw[Int.toNat_natCast,rn.go] at G8
  obtain⟨⟨a8,ha8⟩,hs8,hg8⟩:=au
  have sd8:y8.sides=y5.sides:=by rw[G8.R.sd,hs8,<- G.R.sd]
  have en8:y8.eng=.ref a8:=by rw[G8.R.en,ha8]; rfl
  obtain⟨L8,eL8,s8⟩:∃ L8:Kn,Nw8++((b3,HO.tup [.int N,.int 0])::L5)=L8/\∀ x ∈ L,x ∈ L8:=⟨_,U,fun x hx=>ul _ (uj _ (s5 x hx))⟩
  have ma8:pK2 (a8,(N:Int),0) ∈ L8:=by
   obtain⟨j,hj⟩:=G8.P.e _ ha8
   rw[<- eL8]; exact ut hj
  rw[eL8] at Y8
  have gl8:y8.rung.length<=200000:=by
   have e:y8.rung=y5.rung:=by rw[G8.R.rg,hg8,<- G.R.rg]
   rw[e]; omega
  have D8:Ld y8 (N+1) (M+2) R:=⟨by rw[n1]; exact D5.nx,by rw[n2]; exact D5.kl,fun i hi=>by rw[n2,n3,n4]; rw[n1] at hi; exact D5.fr i hi,by rw[n5]; exact D5.mt,by rw[n3]; exact D5.nl,by rw[n4]; exact D5.rl,by rw[sd8]; exact D5.sl,by rw[n5]; exact D5.ml,gl8,by rw[n6]; omega⟩
  have fz8:Fr y8 z.2:=by
   obtain⟨⟨k,hk,e⟩,hm⟩:=fz5
   exact⟨⟨k,by rw[n2]; exact hk,e⟩,by rw[n5]; exact hm⟩
  obtain⟨ss,ess,_⟩:=Y8.sides
  have sm8:=D8.small (by omega) (by omega) (by omega)
  have ssl:ss.length<=10000:=by have:=sm8.s; rw[ess,um] at this; exact this
  clear G8 G wy eg rn hs8 ha8 Y Y2 Y3 Y4 Y5 Y6 Y7 gy gy2 gy3 fz fz2 fz5
  obtain⟨A1,gy⟩:=Y8.obj
  refine⟨_,U,p,A1.dx,_,U,gy,(bo _ _ _).2.2.2.1,?_⟩
  refine dB Y8 fun H9 l1 Y9=>?_
  obtain⟨A1,gy⟩:=Y9.obj
  refine⟨_,U,p,A1.dx,_,U,gy,(aY _ _ _).2.2.2.1,?_⟩
  refine cZ Y9 sm8 fun H10 l2 Y10=>?_
  obtain⟨A1,gy⟩:=Y10.obj
  refine⟨_,U,p,A1.dx,_,U,gy,(aY _ _ _).2.2.2.1,?_⟩
  have ssn:y8.sides.length=ss.length:=by rw[ess,um]
  rw[ssn] at Y10
  refine cZ Y10 sm8 fun H20 l20 Y20=>?_
  rw[show(y8).sides.length=(ss).length by rw[ess,um]] at Y20
  refine⟨l20,U,⟨_,SqL.of (Y20.at_ uk)⟩,fun D20 hD20=>?_⟩
  refine⟨fun n m zs H'=>m=(ss).length - n/\n<=(ss).length/\zs=((ss).take n).map V.int/\YIn t.c_Yard H' p (y8) ((D20,.lst zs)::(l20,.lst (aX (ss).length))::((l2,HO.lst (aX ss.length))::(l1,HO.lst (y8.kinds.map fun kv=>kV kv.1))::L8)),⟨(ss).length,U,Nat.zero_le _,U,Y20.alloc hD20 _⟩,?_⟩
  rintro n20 m20 zs20 H21 ⟨rfl,hn20,rfl,Y21⟩
  refine⟨Y21.at_ uk,?_⟩
  have g20:SqL K H21 l20 (aX (ss).length):=SqL.of (Y21.at_ (uj _ uk))
  by_cases hlt20:n20<(ss).length
  ·refine .inr ⟨⟨_,_,g20,bu hlt20⟩,?_⟩
   rintro x20 H22 ⟨rfl,hx20⟩
   have hx21:=hx20 _ g20
   rw[bu hlt20] at hx21
   cases hx21
   refine⟨U,bT ?_⟩
   obtain⟨A20,gy20⟩:=Y21.obj
   refine⟨_,U,p,A20.dx,_,U,gy20,(aY _ _ _).2.2.2.2.2.1,_,U,?_⟩
   refine tn0 ?_
   refine dy Y21 (by omega) (v:=.int (ss)[n20]) (by rw[ess,Int.toNat_natCast,ur,uo hlt20]; rfl) ?_
   refine⟨sizeOk (by rw[um,uI]; omega),Y21.at_ uk,(ss).length - (n20+1),by omega,U,hlt20,?_,Y21.put0 _⟩
   rw[List.take_succ,uw,uo hlt20]; rfl
  have en20:n20=(ss).length:=by omega
  subst en20
  refine .inl ⟨⟨_,g20,by rw[bp]; omega⟩,?_⟩
  rw[List.take_length] at Y21
  refine⟨(sz_ 3),fun bl hbl=>?_⟩
  have Y11:=Y21.alloc hbl (.lst [.ref l1,.ref l2,.ref D20])
  obtain⟨L9,eL9,s9,mbl,ml1,ml2,mD1⟩:∃ L9:Kn,(bl,HO.lst [V.ref l1,.ref l2,.ref D20])::(D20,.lst (ss.map V.int))::(l20,.lst (aX ss.length))::(l2,.lst (aX ss.length))::(l1,.lst (y8.kinds.map fun kv=>kV kv.1))::L8=L9/\(∀ x ∈ L8,x ∈ L9)/\(bl,HO.lst [V.ref l1,.ref l2,.ref D20]) ∈ L9/\(l1,HO.lst (y8.kinds.map fun kv=>kV kv.1)) ∈ L9/\(l2,HO.lst (aX ss.length)) ∈ L9/\(D20,HO.lst (ss.map V.int)) ∈ L9:=⟨_,U,fun x hx=>by simp[hx],by simp,by simp,by simp,by simp⟩
  rw[eL9] at Y11
  obtain⟨D1,eD1⟩:∃ D1,D20=D1:=⟨_,U⟩
  obtain⟨l0,el0⟩:∃ l0,l20=l0:=⟨_,U⟩
  have eL9':=eL9
  rw[eD1,el0] at eL9'
  rw[eD1] at mbl mD1
  clear Y21 Y20 g20 hlt20 hn20 Y10 Y9 gy A1 eL9
  dsimp only[List.set]
  refine⟨_,U,by decide,fun nl hnl=>?_⟩
  have Y12:=Y11.alloc hnl (.lst [])
  refine⟨_,U,?_⟩
  refine tn0 ?_
  refine⟨p,y8,_,nl,[],z,N+1,M+2,R,U,Y12,uk,(fun _ h=>nomatch h),uj _ (s9 _ (s8 _ mz)),D8,.nil,(fun h=>nomatch h),(fun _ h=>nomatch h),fz8,by simp only[List.length_nil]; omega,by simp only[List.length_nil]; omega,by omega,fun H13 y13 Nw13 M13 _ _ e13 _ _ _ _ _ Y13=>?_⟩
  have e13:=e13 rfl
  subst e13
  refine⟨U,_,U,bA ?_⟩
  have s13:∀ x ∈ L9,x ∈ Nw13++((nl,HO.lst [])::L9):=fun x hx=>ul _ (uj _ hx)
  obtain⟨L13,eL13⟩:∃ L13:Kn,Nw13++((nl,HO.lst [])::L9)=L13:=⟨_,U⟩
  rw[eL13] at Y13 s13
  obtain⟨A1,gy⟩:=Y13.obj
  refine⟨_,U,p,A1.dx,_,U,gy,(b7 _ _ _).2.1,_,U,?_⟩
  refine tn0 ?_
  refine fJ (z:=z) Y13 (s13 _ (s9 _ (s8 _ mz))) fz8.1 ?_
  rw[fz8.2]
  refine⟨U,_,U,bA ?_⟩
  refine⟨_,U,p,A1.dx,_,U,gy,(bo _ _ _).2.2.2.1,?_⟩
  refine dB Y13 fun H14 l3 Y14=>?_
  obtain⟨A1,gy⟩:=Y14.obj
  refine⟨_,U,p,A1.dx,_,U,gy,(aY _ _ _).2.2.2.1,?_⟩
  refine cZ Y14 sm8 fun H15 l4 Y15=>?_
  obtain⟨A1,gy⟩:=Y15.obj
  refine⟨_,U,p,A1.dx,_,U,gy,(aY _ _ _).2.2.2.1,?_⟩
  rw[ssn] at Y15
  refine cZ Y15 sm8 fun H20 l20 Y20=>?_
  rw[show(y13).sides.length=(ss).length by rw[ess,um]] at Y20
  refine⟨l20,U,⟨_,SqL.of (Y20.at_ uk)⟩,fun D20 hD20=>?_⟩
  refine⟨fun n m zs H'=>m=(ss).length - n/\n<=(ss).length/\zs=((ss).take n).map V.int/\YIn t.c_Yard H' p (y13) ((D20,.lst zs)::(l20,.lst (aX (ss).length))::((l4,HO.lst (aX ss.length))::(l3,HO.lst (y13.kinds.map fun kv=>kV kv.1))::L13)),⟨(ss).length,U,Nat.zero_le _,U,Y20.alloc hD20 _⟩,?_⟩
  rintro n20 m20 zs20 H21 ⟨rfl,hn20,rfl,Y21⟩
  refine⟨Y21.at_ uk,?_⟩
  have g20:SqL K H21 l20 (aX (ss).length):=SqL.of (Y21.at_ (uj _ uk))
  by_cases hlt20:n20<(ss).length
  ·refine .inr ⟨⟨_,_,g20,bu hlt20⟩,?_⟩
   rintro x20 H22 ⟨rfl,hx20⟩
   have hx21:=hx20 _ g20
   rw[bu hlt20] at hx21
   cases hx21
   refine⟨U,bT ?_⟩
   obtain⟨A20,gy20⟩:=Y21.obj
   refine⟨_,U,p,A20.dx,_,U,gy20,(aY _ _ _).2.2.2.2.2.1,_,U,?_⟩
   refine tn0 ?_
   refine dy Y21 (by omega) (v:=.int (ss)[n20]) (by rw[ess,Int.toNat_natCast,ur,uo hlt20]; rfl) ?_
   refine⟨sizeOk (by rw[um,uI]; omega),Y21.at_ uk,(ss).length - (n20+1),by omega,U,hlt20,?_,Y21.put0 _⟩
   rw[List.take_succ,uw,uo hlt20]; rfl
  have en20:n20=(ss).length:=by omega
  subst en20
  refine .inl ⟨⟨_,g20,by rw[bp]; omega⟩,?_⟩
  rw[List.take_length] at Y21
  refine⟨(sz_ 3),fun cl hcl=>?_⟩
  have Y16:=Y21.alloc hcl (.lst [.ref l3,.ref l4,.ref D20])
  have up:∀ {x:Addr×HO},x ∈ L9->x ∈ (cl,HO.lst [V.ref l3,.ref l4,.ref D20])::(D20,.lst (ss.map V.int))::(l20,.lst (aX ss.length))::(l4,.lst (aX ss.length))::(l3,.lst (y13.kinds.map fun kv=>kV kv.1))::L13:=fun h=>by simp[s13 _ h]
  have ki:=Y16.ki
  refine⟨_,U,ju y13.kinds ss.length ss,ju y13.kinds ss.length ss,kT (Y16.at_ uk) (Y16.at_ (uj _ (uj _ (uj _ (uj _ uk))))) (Y16.at_ (uj _ (uj _ (uj _ uk)))) (Y16.at_ (uj _ uk)),?_,kS _ _ _ ki,kS _ _ _ ki,?_⟩
  ·exact kT (Y16.at_ (up mbl)) (Y16.at_ (up ml1)) (Y16.at_ (up ml2)) (Y16.at_ (up mD1))
  rw[ua _ (jt _ _ _ ki)]
  refine⟨_,U,bA ?_⟩
  obtain⟨A1,gy⟩:=Y16.obj
  refine⟨_,U,p,A1.dx,_,U,gy,(bo _ _ _).2.2.2.2.2.2.2.2,?_⟩
  refine i3 Y16 ?_
  rw[n6]
  refine⟨_,U,?_⟩
  refine tn0 ?_
  refine⟨_,_,U,?_⟩
  rw[decide_eq_true rfl]
  refine⟨_,U,df ?_⟩
  refine⟨_,U,p,A1.dx,_,U,gy,(bo _ _ _).2.2.2.2.2.2.1,?_⟩
  refine cB Y16 ?_
  refine⟨_,U,(show 2<=sizeLine by decide),fun b4 hb4=>?_⟩
  have Y17:=Y16.alloc hb4 (.tup [.int N,.int 0])
  refine tn0 ?_
  rw[en8]
  refine .inr ⟨a8,b4,(N:Int),0,U,Y17.at_ (uj _ (up (s9 _ ma8))),Y17.at_ uk,?_⟩
  obtain⟨Z,eZ⟩:∃ Z:Kn,L13=Z++L:=by
   rw[<- eL13,<- eL9',<- eL8,<- eL5]
   exact⟨Nw13++((nl,HO.lst [])::((bl,HO.lst [V.ref l1,.ref l2,.ref D1])::(D1,.lst (ss.map V.int))::(l0,.lst (aX ss.length))::(l2,.lst (aX ss.length))::(l1,.lst (y13.kinds.map fun kv=>kV kv.1))::(Nw8++((b3,HO.tup [.int N,.int 0])::(b2,HO.tup [.int N,.int 1])::[(b1,.tup [.int N,.int 0])])))),by simp only[uJ,List.cons_append,List.nil_append]⟩
  refine q _ y13 ((b4,HO.tup [.int N,.int 0])::(cl,HO.lst [V.ref l3,.ref l4,.ref D20])::(D20,.lst (ss.map V.int))::(l20,.lst (aX ss.length))::(l4,.lst (aX ss.length))::(l3,.lst (y13.kinds.map fun kv=>kV kv.1))::Z) D8 ?_
  simp only[List.cons_append]
  rw[<- eZ]
  exact Y17
end
noncomputable def SP0 (y:YR) (os:List Pr) (x:Int×Int):Prop:=(∃ l h:Int,Kp y l .line/\x=(l,h)/\(h=0∨h=1)/\(l,1 - h) ∈ os.map (·.2))∨∃ f:Int,Kp y f .still/\x=(f,0)/\(∃ r:Int,ak y.rods (Sum.inl f)=some (.int r)/\0<=r/\r<y.sides.length)/\(f,1) ∈ os.map (·.2)/\(f,2) ∈ os.map (·.2)
theorem SP0.perm {y:YR}{os os':List Pr}{x:Int×Int} (h:SP0 y os x) (e:∀ z,z ∈ os.map (fun x:Pr=>x.2)->z ∈ os'.map (fun x:Pr=>x.2)):SP0 y os' x:=by
 rcases h with ⟨l,h,h1,h2,h3,h4⟩ | ⟨f,h1,h2,h3,h4,h5⟩
 ·exact .inl ⟨l,h,h1,h2,h3,e _ h4⟩
 ·exact .inr ⟨f,h1,h2,h3,e _ h4,e _ h5⟩
noncomputable def FK (y:YR) (m:Nat) (fk:Int):Prop:=fk = -1∨(0<=fk/\∃ k r,Kp y fk k/\ak y.rods (Sum.inl fk)=some (.int r)/\(m:Int)<=r/\r<y.sides.length)
inductive sp_lines (C:Addr) (vs:List V) (H:Hp) (Q:VK) (E_:XK):Prop
 | mk (p:Addr) (y:YR) (L:Kn) (d:Addr) (ds:List Int) (mm N M R:Nat) (_:vs=[.ref p,.ref d,.int mm]) (_:YIn C H p y L) (_:Ld y N M R) (_:N<=100) (_:M<=1000) (_:R<=100) (_:y.trail=[]) (_:mm<=30) (_:(d,HO.lst (ds.map V.int)) ∈ L) (_:ds.length=70) (_:(∀ x ∈ ds,0<=x)) (_:∀ H' y' tp sl ol (ss os:List Pr) (fk:Int) (N':Nat) Nw,Ld y' N' M R->N<=N'->N'<=N+31->y'.trail=[]->Up y y'->(∀ x,Fr y x->Fr y' x)->ss.length=mm->os.length=mm->(os.map (·.2)).Nodup->(∀ x ∈ os,pK2 x ∈ Nw++L/\Fr y' x.2/\(N:Int)<=x.2.1)->(∀ x ∈ ss,pK2 x ∈ Nw++L/\SP0 y' os x.2)->FK y' y.sides.length fk->YIn C H' p y' ((tp,.tup [.ref sl,.ref ol,.int fk])::(sl,.lst (prV ss))::(ol,.lst (prV os))::(Nw++L))->Q (.ref tp) H'):sp_lines C vs H Q E_
theorem ix0 {n:Nat} (h:0<n):ixN n 0=some 0:=by unfold ixN; rw[if_pos (by decide),if_pos (by omega)]; rfl
theorem ix1 {n:Nat} (h:1<n):ixN n 1=some 1:=by unfold ixN; rw[if_pos (by decide),if_pos (by omega)]; rfl
theorem tV {α:Type}{a b c:α}{Z:List α}:(a::b::c::Z).Perm (c::b::a::Z):=(List.Perm.swap _ _ _).trans (((List.Perm.swap _ _ _).cons _).trans (.swap _ _ _))
inductive lns1Inv (C_:Addr) (p:Addr) (sl:Addr) (mm:Nat) (N:Nat) (M:Nat) (R:Nat) (y:YR) (L:Kn) (i:Nat) (mi:Nat) (zs:List V) (H':Hp):Prop
 | mk (_:mi=mm - i) (_:i<=mm) (y1:YR) (ss:List Pr) (Nw:Kn) (_:zs=prV ss) (_:ss.length=i) (_:Ld y1 (N+i) M R) (_:y1.trail=[]) (_:Up y y1) (_:(∀ x,Fr y x->Fr y1 x)) (_:y1.sides=y.sides) (_:(∀ (j:Nat) x,ss[j]?=some x->pK2 x ∈ Nw/\x.2.1=(N:Int)+j/\(x.2.2=0∨x.2.2=1)/\Kp y1 x.2.1 .line/\Fr y1 (x.2.1,1 - x.2.2))) (_:YIn C_ H' p y1 ((sl,.lst zs)::(Nw++L))):lns1Inv C_ p sl mm N M R y L i mi zs H'
inductive lns2Inv (C_:Addr) (p:Addr) (sl:Addr) (el:Addr) (y1:YR) (ss:List Pr) (Nw:Kn) (L:Kn) (k:Nat) (mk:Nat) (zs:List V) (H':Hp):Prop
 | mk (_:mk=ss.length - k) (_:k<=ss.length) (es:List Pr) (N2:Kn) (_:zs=prV es) (_:es.length=k) (_:(∀ (j:Nat) x,es[j]?=some x->pK2 x ∈ N2/\∃ s,ss[j]?=some s/\x.2=(s.2.1,1 - s.2.2))) (_:YIn C_ H' p y1 ((el,.lst zs)::(sl,.lst (prV ss))::(N2++(Nw++L)))):lns2Inv C_ p sl el y1 ss Nw L k mk zs H'
inductive lns3Inv (C_:Addr) (p:Addr) (d:Addr) (sl:Addr) (el:Addr) (i:Nat) (N:Nat) (M:Nat) (R:Nat) (y:YR) (L1:Kn) (σ':St) (H':Hp):Prop
 | mk (y2:YR) (fk:Int) (ss2 es2:List Pr) (N3:Nat) (Z:Kn) (_:σ'=[some (.ref p),some (.ref d),some (.int i),some (.ref sl),some (.ref el),some (.int fk),none,none]) (_:Ld y2 N3 M R) (_:N<=N3) (_:N3<=N+31) (_:y2.trail=[]) (_:Up y y2) (_:(∀ x,Fr y x->Fr y2 x)) (_:ss2.length=i) (_:es2.length=i) (_:(es2.map (·.2)).Nodup) (_:(∀ x ∈ es2,pK2 x ∈ Z++L1/\Fr y2 x.2/\(N:Int)<=x.2.1)) (_:(∀ x ∈ ss2,pK2 x ∈ Z++L1/\SP0 y2 es2 x.2)) (_:FK y2 y.sides.length fk) (_:YIn C_ H' p y2 ((el,.lst (prV es2))::(sl,.lst (prV ss2))::(Z++L1))):lns3Inv C_ p d sl el i N M R y L1 σ' H'
inductive lns4Inv (C_:Addr) (p:Addr) (d:Addr) (sl:Addr) (el:Addr) (ol:Addr) (i:Nat) (fk:Int) (y2:YR) (ss2:List Pr) (es2:List Pr) (L1:Kn) (Z:Kn) (k:Nat) (σ':St) (H':Hp):Prop
 | mk (os:List Pr) (o7:Option V) (_:σ'=[some (.ref p),some (.ref d),some (.int i),some (.ref sl),some (.ref el),some (.int fk),some (.ref ol),o7]) (_:os.Perm (es2.take k)) (_:YIn C_ H' p y2 ((ol,.lst (prV os))::(el,.lst (prV es2))::(sl,.lst (prV ss2))::(Z++L1))):lns4Inv C_ p d sl el ol i fk y2 ss2 es2 L1 Z k σ' H'
section
variable {P:Program}{w:World}{K:PySem.W.Frag}{mg:Str->Option Value}{base:Heap}{t:Adr}
theorem scLn:FnScope ["_law_yard","_law_d","_law_many","_law_starts","_law_ends","_law_fork","_law_outs","_law_end"] ["_law_yard","_law_d","_law_many"] (ah fG):={}
theorem nC (T:Txt K mg t):FnOk P w K mg base CX0 5 t.f_lines t.d_lines ["_law_yard","_law_d","_law_many"] (sp_lines t.c_Yard):=by
 obtain⟨_,hd_Ja1_2,hb_Ja1_2⟩:=cY T
 refine T.F_lines.ok scLn (fun vs H Q E h=>?_) (fun cdv A outer s H vs Q E hr h=>?_)
 ·obtain⟨_,_,_,_,_,_,_,_,_,rfl,_⟩:=h
  rfl
 ·obtain⟨p,y,L,d,ds,mm,N,M,R,rfl,Y,D,bN,bM,bR,yt,bm,md,hds,dp,q⟩:=h
  refine⟨_,(ac (dZ (ix:=3) scLn.nd rfl (Or.inl rfl) (esc:=ah fG) (k:=1) ["_law_turn","_law_yard","_law_d","_law_many","_law_starts","_law_ends","_law_fork","_law_outs","_law_end"] rfl (bG (by rfl) T.z_range (aa (pv 2) ae)) (fun _ _ _ _ _=>by exact(aw (i:=0) (show List.Nodup (["_law_turn","_law_yard","_law_d","_law_many","_law_starts","_law_ends","_law_fork","_law_outs","_law_end"]:List Str) from by decide +kernel) rfl (Or.inl rfl))) (fun _ _ _ _ _=>by exact bB) (fun _ _ _ _ _=>by exact(aI (aa (ao (pv 1) T.cl_Yard T.M_Ja1 (cG T) hr hb_Ja1_2 hd_Ja1_2 ap (aa aJ ae)) (aa (az aT (az bW (aF (nY (K:=K) rfl) (pv 2) (az bh ag (pv 0))) ag) ag) ae)))) rfl (by decide +kernel) (by decide +kernel) rfl (by decide +kernel) (by rfl) (fun _ _ h _=>h) (by decide +kernel))
   (ac (dZ (ix:=4) scLn.nd rfl (Or.inl rfl) (esc:=ah fG) (k:=2) ["_law_line","_law_head","_law_yard","_law_d","_law_many","_law_starts","_law_ends","_law_fork","_law_outs","_law_end"] rfl (br (pv 3)) (fun _ _ _ _ _=>by exact(iu (K:=K) (n:=2) rfl rfl (aK (aw (i:=0) (show List.Nodup (["_law_line","_law_head","_law_yard","_law_d","_law_many","_law_starts","_law_ends","_law_fork","_law_outs","_law_end"]:List Str) from by decide +kernel) rfl (Or.inl rfl)) (aK (aw (i:=1) (show List.Nodup (["_law_line","_law_head","_law_yard","_law_d","_law_many","_law_starts","_law_ends","_law_fork","_law_outs","_law_end"]:List Str) from by decide +kernel) rfl (Or.inl rfl)) bH)))) (fun _ _ _ _ _=>by exact bB) (fun _ _ _ _ _=>by exact(aI (aa (pv 0) (aa (az cR ag (pv 1)) ae)))) rfl (by decide +kernel) (by decide +kernel) rfl (by decide +kernel) (by rfl) (fun _ _ h _=>h) (by decide +kernel))
   (ac (aD (i:=5) scLn.nd rfl (Or.inl rfl) (az cR ag ag))
   (ac (cf (aA (PW.pt (dL (ai dG (pv 2) ag (am _)) (da (ai bq (az aT (aF ar (pv 1) ag) ag) ag (am _)))))
    (ac (aD (i:=5) scLn.nd rfl (Or.inl rfl) (ao (pv 0) T.cl_Yard T.M_Ja1 (cG T) hr hb_Ja1_2 hd_Ja1_2 ap (aa aJ ae)))
     (ac (bJ (aI (aa (pv 5) (aa ag ae))) (dN (pv 3) ag cE))
     (ac (bJ (aI (aa (pv 5) (aa ag ae))) (dN (pv 3) ag cE))
     (ac (bJ (aI (aa (pv 5) (aa ag ae))) (dN (pv 4) ag cE))
     (af (bJ (aI (aa (pv 5) (aa ag ae))) (dN (pv 4) ag cE)))))))
    aj))
   (ac (aD (i:=6) scLn.nd rfl (Or.inl rfl) (bb ae))
   (ac (bD PassesOwn.never rfl (br (pv 4)) (aw (i:=7) scLn.nd rfl (Or.inl rfl))
    (af (al (bV PySem.F.plainAttrs_list PySem.F.slot_list_insert PySem.F.type_list_insert lu (pv 6) (aa (az aT (aF ar (pv 1) (az bh ag (aG ay (by rfl) T.z_len (by rfl) (aa (pv 6) ae)))) (az bh (aG ay (by rfl) T.z_len (by rfl) (aa (pv 6) ae)) ag)) (aa (pv 7) ae))))))
   (af (aq (aI (aa (pv 3) (aa (pv 6) (aa (pv 5) ae)))))))))))),?_⟩
  rw[show L2.start ["_law_yard","_law_d","_law_many","_law_starts","_law_ends","_law_fork","_law_outs","_law_end"] [V.ref p,V.ref d,V.int mm]=([some (V.ref p),some (V.ref d),some (V.int mm),none,none,none,none,none]:St) from rfl]
  have gd:∀ {i:Int},0<=i->i<70->atI (ds.map V.int) i=some (.int (ds.getD i.toNat 0)):=fun h0 h1=>atD h0 (by omega)
  refine⟨_,U,_,U,by omega,by omega,fun sl hsl=>?_⟩
  rw[Int.toNat_natCast]
  refine⟨(lns1Inv t.c_Yard p sl mm N M R y L),
   ⟨mm,U,Nat.zero_le _,y,[],[],U,U,D,yt,Up.refl _,fun _ h=>h,U,(fun j x h=>by cases h),Y.alloc hsl _⟩,?_⟩
  clear Y
  rintro i mi zs H1 ⟨rfl,hi,y1,ss,Nw,rfl,ssl,D1,yt1,u1,f1,sd1,sp1,Y⟩
  refine⟨Y.at_ uk,?_⟩
  by_cases hlt:i<mm
  ·refine .inr ⟨hlt,?_⟩
   rintro x H2 ⟨rfl,rfl⟩
   rw[Int.zero_add]
   refine⟨U,bT ?_⟩
   obtain⟨A1,gy⟩:=Y.obj
   refine⟨_,U,p,A1.dx,_,U,gy,(aY _ _ _).1,?_⟩
   refine tc1 ?_
   refine fc Y D1 ⟨by omega,by omega,by omega⟩ .line 0 .non (fun c=>nomatch c) (fun c=>nomatch c) fun H3 Y3=>?_
   have u3:=D1.up .line 0 .non
   obtain⟨h,eh,h01⟩:∃ h:Int,ds.getD ((37:Int)+i).toNat 0 / 7 % 2=h/\(h=0∨h=1):=⟨_,U,by omega⟩
   refine⟨_,U,_,U,_,_,U,U,d,_,_,_,U,U,SqL.of (Y3.at_ (uj _ (ul _ md))),gd (by omega) (by omega),_,_,U,U,⟨by decide,by decide⟩,_,_,U,U,(show(0:Int)<2 by decide),(show 2<=sizeLine by decide),fun b hb=>?_⟩
   rw[eh]
   have Y4:=(Y3.alloc hb (.tup [.int ((N+i:Nat):Int),.int h])).perm (.swap _ _ _)
   have el:(prV ss).length=ss.length:=by unfold prV; rw[um]
   refine⟨sizeOk (by omega),Y4.at_ uk,mm - (i+1),by omega,U,hlt,aN y1 .line 0 .non,ss++[(b,((N+i:Nat):Int),h)],(b,.tup [.int ((N+i:Nat):Int),.int h])::Nw,by unfold prV; rw[uw]; rfl,by rw[uq,ssl]; rfl,D1.lay .line 0 .non,U,u1.trans u3,fun x hx=>(f1 x hx).lay D1 .line 0 .non,sd1,?_,Y4.put0 _⟩
   intro j x hj
   by_cases c:j<ss.length
   ·rw[uF c] at hj
    obtain⟨a1,a2,a3,a4,a5⟩:=sp1 j x hj
    exact⟨uj _ a1,a2,a3,a4.up u3,a5.lay D1 .line 0 .non⟩
   ·rw[uG (by omega)] at hj
    have c2:j - ss.length=0:=by
     have:=(List.getElem?_eq_some_iff.mp hj).1
     rw[uB] at this
     omega
    rw[c2] at hj
    cases hj
    refine⟨uk,by show((N+i:Nat):Int)=_; omega,h01,Kp.lay D1 .line 0 .non,?_⟩
    exact Fr.new D1 .line 0 .non (by show(0:Int)<=1 - h; omega) (by show 1 - h<2; omega)
  have ei:i=mm:=by omega
  subst ei
  refine .inl ⟨(show i<=i from Nat.le_refl _),?_⟩
  dsimp only[List.set]
  have gs:∀ {j:Nat}{x:Pr},ss[j]?=some x->(prV ss)[j]?=some (.ref x.1):=fun h=>by unfold prV; rw[ur,h]; rfl
  have psl:(prV ss).length=ss.length:=by unfold prV; rw[um]
  refine⟨_,U,sl,U,⟨_,SqL.of (Y.at_ uk)⟩,fun el hel=>?_⟩
  refine⟨(lns2Inv t.c_Yard p sl el y1 ss Nw L),⟨ss.length,U,Nat.zero_le _,[],[],U,U,(fun j x h=>by cases h),Y.alloc hel _⟩,?_⟩
  clear Y
  rintro k mk zs H2 ⟨rfl,hk,es,N2,rfl,esl,ep,Y⟩
  refine⟨Y.at_ uk,?_⟩
  have g1:SqL K H2 sl (prV ss):=SqL.of (Y.at_ (uj _ uk))
  by_cases hlt:k<ss.length
  ·have hs:=uo hlt
   obtain⟨x0,ex0⟩:∃ x0,ss[k]=x0:=⟨_,U⟩
   rw[ex0] at hs
   obtain⟨a1,a2,a3,a4,a5⟩:=sp1 k x0 hs
   refine .inr ⟨⟨_,_,g1,gs hs⟩,?_⟩
   rintro x H3 ⟨rfl,hx1⟩
   have hx2:=hx1 _ g1
   rw[gs hs] at hx2
   cases hx2
   refine⟨x0.1,_,U,SqT.of (Y.at_ (uj _ (uj _ (ul _ (uC _ a1))))),U,_,_,U,_,_,U,U,U,bT ?_⟩
   refine⟨_,U,_,U,_,_,U,U,(show 2<=sizeLine by decide),fun b hb=>?_⟩
   have Y4:=(Y.alloc hb (.tup [.int x0.2.1,.int (1 - x0.2.2)])).perm (.swap _ _ _)
   have pel:(prV es).length=es.length:=by unfold prV; rw[um]
   refine⟨sizeOk (by omega),Y4.at_ uk,ss.length - (k+1),by omega,U,hlt,es++[(b,x0.2.1,1 - x0.2.2)],(b,.tup [.int x0.2.1,.int (1 - x0.2.2)])::N2,by unfold prV; rw[uw]; rfl,by rw[uq,esl]; rfl,?_,?_⟩
   ·intro j x hj
    by_cases c:j<es.length
    ·rw[uF c] at hj
     obtain⟨c1,c2⟩:=ep j x hj
     exact⟨uj _ c1,c2⟩
    ·rw[uG (by omega)] at hj
     have c2:j - es.length=0:=by
      have:=(List.getElem?_eq_some_iff.mp hj).1
      rw[uB] at this
      omega
     rw[c2] at hj
     cases hj
     exact⟨uk,x0,by rw[show j=k by omega]; exact hs,U⟩
   ·exact(Y4.put0 _).perm ((List.Perm.swap _ _ _).cons _)
  have ek:k=ss.length:=by omega
  subst ek
  refine .inl ⟨⟨_,g1,by omega⟩,?_⟩
  clear g1 hlt hk hi
  dsimp only[List.set]
  refine⟨_,_,U,U,?_⟩
  dsimp only[List.set]
  obtain⟨L1,eL1⟩:∃ L1:Kn,N2++(Nw++L)=L1:=⟨_,U⟩
  rw[eL1] at Y
  have mN2:∀ x ∈ N2,x ∈ L1:=fun x hx=>by rw[<- eL1]; exact uC _ hx
  have mNw:∀ x ∈ Nw,x ∈ L1:=fun x hx=>by rw[<- eL1]; exact ul _ (uC _ hx)
  have mdL:(d,HO.lst (ds.map V.int)) ∈ L1:=by rw[<- eL1]; exact ul _ (ul _ md)
  refine⟨(lns3Inv t.c_Yard p d sl el i N M R y L1),?_,?_⟩
  ·have nd:(es.map (fun x:Pr=>x.2)).Nodup:=by
    rw[List.nodup_iff_pairwise_ne,List.pairwise_iff_getElem]
    intro a b ha hb hab c
    rw[um] at ha hb
    rw[List.getElem_map,List.getElem_map] at c
    obtain⟨_,s1,h1,e1⟩:=ep a _ (uo ha)
    obtain⟨_,s2,h2,e2⟩:=ep b _ (uo hb)
    have c1:=(sp1 _ _ h1).2.1
    have c2:=(sp1 _ _ h2).2.1
    rw[e1,e2] at c
    injection c with c _
    omega
   have eprop:∀ x ∈ es,pK2 x ∈ L1/\Fr y1 x.2/\(N:Int)<=x.2.1:=fun x hx=>by
    obtain⟨j,hj⟩:=List.mem_iff_getElem?.mp hx
    obtain⟨c1,s0,h1,e1⟩:=ep j x hj
    obtain⟨_,b2,b3,b4,b5⟩:=sp1 j s0 h1
    exact⟨mN2 _ c1,by rw[e1]; exact b5,by rw[e1]; show(N:Int)<=s0.2.1; omega⟩
   have sprop:∀ (j:Nat) x,ss[j]?=some x->pK2 x ∈ L1/\∃ e,es[j]?=some e/\e.2=(x.2.1,1 - x.2.2)/\Kp y1 x.2.1 .line/\(x.2.2=0∨x.2.2=1):=fun j x hj=>by
    have jl:=(List.getElem?_eq_some_iff.mp hj).1
    obtain⟨e,he⟩:∃ e,es[j]?=some e:=⟨_,uo (by omega)⟩
    obtain⟨_,s0,h1,e1⟩:=ep j e he
    rw[hj] at h1
    cases h1
    obtain⟨b1,b2,b3,b4,b5⟩:=sp1 j x hj
    exact⟨mNw _ b1,e,he,e1,b4,b3⟩
   have keep:lns3Inv t.c_Yard p d sl el i N M R y L1 [some (V.ref p),some (.ref d),some (.int (i:Int)),some (.ref sl),some (.ref el),some (.int (0 - 1)),none,none] H2:=by
    refine⟨y1,0 - 1,ss,es,N+i,[],U,D1,by omega,by omega,yt1,u1,f1,ssl,by omega,nd,eprop,fun x hx=>?_,.inl rfl,Y⟩
    obtain⟨j,hj⟩:=List.mem_iff_getElem?.mp hx
    obtain⟨c1,e,he,e1,e2,e3⟩:=sprop j x hj
    exact⟨c1,.inl ⟨x.2.1,x.2.2,e2,U,e3,by rw[<- e1]; exact uO (f:=fun x:Pr=>x.2) (ut he)⟩⟩
   refine⟨_,U,_,_,U,U,_,U,if2 (fun c1=>?_) (fun _=>keep)⟩
   refine⟨_,U,d,_,_,_,U,U,SqL.of (Y.at_ (uj _ (uj _ mdL))),gd (by decide) (by decide),_,_,U,U,(show(0:Int)<3 by decide),U,_,U,if2 (fun _=>?_) (fun _=>keep)⟩
   clear keep
   have i2:2<=i:=by have:=of_decide_eq_true c1; omega
   obtain⟨s0,s1,sr,ess⟩:∃ s0 s1 sr,ss=s0::s1::sr:=by
    match ss,ssl with
    | [],h=>simp at h; omega
    | [_],h=>simp at h; omega
    | a::b::r,_=>exact⟨a,b,r,U⟩
   obtain⟨e0,e1,er,ees⟩:∃ e0 e1 er,es=e0::e1::er:=by
    match es,esl with
    | [],h=>simp at h; omega
    | [_],h=>simp at h; omega
    | a::b::r,_=>exact⟨a,b,r,U⟩
   obtain⟨A1,gy⟩:=Y.obj
   refine⟨_,U,p,A1.dx,_,U,gy,(aY _ _ _).1,?_⟩
   refine tc1 ?_
   refine fc Y D1 ⟨by omega,by omega,by omega⟩ .still 0 .non (fun c=>nomatch c) (fun _ c=>absurd rfl c) fun H3 Y3=>?_
   have u3:=D1.up .still 0 .non
   have D3:=D1.lay .still 0 .non
   have k3:Kp (aN y1 .still 0 .non) ((N+i:Nat):Int) .still:=Kp.lay D1 .still 0 .non
   have r3:ak (aN y1 .still 0 .non).rods (Sum.inl ((N+i:Nat):Int))=some (.int y1.sides.length):=by
    show ak (aH y1.rods (Sum.inl y1.next) (if V.non=.non then .int y1.sides.length else .non)) _=_
    rw[if_pos rfl,av,if_pos (by rw[D1.nx])]
   have sl3:(aN y1 .still 0 .non).sides.length=y1.sides.length+1:=by
    show(if Kd.still.point=true/\V.non=.non then y1.sides++[.int 1] else y1.sides).length=_
    rw[if_pos ⟨U,U⟩,uq]; rfl
   have fn1:Fr (aN y1 .still 0 .non) (((N+i:Nat):Int),1):=Fr.new D1 .still 0 .non (by decide) (by decide)
   have fn2:Fr (aN y1 .still 0 .non) (((N+i:Nat):Int),2):=Fr.new D1 .still 0 .non (by decide) (by decide)
   have fl3:∀ x,Fr y1 x->Fr (aN y1 .still 0 .non) x/\x.1≠((N+i:Nat):Int):=fun x hx=>⟨hx.lay D1 .still 0 .non,fun c=>by have:=D1.lt hx.1; omega⟩
   obtain⟨y3,ey3⟩:∃ y3,aN y1 .still 0 .non=y3:=⟨_,U⟩
   have t3:y3.trail=[]:=by rw[<- ey3]; rfl
   rw[ey3] at Y3 u3 D3 k3 r3 sl3 fn1 fn2 fl3
   dsimp only[List.set]
   obtain⟨f,ef⟩:∃ f:Int,((N+i:Nat):Int)=f:=⟨_,U⟩
   rw[ef] at k3 r3 fn1 fn2 fl3 ⊢
   refine⟨_,U,(show 2<=sizeLine by decide),fun b0 hb0=>?_⟩
   rw[ess,ees] at Y3
   have Y4:=(Y3.alloc hb0 (.tup [.int f,.int 0])).perm tV
   refine⟨_,U,sl,_,_,0,U,U,Y4.at_ uk,ix0 (Nat.succ_pos _),?_⟩
   have Y5:=(Y4.put0 (.lst ((prV (s0::s1::sr)).set 0 (.ref b0)))).perm (.swap _ _ _)
   refine⟨_,U,(show 2<=sizeLine by decide),fun b1 hb1=>?_⟩
   have Y6:=(Y5.alloc hb1 (.tup [.int f,.int 0])).perm tV
   refine⟨_,U,sl,_,_,1,U,U,Y6.at_ uk,ix1 (Nat.succ_lt_succ (Nat.succ_pos _)),?_⟩
   have Y7:=(Y6.put0 (.lst (((prV (s0::s1::sr)).set 0 (.ref b0)).set 1 (.ref b1)))).perm (.swap _ _ _)
   refine⟨_,U,(show 2<=sizeLine by decide),fun b2 hb2=>?_⟩
   have Y8:=(Y7.alloc hb2 (.tup [.int f,.int 1])).perm (.swap _ _ _)
   refine⟨_,U,el,_,_,0,U,U,Y8.at_ uk,ix0 (Nat.succ_pos _),?_⟩
   have Y9:=(Y8.put0 (.lst ((prV (e0::e1::er)).set 0 (.ref b2)))).perm ((List.Perm.swap _ _ _).cons _)
   refine⟨_,U,(show 2<=sizeLine by decide),fun b3 hb3=>?_⟩
   have Y10:=(Y9.alloc hb3 (.tup [.int f,.int 2])).perm (.swap _ _ _)
   refine⟨_,U,el,_,_,1,U,U,Y10.at_ uk,ix1 (Nat.succ_lt_succ (Nat.succ_pos _)),?_⟩
   have Y11:=(Y10.put0 (.lst (((prV (e0::e1::er)).set 0 (.ref b2)).set 1 (.ref b3)))).perm ((List.Perm.swap _ _ _).cons _)
   have er':∀ x ∈ er,x ∈ es:=fun x hx=>by rw[ees]; exact uj _ (uj _ hx)
   have up:∀ {x:Addr×HO},x ∈ L1->x ∈ [(b3,HO.tup [.int f,.int 2]),(b2,.tup [.int f,.int 1]),(b1,.tup [.int f,.int 0]),(b0,.tup [.int f,.int 0])]++L1:=fun h=>ul _ h
   refine⟨y3,f,(b0,f,0)::(b1,f,0)::sr,(b2,f,1)::(b3,f,2)::er,N+i+1,[(b3,HO.tup [.int f,.int 2]),(b2,.tup [.int f,.int 1]),(b1,.tup [.int f,.int 0]),(b0,.tup [.int f,.int 0])],U,D3,by omega,by omega,t3,u1.trans u3,fun x hx=>(fl3 x (f1 x hx)).1,by rw[ess] at ssl; exact ssl,by rw[ees] at esl; exact esl.trans ssl,?_,?_,?_,.inr ⟨by omega,.still,_,k3,r3,by rw[sd1]; exact Int.le_refl _,by omega⟩,Y11⟩
   ·have nr:∀ e,(f,e) ∉ er.map (fun x:Pr=>x.2):=fun e h=>by
     obtain⟨x,hx,ex⟩:=uK.mp h
     have:=(fl3 x.2 (eprop x (er' x hx)).2.1).2
     rw[ex] at this
     exact this rfl
    rw[ees] at nd
    have nd':=(List.nodup_cons.mp (List.nodup_cons.mp nd).2).2
    show((f,(1:Int))::(f,2)::er.map (fun x:Pr=>x.2)).Nodup
    refine List.nodup_cons.mpr ⟨fun h=>?_,List.nodup_cons.mpr ⟨nr 2,nd'⟩⟩
    rcases uz.mp h with h | h
    ·injection h with _ h; cases h
    ·exact nr 1 h
   ·intro x hx
    rcases uz.mp hx with rfl | hx
    ·exact⟨by simp,fn1,by show(N:Int)<=f; omega⟩
    ·rcases uz.mp hx with rfl | hx
     ·exact⟨by simp,fn2,by show(N:Int)<=f; omega⟩
     ·obtain⟨c1,c2,c3⟩:=eprop x (er' x hx)
      exact⟨up c1,(fl3 _ c2).1,c3⟩
   ·have fs:SP0 y3 ((b2,f,1)::(b3,f,2)::er) (f,0):=.inr ⟨f,k3,U,⟨_,r3,by omega,by omega⟩,uk,uj _ uk⟩
    intro x hx
    rcases uz.mp hx with rfl | hx
    ·exact⟨by simp,fs⟩
    ·rcases uz.mp hx with rfl | hx
     ·exact⟨by simp,fs⟩
     ·obtain⟨j,hj⟩:=List.mem_iff_getElem?.mp hx
      obtain⟨c1,e,he,e1,e2,e3⟩:=sprop (j+2) x (by rw[ess]; exact hj)
      rw[ees] at he
      refine⟨up c1,.inl ⟨x.2.1,x.2.2,e2.up u3,U,e3,?_⟩⟩
      rw[<- e1]
      exact uj _ (uj _ (uO (f:=fun x:Pr=>x.2) (ut (show er[j]?=some e from he))))
  clear Y
  rintro σ' H3 ⟨y2,fk,ss2,es2,N3,Z,rfl,D2,n1,n2,t2,u2,f2,ssl2,esl2,nd2,ep2,sp2,fk2,Y⟩
  refine⟨by decide,fun ol hol=>?_⟩
  have Y1:=Y.alloc hol (.lst [])
  dsimp only[List.set]
  have pel:(prV es2).length=es2.length:=by unfold prV; rw[um]
  refine⟨_,U,el,U,⟨_,SqL.of (Y1.at_ (uj _ uk))⟩,cI (xs:=prV es2) (lns4Inv t.c_Yard p d sl el ol i fk y2 ss2 es2 L1 Z) ⟨[],_,U,List.Perm.refl _,Y1⟩ ?_ ?_ ?_⟩
  ·rintro k σ' H' _ ⟨os,o7,rfl,_,Y2⟩
   exact SqL.of (Y2.at_ (uj _ uk))
  ·clear Y Y1
   rintro k x σ' H4 hx ⟨os,o7,rfl,pm,Y⟩
   unfold prV at hx
   rw[ur] at hx
   obtain⟨e,he,rfl⟩:=Option.map_eq_some_iff.mp hx
   have kl:=(List.getElem?_eq_some_iff.mp he).1
   have osl:os.length=k:=by rw[pm.length_eq,uI]; omega
   have pol:(prV os).length=os.length:=by unfold prV; rw[um]
   dsimp only[List.set]
   have gol:=Y.at_ uk
   refine⟨_,U,.inl ⟨U,_,SqL.of gol⟩,_,U,_,U,ol,_,U,.inl (SqL.of gol),_,_,U,U,d,_,_,_,U,U,SqL.of (Y.at_ (uj _ (uj _ (uj _ (ul _ mdL))))),gd (by omega) (by omega),_,U,ol,_,U,.inl (SqL.of gol),_,_,U,U,_,_,U,U,(by omega),_,U,?_⟩
   dsimp only
   rw[pol,osl]
   obtain⟨j,hj,jl⟩:∃ j:Nat,ds.getD ((33:Int)+(k:Int)).toNat 0 % ((k:Int)+1)=j/\j<=k:=by
    have h1:=Int.emod_nonneg (ds.getD ((33:Int)+(k:Int)).toNat 0) (show(k:Int)+1≠0 by omega)
    have h2:=Int.emod_lt_of_pos (ds.getD ((33:Int)+(k:Int)).toNat 0) (show(0:Int)<(k:Int)+1 by omega)
    exact⟨(ds.getD ((33:Int)+(k:Int)).toNat 0 % ((k:Int)+1)).toNat,by omega,by omega⟩
   rw[hj]
   refine tn0 ?_
   refine⟨ol,_,_,j,U,U,gol,by omega,by omega,?_⟩
   have e2:(prV os).take j++V.ref e.1::(prV os).drop j=prV (os.take j++e::os.drop j):=by unfold prV; rw[uw,uH,List.map_take,List.map_drop]
   rw[e2]
   refine⟨os.take j++e::os.drop j,_,U,?_,Y.put0 _⟩
   rw[List.take_add_one,he]
   refine List.perm_middle.trans ?_
   rw[List.take_append_drop]
   exact(pm.cons e).trans (List.perm_append_comm (l₁:=[e]))
  ·clear Y Y1
   rintro σ' H4 ⟨os,o7,rfl,pm,Y⟩
   rw[pel,List.take_length] at pm
   have pmm:=pm.map (fun x:Pr=>x.2)
   refine⟨_,U,_,U,_,U,(show 3<=sizeLine by decide),fun tp htp=>?_⟩
   have Y1:=Y.alloc htp (.tup [.ref sl,.ref ol,.int fk])
   have eN:((el,HO.lst (prV es2))::(Z++(N2++Nw)))++L=(el,HO.lst (prV es2))::(Z++L1):=by rw[<- eL1]; simp only[List.cons_append,uJ]
   refine q _ y2 tp sl ol ss2 os fk N3 ((el,.lst (prV es2))::(Z++(N2++Nw))) D2 n1 n2 t2 u2 f2 ssl2 (by rw[pm.length_eq]; exact esl2) (pmm.nodup_iff.mpr nd2) (fun x hx=>?_) (fun x hx=>?_) fk2 ?_
   ·obtain⟨c1,c2,c3⟩:=ep2 x (pm.mem_iff.mp hx)
    exact⟨by rw[eN]; exact uj _ c1,c2,c3⟩
   ·obtain⟨c1,c2⟩:=sp2 x hx
    exact⟨by rw[eN]; exact uj _ c1,c2.perm fun z hz=>pmm.mem_iff.mpr hz⟩
   ·rw[eN]
    exact Y1.perm (.cons _ (((List.Perm.swap _ _ _).cons _).trans (.swap _ _ _)))
end
theorem SPL.same {y y':YR}{n:Nat}{s z:Int×Int} (h:SPL y L n s z) (e1:y'.kinds=y.kinds) (e2:y'.mates=y.mates) (e3:y'.rods=y.rods) (e4:y'.sides.length=y.sides.length):SPL y' L n s z:=by
 rcases h with ⟨l,h,h1,h2,h3,h4⟩ | ⟨f,h1,h2,⟨r,h3,h4,h5⟩,h6,h7⟩
 ·exact .inl ⟨l,h,h1.same e1,h2,h3,h4.same e1 e2⟩
 ·exact .inr ⟨f,h1.same e1,h2,⟨r,by rw[e3]; exact h3,h4,by rw[e4]; exact h5⟩,h6.same e1 e2,h7.same e1 e2⟩
theorem SPL.mono {y:YR}{L L':Kn}{n:Nat}{s z:Int×Int} (h:SPL y L n s z) (sb:∀ v ∈ L,v ∈ L'):SPL y L' n s z:=by
 rcases h with ⟨l,h,h1,h2,h3,h4⟩ | ⟨f,h1,h2,h3,h6,h7⟩
 ·exact .inl ⟨l,h,h1,h2,h3,h4.up (Up.refl _) sb⟩
 ·exact .inr ⟨f,h1,h2,h3,h6.up (Up.refl _) sb,h7.up (Up.refl _) sb⟩
theorem SPL.there {y:YR}{n:Nat}{x z:Int×Int} (h:SPL y L n x z):bw y x.1 x.2:=by
 rcases h with ⟨l,h,h1,rfl,h3,_⟩ | ⟨f,h1,rfl,_⟩
 ·rcases h3 with rfl | rfl
  ·exact⟨.line,h1,(show(0:Int)<=0 by decide),(show(0:Int)<2 by decide)⟩
  ·exact⟨.line,h1,(show(0:Int)<=1 by decide),(show(1:Int)<2 by decide)⟩
 ·exact⟨.still,h1,(show(0:Int)<=0 by decide),(show(0:Int)<3 by decide)⟩
theorem FK.same {y y':YR}{m:Nat}{fk:Int} (h:FK y m fk) (e1:y'.kinds=y.kinds) (e3:y'.rods=y.rods) (e4:y'.sides.length=y.sides.length):FK y' m fk:=by
 rcases h with h | ⟨h0,k,r,h1,h2,h3,h4⟩
 ·exact .inl h
 ·exact .inr ⟨h0,k,r,h1.same e1,by rw[e3]; exact h2,h3,by rw[e4]; exact h4⟩
inductive sntInv (C:Addr) (p sl d:Addr) (z:Pr) (fk:Int) (m n:Nat) (y0:YR) (ss:List Pr) (L:Kn) (i:Nat) (σ':St) (H':Hp):Prop
 | mk (y:YR) (Nw:Kn) (o5:Option V) (o6:Option V) (o7:Option V) (_:σ'=[some (.ref p),some (.ref sl),some (.int fk),some (.ref z.1),some (.ref d),o5,o6,o7]) (_:cc y) (_:y.next=y0.next) (_:y.trail.length<=200000) (_:y.rung.length<=200) (_:y.kinds=y0.kinds) (_:y.mates=y0.mates) (_:y.rods=y0.rods) (_:y.notes=y0.notes) (_:y.sides.length=y0.sides.length) (_:(∀ j:Nat,j<m->y.sides[j]?=y0.sides[j]?)) (_:YIn C H' p y (Nw++L)):sntInv C p sl d z fk m n y0 ss L i σ' H'
inductive sp_sent (C:Addr) (vs:List V) (H:Hp) (Q:VK) (E_:XK):Prop
 | mk (p:Addr) (y:YR) (L:Kn) (sl d:Addr) (ss:List Pr) (ds:List Int) (fk:Int) (z:Pr) (m n:Nat) (_:vs=[.ref p,.ref sl,.int fk,.ref z.1,.ref d]) (_:YIn C H p y L) (_:cc y) (_:y.trail.length<=200000) (_:y.rung.length<=200) (_:(sl,HO.lst (prV ss)) ∈ L) (_:(d,HO.lst (ds.map V.int)) ∈ L) (_:pK2 z ∈ L) (_:ds.length=70) (_:(∀ x ∈ ss,pK2 x ∈ L/\SPL y L n x.2 z.2)) (_:ss.length=n+1) (_:n<=40) (_:TG y z.2) (_:FK y m fk) (_:∀ H' y' Nw,y'.kinds=y.kinds->y'.mates=y.mates->y'.rods=y.rods->(∀ j:Nat,j<m->y'.sides[j]?=y.sides[j]?)->(∀ N M R,Ld y N M R->Ld y' N M R)->YIn C H' p y' (Nw++L)->Q (.bl true) H'):sp_sent C vs H Q E_
inductive snt1Inv (C_:Addr) (p:Addr) (d:Addr) (sl:Addr) (z:Pr) (fk:Int) (i:Nat) (m:Nat) (o6:Option V) (o7:Option V) (y0:YR) (Nw:Kn) (L:Kn) (σ':St) (H':Hp):Prop
 | mk (y:YR) (_:σ'=[some (.ref p),some (.ref sl),some (.int fk),some (.ref z.1),some (.ref d),some (.int i),o6,o7]) (_:cc y) (_:y.next=y0.next) (_:y.trail.length<=200000) (_:y.rung.length<=200) (_:y.kinds=y0.kinds) (_:y.mates=y0.mates) (_:y.rods=y0.rods) (_:y.notes=y0.notes) (_:y.sides.length=y0.sides.length) (_:(∀ j:Nat,j<m->y.sides[j]?=y0.sides[j]?)) (_:YIn C_ H' p y (Nw++L)):snt1Inv C_ p d sl z fk i m o6 o7 y0 Nw L σ' H'
section
variable {P:Program}{w:World}{K:PySem.W.Frag}{mg:Str->Option Value}{base:Heap}{t:Adr}
theorem scSe:FnScope ["_law_yard","_law_starts","_law_fork","_law_stop","_law_d","_law_turn","_law_before","_law_done"] ["_law_yard","_law_starts","_law_fork","_law_stop","_law_d"] (ah ip):={}
theorem pA (T:Txt K mg t):FnOk P w K mg base CX0 8 t.f_sent t.d_sent ["_law_yard","_law_starts","_law_fork","_law_stop","_law_d"] (sp_sent t.c_Yard):=by
 refine T.F_sent.ok scSe (fun vs H Q E h=>?_) (fun cdv A outer s H vs Q E hr h=>?_)
 ·obtain⟨_,_,_,_,_,_,_,_,_,_,_,rfl,_⟩:=h
  rfl
 ·obtain⟨p,y0,L,sl,d,ss,ds,fk,z,m,n,rfl,Y,sm,yt,yg,msl,md,mz,hds,sp,ssl,n40,tg,fk0,q⟩:=h
  refine⟨_,(ac (bD PassesOwn.never rfl (bG (by rfl) T.z_range (aa (az eW (az aT (aF ar (pv 4) ag) ag) (aU hW (by rfl) T.z_int (by rfl) (aa (bO dG (aG ay (by rfl) T.z_len (by rfl) (aa (pv 1) ae)) ag (am _)) ae))) ae)) (aw (i:=5) scSe.nd rfl (Or.inl rfl))
    (ac (cf (aA (ai nw (pv 2) ag (am _))
      (af (al (ao (pv 0) T.cl_Yard T.M_Jr (nH T) hr (sJ T) .nil ap (aa (ao (pv 0) T.cl_Yard T.M_Jc1 (jN T) hr (oJ T) .nil ap (aa (pv 2) ae)) (aa (az bh ag (az aT (az bW (aF ar (pv 4) (az bh ag (pv 5))) ag) ag)) ae)))))
      aj))
     (ac (dZ (ix:=6) scSe.nd rfl (Or.inl rfl) (esc:=ah ip) (k:=1) ["_law_bar","_law_yard","_law_starts","_law_fork","_law_stop","_law_d","_law_turn","_law_before","_law_done"] rfl (br (aC (pv 0) T.cl_Yard T.M_J31 (du T) hr (fE T) .nil ap)) (fun _ _ _ _ _=>by exact(aw (i:=0) (show List.Nodup (["_law_bar","_law_yard","_law_starts","_law_fork","_law_stop","_law_d","_law_turn","_law_before","_law_done"]:List Str) from by decide +kernel) rfl (Or.inl rfl))) (fun _ _ _ _ _=>by exact bB) (fun _ _ _ _ _=>by exact(ao (pv 1) T.cl_Yard T.M_J41 (dt T) hr (fD T) .nil ap (aa (pv 0) ae))) rfl (by decide +kernel) (by decide +kernel) rfl (by decide +kernel) (by rfl) (fun _ _ h _=>h) (by decide +kernel))
     (ac (al (ao (pv 0) T.cl_Yard T.M_Jb1 (f7 T) hr (jD T) .nil ap (aa (aF ar (pv 1) (az aT (aF ar (pv 4) (az bh ag (pv 5)) (fun _ _=>rfl)) (aG ay (by rfl) T.z_len (by rfl) (aa (pv 1) ae)))) ae)))
     (ac (aD (i:=7) scSe.nd rfl (Or.inl rfl) (pcl (iz T) hr T.m_run T.F_run.kp (kU T) (aa (pv 0) (aa ag ae))))
     (ac (aA (PW.pt (dl (ai fh (pv 7) ag (am _)) (dl (ai dG (pv 7) (aG ay (by rfl) T.z_len (by rfl) (aa (pv 1) ae)) (am _)) (cO (bP (bx (pcl (eX T) hr T.m_Ji1 T.F_Ji1.kp (ii T) (aa (aC (pv 0) T.cl_Yard T.M_Jd (d9 T) hr (iT T) .nil ap) (aa (pv 3) ae)))))))))
      (af (aq cx))
      aj)
     (af (aA (bP (bx (pcl (nJ T) hr T.m_Jj1 T.F_Jj1.kp (qQ T) (aa (d6 (esc:=ah ip) (k:=1) ["_law_bar","_law_yard","_law_starts","_law_fork","_law_stop","_law_d","_law_turn","_law_before","_law_done"] rfl (br (aC (pv 0) T.cl_Yard T.M_J31 (du T) hr (fE T) .nil ap)) (fun _ _ _ _ _=>by exact(aw (i:=0) (show List.Nodup (["_law_bar","_law_yard","_law_starts","_law_fork","_law_stop","_law_d","_law_turn","_law_before","_law_done"]:List Str) from by decide +kernel) rfl (Or.inl rfl))) (fun _ _ _ _ _=>by exact bB) (fun _ _ _ _ _=>by exact(ao (pv 1) T.cl_Yard T.M_J41 (dt T) hr (fD T) .nil ap (aa (pv 0) ae))) rfl (by decide +kernel) (by decide +kernel) rfl (by decide +kernel) (by rfl) (fun _ _ h _=>h) (by decide +kernel)) (aa (pv 6) ae)))))
      (af (aq cx))
      aj))))))))
   (af (aq cx))),?_⟩
  rw[show L2.start ["_law_yard","_law_starts","_law_fork","_law_stop","_law_d","_law_turn","_law_before","_law_done"] [V.ref p,V.ref sl,V.int fk,V.ref z.1,V.ref d]=([some (V.ref p),some (V.ref sl),some (V.int fk),some (V.ref z.1),some (V.ref d),none,none,none]:St) from rfl]
  have gd:∀ {i:Int},0<=i->i<70->atI (ds.map V.int) i=some (.int (ds.getD i.toNat 0)):=fun h0 h1=>atD h0 (by omega)
  have psl:(prV ss).length=ss.length:=by unfold prV; rw[um]
  obtain⟨c,hc,c13⟩:∃ c:Nat,ds.getD (2:Int).toNat 0 % 13*(if decide ((0:Int)<((prV ss).length:Int))=true then 1 else 0)=c/\c<=12:=by
   rw[decide_eq_true (by omega),if_pos rfl]
   exact⟨(ds.getD (2:Int).toNat 0 % 13).toNat,by omega,by omega⟩
  refine⟨_,U,d,_,_,_,U,U,SqL.of (Y.at_ md),gd (by decide) (by decide),_,_,U,U,(show(0:Int)<13 by decide),_,U,sl,_,U,.inl (SqL.of (Y.at_ msl)),_,_,U,U,?_⟩
  refine .inr ⟨_,U,_,_,U,U,.inl (by constructor <;> omega),tn0 ⟨_,U,by rw[hc]; omega,by rw[hc]; omega,bS (sntInv t.c_Yard p sl d z fk m n y0 ss L) ⟨y0,[],_,_,_,U,sm,U,yt,yg,U,U,U,U,U,fun _ _=>rfl,Y⟩ ?_ ?_⟩⟩
  ·clear Y
   rintro i σ' H2 hi ⟨y,Nw,o5,o6,o7,rfl,sm,nx,yt',yg,e1,e2,e3,e3',e4,e5,Y⟩
   have hi:i<13:=by rw[hc] at hi; omega
   dsimp only[List.set]
   rw[Int.zero_add]
   have fk1:=fk0.same e1 e3 e4
   refine⟨(snt1Inv t.c_Yard p d sl z fk i m o6 o7 y0 Nw L),?_,?_⟩
   ·refine⟨_,U,_,_,U,U,_,U,if2 (fun c=>?_) (fun _=>⟨y,U,sm,nx,yt',yg,e1,e2,e3,e3',e4,e5,Y⟩)⟩
    have c0:=of_decide_eq_true c
    rcases fk1 with h | ⟨_,k,r,hk,hr',r0,r1⟩
    ·omega
    obtain⟨A1,gy⟩:=Y.obj
    refine⟨_,U,p,A1.dx,_,U,gy,(aY _ _ _).2.2.1,_,U,p,A1.dx,_,U,gy,(aY _ _ _).2.2.2.2.1,_,U,?_⟩
    refine tn0 ?_
    have Yr:=Y
    obtain⟨A9,rfl,h9,_⟩:=Yr
    refine⟨A9,y,_,_,_,_,U,h9,hk,hr',?_⟩
    obtain⟨x,hx,x12⟩:∃ x:Int,1+ds.getD ((20:Int)+i).toNat 0 / 50 % 2=x/\(x=1∨x=2):=⟨_,U,by omega⟩
    refine⟨_,U,_,U,_,_,U,U,d,_,_,_,U,U,SqL.of (Y.at_ (ul _ md)),gd (by omega) (by omega),_,_,U,U,⟨by decide,by decide⟩,_,_,U,U,(show(0:Int)<2 by decide),_,_,U,U,?_⟩
    dsimp only
    rw[hx]
    refine tn0 ?_
    refine iZ Y (by omega) r1 x12 fun H3 Y3=>?_
    exact⟨{ y with sides:=y.sides.set r.toNat (.int x),trail:=[] },U,⟨sm.k,sm.n,sm.r,by show(y.sides.set _ _).length<=_; rw[List.length_set]; exact sm.s,sm.m,sm.g,Nat.zero_le _⟩,nx,Nat.zero_le _,yg,e1,e2,e3,e3',by show(y.sides.set _ _).length=_; rw[List.length_set]; exact e4,fun j hj=>by show(y.sides.set _ _)[j]?=_; rw[List.getElem?_set_ne (by omega)]; exact e5 j hj,Y3⟩
   clear Y sm nx yt' yg e1 e2 e3 e3' e4 e5 fk1
   rintro σ' H3 ⟨y,rfl,sm,nx,_,yg,e1,e2,e3,e3',e4,e5,Y⟩
   obtain⟨sv,esv,s12⟩:=Y.sides
   have svl:sv.length<=10000:=by have:=sm.s; rw[esv,um] at this; exact this
   obtain⟨A1,gy⟩:=Y.obj
   refine⟨_,U,p,A1.dx,_,U,gy,(aY _ _ _).2.2.2.1,?_⟩
   refine cZ Y sm fun H20 l20 Y20=>?_
   rw[show(y).sides.length=(sv).length by rw[esv,um]] at Y20
   refine⟨l20,U,⟨_,SqL.of (Y20.at_ uk)⟩,fun D20 hD20=>?_⟩
   refine⟨fun n m zs H'=>m=(sv).length - n/\n<=(sv).length/\zs=((sv).take n).map V.int/\YIn t.c_Yard H' p (y) ((D20,.lst zs)::(l20,.lst (aX (sv).length))::(Nw++L)),⟨(sv).length,U,Nat.zero_le _,U,Y20.alloc hD20 _⟩,?_⟩
   rintro n20 m20 zs20 H21 ⟨rfl,hn20,rfl,Y21⟩
   refine⟨Y21.at_ uk,?_⟩
   have g20:SqL K H21 l20 (aX (sv).length):=SqL.of (Y21.at_ (uj _ uk))
   by_cases hlt20:n20<(sv).length
   ·refine .inr ⟨⟨_,_,g20,bu hlt20⟩,?_⟩
    rintro x20 H22 ⟨rfl,hx20⟩
    have hx21:=hx20 _ g20
    rw[bu hlt20] at hx21
    cases hx21
    refine⟨U,bT ?_⟩
    obtain⟨A20,gy20⟩:=Y21.obj
    refine⟨_,U,p,A20.dx,_,U,gy20,(aY _ _ _).2.2.2.2.2.1,_,U,?_⟩
    refine tn0 ?_
    refine dy Y21 (by omega) (v:=.int (sv)[n20]) (by rw[esv,Int.toNat_natCast,ur,uo hlt20]; rfl) ?_
    refine⟨sizeOk (by rw[um,uI]; omega),Y21.at_ uk,(sv).length - (n20+1),by omega,U,hlt20,?_,Y21.put0 _⟩
    rw[List.take_succ,uw,uo hlt20]; rfl
   have en20:n20=(sv).length:=by omega
   subst en20
   refine .inl ⟨⟨_,g20,by rw[bp]; omega⟩,?_⟩
   rw[List.take_length] at Y21
   obtain⟨L4,eL4,s4,mD⟩:∃ L4:Kn,(D20,HO.lst (sv.map V.int))::(l20,.lst (aX sv.length))::(Nw++L)=L4/\(∀ x ∈ L,x ∈ L4)/\(D20,HO.lst (sv.map V.int)) ∈ L4:=⟨_,U,fun x hx=>uj _ (uj _ (ul _ hx)),uk⟩
   rw[eL4] at Y21
   have Y4:=Y21
   obtain⟨D1,eD1⟩:∃ D1,D20=D1:=⟨_,U⟩
   obtain⟨l1,el1⟩:∃ l1,l20=l1:=⟨_,U⟩
   rw[eD1] at mD eL4 ⊢
   rw[el1] at eL4
   clear Y21 Y20 g20 hlt20 hn20 Y gy A1
   dsimp only[List.set]
   obtain⟨j,hj,jl⟩:∃ j:Nat,ds.getD ((20:Int)+i).toNat 0 % (ss.length:Int)=j/\j<ss.length:=by
    have h1:=Int.emod_nonneg (ds.getD ((20:Int)+i).toNat 0) (show(ss.length:Int)≠0 by omega)
    have h2:=Int.emod_lt_of_pos (ds.getD ((20:Int)+i).toNat 0) (show(0:Int)<(ss.length:Int) by omega)
    exact⟨(ds.getD ((20:Int)+i).toNat 0 % (ss.length:Int)).toNat,by omega,by omega⟩
   have gx:=uo jl
   obtain⟨x,ex⟩:∃ x,ss[j]=x:=⟨_,U⟩
   rw[ex] at gx
   obtain⟨mx,sx⟩:=sp x (ut gx)
   have sx4:=(sx.mono s4).same e1 e2 e3 e4
   have gsl:=Y4.at_ (s4 _ msl)
   obtain⟨A1,gy⟩:=Y4.obj
   refine⟨_,U,p,A1.dx,_,U,gy,(bo _ _ _).1,_,U,_,U,_,U,_,_,U,U,d,_,_,_,U,U,SqL.of (Y4.at_ (s4 _ md)),gd (by omega) (by omega),_,U,sl,_,U,.inl (SqL.of gsl),_,_,U,U,(by omega),?_⟩
   dsimp only
   rw[psl,hj]
   refine⟨sl,_,_,_,U,U,SqL.of gsl,aL (j:=j) (by unfold prV; rw[ur,gx]; rfl),?_⟩
   refine tn0 ?_
   refine jK (z:=x) Y4 (s4 _ mx) sx4.there fun H5 Y5=>?_
   refine⟨_,U,?_⟩
   refine tc1 ?_
   refine iq Y5 rfl (by decide) (by show y.rung.length<=_; omega) fun W s G wy eg H6 y6 Nw6 G6 n1 n2 n3 n4 n5 n6 Y6=>?_
   obtain⟨k,u,k0,k1,rn,au⟩:=(sx4.same (y':={ y with eng:=.ref x.1,trail:=[] }) rfl rfl rfl rfl).walk G wy ⟨x.1,eg _ _ rfl (s4 _ mx)⟩
   have nn:=((tg.same e1 e2).same (y':={ y with eng:=.ref x.1,trail:=[] }) rfl rfl).held G wy au G.R.s12 rfl
   obtain⟨go6,hl6⟩:=rn.held nn (50000:Int).toNat (by show k<=50000; omega)
   rw[go6] at G6
   rw[hl6] at n6
   obtain⟨⟨a6,ha6⟩,hs6,hg6⟩:=au
   have sd6:y6.sides=y.sides:=by rw[G6.R.sd,hs6,<- G.R.sd]
   have rg6:y6.rung=y.rung:=by rw[G6.R.rg,hg6,<- G.R.rg]
   have en6:y6.eng=.ref a6:=by rw[G6.R.en,ha6]; rfl
   obtain⟨L6,eL6,s6⟩:∃ L6:Kn,Nw6++L4=L6/\∀ x ∈ L4,x ∈ L6:=⟨_,U,fun x hx=>ul _ hx⟩
   have ma6:pK2 (a6,z.2) ∈ L6:=by
    obtain⟨j,hj⟩:=G6.P.e _ ha6
    rw[<- eL6]; exact ut hj
   rw[eL6] at Y6
   rw[hl6]
   clear G6 G wy eg rn nn go6 hl6 hs6 hg6 ha6 Y4 Y5 gy A1 sx4 gsl
   dsimp only[List.set]
   refine⟨_,U,_,_,U,U,_,U,?_⟩
   refine ifF (decide_eq_false (by omega)) ?_
   refine⟨_,U,_,U,sl,_,U,.inl (SqL.of (Y6.at_ (s6 _ (s4 _ msl)))),_,_,U,U,_,U,?_⟩
   refine ifF (decide_eq_false (by omega)) ?_
   obtain⟨A1,gy⟩:=Y6.obj
   refine⟨_,U,p,A1.dx,_,U,gy,(bo _ _ _).2.2.2.2.2.2.1,?_⟩
   refine cB Y6 ?_
   refine⟨_,U,?_⟩
   refine tn0 ?_
   rw[en6]
   refine .inr ⟨a6,z.1,z.2.1,z.2.2,U,Y6.at_ ma6,Y6.at_ (s6 _ (s4 _ mz)),?_⟩
   refine⟨_,U,bA ?_⟩
   have sm6:cc y6:=⟨by rw[n2]; exact sm.k,by rw[n3]; exact sm.n,by rw[n4]; exact sm.r,by rw[sd6]; exact sm.s,by rw[n5]; exact sm.m,by rw[rg6]; exact sm.g,by rw[n6]; omega⟩
   have esv6:y6.sides=sv.map V.int:=sd6.trans esv
   refine⟨_,U,p,A1.dx,_,U,gy,(aY _ _ _).2.2.2.1,?_⟩
   refine cZ Y6 sm6 fun H20 l20 Y20=>?_
   rw[show(y6).sides.length=(sv).length by rw[esv6,um]] at Y20
   refine⟨l20,U,⟨_,SqL.of (Y20.at_ uk)⟩,fun D20 hD20=>?_⟩
   refine⟨fun n m zs H'=>m=(sv).length - n/\n<=(sv).length/\zs=((sv).take n).map V.int/\YIn t.c_Yard H' p (y6) ((D20,.lst zs)::(l20,.lst (aX (sv).length))::L6),⟨(sv).length,U,Nat.zero_le _,U,Y20.alloc hD20 _⟩,?_⟩
   rintro n20 m20 zs20 H21 ⟨rfl,hn20,rfl,Y21⟩
   refine⟨Y21.at_ uk,?_⟩
   have g20:SqL K H21 l20 (aX (sv).length):=SqL.of (Y21.at_ (uj _ uk))
   by_cases hlt20:n20<(sv).length
   ·refine .inr ⟨⟨_,_,g20,bu hlt20⟩,?_⟩
    rintro x20 H22 ⟨rfl,hx20⟩
    have hx21:=hx20 _ g20
    rw[bu hlt20] at hx21
    cases hx21
    refine⟨U,bT ?_⟩
    obtain⟨A20,gy20⟩:=Y21.obj
    refine⟨_,U,p,A20.dx,_,U,gy20,(aY _ _ _).2.2.2.2.2.1,_,U,?_⟩
    refine tn0 ?_
    refine dy Y21 (by omega) (v:=.int (sv)[n20]) (by rw[esv6,Int.toNat_natCast,ur,uo hlt20]; rfl) ?_
    refine⟨sizeOk (by rw[um,uI]; omega),Y21.at_ uk,(sv).length - (n20+1),by omega,U,hlt20,?_,Y21.put0 _⟩
    rw[List.take_succ,uw,uo hlt20]; rfl
   have en20:n20=(sv).length:=by omega
   subst en20
   refine .inl ⟨⟨_,g20,by rw[bp]; omega⟩,?_⟩
   rw[List.take_length] at Y21
   refine⟨_,U,?_⟩
   refine tn0 ?_
   refine hU Y21 uk (uj _ (uj _ (s6 _ mD))) (by omega) fun H9 Y9=>?_
   rw[decide_eq_true rfl]
   refine⟨_,U,bA ?_⟩
   refine⟨y6,(D20,.lst (sv.map V.int))::(l20,.lst (aX sv.length))::(Nw6++((D1,.lst (sv.map V.int))::(l1,.lst (aX sv.length))::Nw)),_,_,_,U,sm6,n1.trans nx,by rw[n6]; omega,by rw[rg6]; exact yg,n2.trans e1,n5.trans e2,n4.trans e3,n3.trans e3',by rw[sd6]; exact e4,fun j hj=>by rw[sd6]; exact e5 j hj,?_⟩
   rw[<- eL6,<- eL4] at Y9
   simp only[List.cons_append,uJ] at Y9 ⊢
   exact Y9
  clear Y
  rintro σ' H2 ⟨y,Nw,o5,o6,o7,rfl,sm,nx,yt',yg,e1,e2,e3,e3',e4,e5,Y⟩
  exact q _ y Nw e1 e2 e3 e5 (fun N M R D=>⟨by rw[nx]; exact D.nx,by rw[e1]; exact D.kl,fun i hi=>by rw[e1,e3',e3]; rw[nx] at hi; exact D.fr i hi,by rw[e2]; exact D.mt,by rw[e3']; exact D.nl,by rw[e3]; exact D.rl,by rw[e4]; exact D.sl,by rw[e2]; exact D.ml,by omega,yt'⟩) Y
end
inductive sp_law (K:PySem.W.Frag) (vs:List V) (H:Hp) (Q:VK) (E_:XK):Prop
 | mk (a:Addr) (ns:List Int) (_:vs=[.ref a]) (_:SqL K H a (ns.map V.int)) (_:ns.length<=63) (_:∀ H',Q (.bl true) H'):sp_law K vs H Q E_
theorem law_binds {mg:Str->Option Value}{t:Adr} (T:Txt K mg t) (s:Shared) (u:Value):BindsTo s t.d_law ⟨[u],[]⟩ [("_law_script",u)]:=by
 obtain⟨oc,od,kV,doc,pm,an,cdv,ct,osl,e,lk,hcd⟩:=T.F_law.ex
 rw[e,T.e_law]
 exact .of_eq rfl
theorem law_start {H:Hp}{a:Addr}{ns:List Int} (hl:ns.length<=63) (hS:SqL K H a (ns.map V.int)) {E:XK}:sp_law K [.ref a] H (fun v _=>v=.bl true) E:=⟨a,ns,U,hS,hl,fun _=>rfl⟩
theorem noX1 {a:Addr}{u:List V} (z:Pr):pK2 z ∉ [(a,HO.lst u)]:=fun h=>by
 rcases uz.mp h with c | c
 ·injection c with _ c; cases c
 ·cases c
noncomputable def prD (ps:List Pr):PyData:=.list (ps.map fun x=>PyData.tuple [.int x.2.1,.int x.2.2])
theorem kt (ps:List Pr):(prD ps).canLay0=true:=by
 have h:=bL (fun x:Pr=>PyData.tuple [.int x.2.1,.int x.2.2]) ps fun x _=>by simp[PyData.canLay0,PyData.canLayAll0]
 unfold prD
 simp only[PyData.canLay0,h]
theorem nh (ps:List Pr):SeqAt.shaped (prD ps)=true:=by
 refine gS (kt ps) ?_
 have h:=bZ (fun x:Pr=>PyData.tuple [.int x.2.1,.int x.2.2]) 10 ps fun x _=>by simp[PyData.depth,PyData.depthAll]
 unfold prD
 simp only[PyData.depth]
 omega
theorem ni {H:Hp}{l:Addr}{ps:List Pr} (h:H l=some (.lst (prV ps))) (hp:∀ x ∈ ps,H x.1=some (.tup [.int x.2.1,.int x.2.2])):DV K H (prD ps) (.ref l):=by
 unfold prD DV
 refine⟨l,_,U,SqL.of h,DVs.map _ _ _ fun x hx=>?_⟩
 unfold DV
 refine⟨x.1,_,U,SqT.of (hp x hx),?_⟩
 unfold DVs
 refine⟨_,_,U,by unfold DV; rfl,?_⟩
 unfold DVs
 refine⟨_,_,U,by unfold DV; rfl,?_⟩
 unfold DVs
 rfl
theorem YIn.msym {C:Addr}{H:Hp}{p:Addr}{y:YR} (Y:YIn C H p y L) {x z:Int×Int} (h:Mt y L x z):Mt y L z x:=by
 obtain⟨A,_,hh,W,s,G⟩:=Y
 obtain⟨a,ha⟩:=(G.wy hh).m _ _ h
 obtain⟨_,z',h1,h2⟩:=G.sy _ _ _ ha
 obtain⟨j,hj⟩:=G.P.m _ _ _ h1
 refine⟨z'.1,?_,?_⟩
 ·rw[G.R.mt,h1]; rfl
 ·have:=ut hj
  rw[h2] at this
  exact this
theorem Flp.ok {y y':YR}{sd sd':List Int} (f:Flp y sd y' sd') (h:iW y sd):y'.kinds=y.kinds/\y'.mates=y.mates/\y'.rods=y.rods/\y'.rung=y.rung/\y'.sides.length=y.sides.length/\sd'.length=sd.length/\iW y' sd'/\∀ N M R,Ld y N M R->Ld y' N M R:=by
 cases f with
 | none=>exact⟨U,U,U,U,U,U,h,fun _ _ _ D=>D⟩
 | one i x hi hx=>
  refine⟨U,U,U,U,List.length_set ..,List.length_set ..,fun j v hv=>?_,fun N M R D=>⟨D.nx,D.kl,D.fr,D.mt,D.nl,D.rl,by show(y.sides.set i (.int x)).length<=_; rw[List.length_set]; exact D.sl,D.ml,D.g,Nat.zero_le _⟩⟩
  show(y.sides.set i (.int x))[j]?=_
  by_cases c:i=j
  ·subst c
   have hl:=(List.getElem?_eq_some_iff.mp (h i _ (uo hi))).1
   rw[List.getElem?_set_self hi] at hv
   cases hv
   exact List.getElem?_set_self hl
  ·rw[List.getElem?_set_ne c] at hv ⊢
   exact h j v hv
section
variable {P:Program}{w:World}{K:PySem.W.Frag}{mg:Str->Option Value}{base:Heap}{t:Adr}
theorem scLa:FnScope ["_law_script","_law_d","_law_yard","_law_sides","_law_many","_law_starts","_law_outs","_law_fork","_law_stop","_law_rung","_law_engine","_law_count","_law_kept"] ["_law_script"] (ah qf):={}
theorem ok_law (T:Txt K mg t):FnOk P w K mg base CX0 12 t.f_law t.d_law ["_law_script"] (sp_law K):=by
 refine T.F_law.ok scLa (fun vs H Q E h=>?_) (fun cdv A outer s H vs Q E hr h=>?_)
 ·obtain⟨_,_,rfl,_⟩:=h
  rfl
 ·obtain⟨a,ns0,rfl,hS,hns,q⟩:=h
  refine⟨_,(ac (aD (i:=1) scLa.nd rfl (Or.inl rfl) (pcl (nE T) hr T.m_draws T.F_draws.kp (pU T) (aa (pv 0) (aa ag ae))))
   (ac (bJ (pcl (pB T) hr T.m_base T.F_base.kp (sH T) (aa (pv 1) (aa ag ae))) (cP rfl (aK (aw (i:=2) scLa.nd rfl (Or.inl rfl)) (aK (aw (i:=3) scLa.nd rfl (Or.inl rfl)) bH))))
   (ac (aD (i:=4) scLa.nd rfl (Or.inl rfl) (az aT (aF ar (pv 1) ag) ag))
   (ac (cf (aA (ai bq (az aT (az bW (aF ar (pv 1) ag) ag) ag) ag (am _))
    (af (aD (i:=4) scLa.nd rfl (Or.inl rfl) ag))
    aj))
   (ac (bJ (pcl (nC T) hr T.m_lines T.F_lines.kp (pS T) (aa (pv 2) (aa (pv 1) (aa (pv 4) ae)))) (cP rfl (aK (aw (i:=5) scLa.nd rfl (Or.inl rfl)) (aK (aw (i:=6) scLa.nd rfl (Or.inl rfl)) (aK (aw (i:=7) scLa.nd rfl (Or.inl rfl)) bH)))))
   (ac (aD (i:=8) scLa.nd rfl (Or.inl rfl) (pcl (rR T) hr T.m_Jh1 T.F_Jh1.kp (b_Jh1 T) (aa (pv 2) (aa (aF ar (pv 1) ag) ae))))
   (ac (aA (ai bq (pv 4) ag (am _))
    (af (aq (dc (pcl (rS T) hr T.m_Jg1 T.F_Jg1.kp (b_Jg1 T) (aa (pv 2) (aa (pv 8) (aa (az aT (aF ar (pv 1) ag) ag) ae)))) (cQ (pcl (nB T) hr T.m_own T.F_own.kp (qP T) (aa (pv 2) (aa (aF ar (pv 1) ag) ae)))))))
    aj)
   (ac (al (pcl (iz T) hr T.m_run T.F_run.kp (kU T) (aa (pv 2) (aa (az aT (aF ar (pv 1) ag) ag) ae))))
   (ac (aD (i:=9) scLa.nd rfl (Or.inl rfl) (aC (pv 2) T.cl_Yard T.M_Jq (kC T) hr (pW T) .nil ap))
   (ac (aD (i:=10) scLa.nd rfl (Or.inl rfl) (aC (pv 2) T.cl_Yard T.M_Jd (d9 T) hr (iT T) .nil ap))
   (ac (aD (i:=11) scLa.nd rfl (Or.inl rfl) (az bh (aG ay (by rfl) T.z_len (by rfl) (aa (aC (pv 2) T.cl_Yard T.M_Je (gZ T) hr (lX T) .nil ap) ae)) (aG (lW rfl) (by rfl) T.z_max (by rfl) (aa ag (aa (az cR (pv 4) ag) ae)))))
   (ac (aD (i:=12) scLa.nd rfl (Or.inl rfl) (aU bI (by rfl) T.z_list (by rfl) (aa (pv 6) ae)))
   (ac (aA (PW.pt (dl (ai cz (pcl (fY T) hr T.m_merge T.F_merge.kp (iS T) (aa (pv 2) (aa (pv 6) (aa (pv 8) ae)))) aV (am _)) (cO (ai (nt hr.units) (pv 6) (pv 12) (am _)))))
    (af (aq cx))
    aj)
   (ac (aA (bP (bx (pcl (ok_Jn T) hr T.m_Jn T.F_Jn.kp (b_Jn T) (aa (pv 2) (aa (pv 9) ae)))))
    (af (aq cx))
    aj)
   (ac (aA (PW.pt (dl (ai dF (aG ay (by rfl) T.z_len (by rfl) (aa (aC (pv 2) T.cl_Yard T.M_Je (gZ T) hr (lX T) .nil ap) ae)) (pv 11) (am _)) (cO (bP (bx (pcl (qD T) hr T.m_Jo T.F_Jo.kp (ud T) (aa (pv 2) (aa (pv 3) (aa (pv 10) ae)))))))))
    (af (aq cx))
    aj)
   (ac (aA (PW.pt (dL (ai bq (pv 4) ag (am _)) (da (bP (bx (pcl (eX T) hr T.m_Ji1 T.F_Ji1.kp (ii T) (aa (ao (pv 2) T.cl_Yard T.M_J01 (eY T) hr (ij T) .nil ap (aa (pv 8) ae)) (aa (aF ar (pv 6) ag) ae))))))))
    (af (aq cx))
    aj)
   (ac (al (pcl (rT T) hr T.m_Jf1 T.F_Jf1.kp (b_Jf1 T) (aa (pv 2) (aa (pv 3) (aa (aF ar (pv 1) ag) ae)))))
   (ac (aA (PW.pt (dl (bP (bx (pcl (pA T) hr T.m_sent T.F_sent.kp (sG T) (aa (pv 2) (aa (pv 5) (aa (pv 7) (aa (pv 8) (aa (pv 1) ae)))))))) (cO (bP (bx (pcl (qD T) hr T.m_Jo T.F_Jo.kp (ud T) (aa (pv 2) (aa (pv 3) (aa (aC (pv 2) T.cl_Yard T.M_Jd (d9 T) hr (iT T) .nil ap) ae)))))))))
    (af (aq cx))
    aj)
   (af (aq (pcl (nB T) hr T.m_own T.F_own.kp (qP T) (aa (pv 2) (aa (aF ar (pv 1) ag) ae))))))))))))))))))))))),?_⟩
  rw[show L2.start ["_law_script","_law_d","_law_yard","_law_sides","_law_many","_law_starts","_law_outs","_law_fork","_law_stop","_law_rung","_law_engine","_law_count","_law_kept"] [V.ref a]=([some (V.ref a),none,none,none,none,none,none,none,none,none,none,none,none]:St) from rfl]
  refine⟨_,U,a,ns0,70,[],U,hS,hns,by decide,by decide,Has.nil,fun H1 d ds h1 hds hdr=>?_⟩
  clear hS hns
  have hds:ds.length=70:=hds
  have gd:∀ {i:Int},0<=i->i<70->atI (ds.map V.int) i=some (.int (ds.getD i.toNat 0)):=fun h0 h1=>atD h0 (by omega)
  have dp:∀ x ∈ ds,0<=x:=fun x hx=>(hdr x hx).1
  have dr0:∀ j:Nat,j<70->0<=ds.getD j 0:=fun j hj=>by
   rw[List.getD_eq_getElem?_getD,uo (by omega)]
   exact dp _ (List.getElem_mem _)
  dsimp only[List.set]
  refine⟨_,U,d,ds,3,_,U,h1,uk,by omega,fun H2 p y Nw tp sa sd rg N M F hN hM sl s12 rgm Y=>?_⟩
  clear h1
  refine⟨tp,_,U,SqT.of (Y.at_ uk),U,_,_,U,_,_,U,U,?_⟩
  dsimp only[List.set]
  obtain⟨ev,eev⟩:∃ ev,y.eng=ev:=⟨_,U⟩
  have E0':Eq3 y (Nw++[(d,HO.lst (ds.map V.int))]) ev rg:=by
   rcases F.e with e | ⟨b,e,mb⟩
   ·exact .inl ⟨by rw[<- eev]; exact e,e⟩
   ·exact .inr ⟨b,b,by rw[<- eev]; exact e,e,mb,mb⟩
  obtain⟨D,Fs,Fg,Ft,Fb,Fr',_,_⟩:=F
  obtain⟨L0,eL0,sub0,md⟩:∃ L0:Kn,(tp,HO.tup [.ref p,.ref sa])::(Nw++[(d,HO.lst (ds.map V.int))])=L0/\(∀ x ∈ Nw++[(d,HO.lst (ds.map V.int))],x ∈ L0)/\(d,HO.lst (ds.map V.int)) ∈ L0:=⟨_,U,fun x hx=>uj _ hx,uj _ (ul _ uk)⟩
  have Y:YIn t.c_Yard H2 p y ([(sa,.lst (sd.map V.int))]++L0):=by
   rw[<- eL0]
   exact Y.perm (.swap _ _ _)
  have E0:=E0'.mono sub0 (y':=y) rfl
  have B0:=Fb.mono sub0
  have R0:=Fr'.up (Up.refl _) sub0
  clear sub0 eev E0' Fb Fr' eL0
  obtain⟨m,em⟩:∃ m,sd.length=m:=⟨_,U⟩
  rw[em] at B0 sl rgm
  have hX:∀ {u:List V}{z:Pr},pK2 z ∉ [(sa,HO.lst u)]:=fun {u z}=>noX1 z
  have ysl:y.sides.length=m:=by rw[Fs,um]; exact em
  have so0:iW y sd:=fun i x hx=>by rw[Fs,ur,hx]; rfl
  refine⟨_,U,d,_,_,_,U,U,SqL.of (Y.at_ (ul _ md)),gd (by decide) (by decide),_,_,U,U,(show(0:Int)<10 by decide),?_⟩
  dsimp only[List.set]
  refine⟨fun σ' H'=>∃ mm:Nat,mm<=30/\H'=H2/\σ'=[some (.ref a),some (.ref d),some (.ref p),some (.ref sa),some (.int mm),none,none,none,none,none,none,none,none],?_,?_⟩
  ·refine⟨_,U,d,_,_,_,U,U,SqL.of (Y.at_ (ul _ md)),gd (by decide) (by decide),_,_,U,U,⟨by decide,by decide⟩,_,_,U,U,(show(0:Int)<6 by decide),U,_,U,if2 (fun _=>?_) (fun _=>?_)⟩
   ·exact⟨30,by decide,U,U⟩
   ·refine⟨(ds.getD (0:Int).toNat 0 % 10).toNat,by omega,U,?_⟩
    rw[show(((ds.getD (0:Int).toNat 0 % 10).toNat:Nat):Int)=ds.getD (0:Int).toNat 0 % 10 by omega]
    rfl
  rintro σ' _ ⟨mm,mm30,rfl,rfl⟩
  refine⟨_,U,_,U,_,U,?_⟩
  refine tn0 ?_
  refine⟨p,y,_,d,ds,mm,N,M,0,U,Y,D,by omega,by omega,by omega,Ft,mm30,ul _ md,hds,dp,fun H3 y3 tp3 sl3 ol ss os fk N3 Nw3 D3 n31 n32 t3 u3 f3 ssl osl nd op sp fk3 Y3=>?_⟩
  refine⟨tp3,_,U,SqT.of (Y3.at_ uk),U,_,_,U,_,_,U,_,_,U,U,?_⟩
  have Y3:YIn t.c_Yard H3 p y3 ([(sa,.lst (sd.map V.int))]++(((tp3,.tup [.ref sl3,.ref ol,.int fk])::(sl3,.lst (prV ss))::(ol,.lst (prV os))::Nw3)++L0)):=YIn.front (Nw:=(tp3,.tup [.ref sl3,.ref ol,.int fk])::(sl3,.lst (prV ss))::(ol,.lst (prV os))::Nw3) Y3
  obtain⟨L1,eL1,s1,s1',msl,mol⟩:∃ L1:Kn,((tp3,HO.tup [.ref sl3,.ref ol,.int fk])::(sl3,.lst (prV ss))::(ol,.lst (prV os))::Nw3)++L0=L1/\(∀ x ∈ L0,x ∈ L1)/\(∀ x ∈ Nw3++L0,x ∈ L1)/\(sl3,HO.lst (prV ss)) ∈ L1/\(ol,HO.lst (prV os)) ∈ L1:=⟨_,U,fun x hx=>ul _ hx,fun x hx=>uj _ (uj _ (uj _ hx)),uj _ uk,uj _ (uj _ uk)⟩
  rw[eL1] at Y3
  have op:∀ x ∈ os,pK2 x ∈ L1/\Fr y3 x.2/\(N:Int)<=x.2.1:=fun x hx=>⟨s1' _ (noX (fun z=>hX) _ (op x hx).1),(op x hx).2⟩
  have sp:∀ x ∈ ss,pK2 x ∈ L1/\SP0 y3 os x.2:=fun x hx=>⟨s1' _ (noX (fun z=>hX) _ (sp x hx).1),(sp x hx).2⟩
  have B3:BI y3 L1 m:=B0.up u3 s1 fun x hx _ _=>f3 x hx
  have R3:=R0.up u3 s1
  have E3:=E0.mono s1 u3.e
  have so3:iW y3 sd:=fun i x hx=>by
   obtain⟨r,er⟩:=u3.s
   rw[<- er,uF (List.getElem?_eq_some_iff.mp (so0 i x hx)).1]
   exact so0 i x hx
  have g3:y3.rung=[]:=by rw[u3.g]; exact Fg
  rw[ysl] at fk3
  have md1:=s1 _ md
  have mN:m<=N:=by
   rcases Nat.eq_zero_or_pos m with h0 | h0
   ·omega
   ·have h:=D.lt (B0.m2 (m - 1) (by omega)).1
    have h:((m - 1:Nat):Int)<N:=h
    omega
  clear Y B0 R0 E0 so0 Fs Fg Ft D
  dsimp only[List.set]
  refine⟨_,U,_,U,d,_,_,_,U,U,SqL.of (Y3.at_ (ul _ md1)),gd (by decide) (by decide),?_⟩
  refine tn0 ?_
  have dv12:=dr0 12 (by decide)
  refine⟨p,y3,_,_,N3,M,0,U,Y3,D3,by omega,by omega,by omega,dv12,fun H4 k e tz Nw4 e0 e1 Y4=>?_⟩
  have u4:=D3.up k 0 .non
  have D4:=D3.lay k 0 .non
  have k4:Kp (aN y3 k 0 .non) N3 k:=Kp.lay D3 k 0 .non
  have fn4:∀ o:Int,0<=o->o<k.many->Fr (aN y3 k 0 .non) ((N3:Int),o):=fun o o0 o1=>Fr.new D3 k 0 .non o0 o1
  have fl4:∀ x,Fr y3 x->Fr (aN y3 k 0 .non) x/\x.1<N3:=fun x hx=>⟨hx.lay D3 k 0 .non,D3.lt hx.1⟩
  have t4:(aN y3 k 0 .non).trail=[]:=rfl
  have g4:(aN y3 k 0 .non).rung=[]:=g3
  obtain⟨y4,ey4⟩:∃ y4,aN y3 k 0 .non=y4:=⟨_,U⟩
  rw[ey4] at Y4 u4 D4 k4 fn4 fl4 t4 g4
  have Y4:YIn t.c_Yard H4 p y4 ([(sa,.lst (sd.map V.int))]++(((tz,.tup [.int N3,.int e])::Nw4)++L1)):=YIn.front (Nw:=(tz,.tup [.int N3,.int e])::Nw4) Y4
  obtain⟨L2,eL2,s2,mz⟩:∃ L2:Kn,((tz,HO.tup [.int N3,.int e])::Nw4)++L1=L2/\(∀ x ∈ L1,x ∈ L2)/\pK2 (tz,(N3:Int),e) ∈ L2:=⟨_,U,fun x hx=>ul _ hx,uk⟩
  rw[eL2] at Y4
  have op:∀ x ∈ os,pK2 x ∈ L2/\Fr y4 x.2/\x.2.1<N3/\(N:Int)<=x.2.1:=fun x hx=>⟨s2 _ (op x hx).1,(fl4 _ (op x hx).2.1).1,(fl4 _ (op x hx).2.1).2,(op x hx).2.2⟩
  have sp:∀ x ∈ ss,pK2 x ∈ L2/\SP0 y4 os x.2:=fun x hx=>by
   refine⟨s2 _ (sp x hx).1,?_⟩
   rcases (sp x hx).2 with ⟨l,h,h1,h2,h3,h4⟩ | ⟨f,h1,h2,⟨r,h3,h4,h5⟩,h6,h7⟩
   ·exact .inl ⟨l,h,h1.up u4,h2,h3,h4⟩
   ·exact .inr ⟨f,h1.up u4,h2,⟨r,u4.r _ _ h3,h4,by have:=u4.sl; omega⟩,h6,h7⟩
  have B4:BI y4 L2 m:=B3.up u4 s2 fun x hx _ _=>(fl4 x hx).1
  have R4:=R3.up u4 s2
  have E4:=E3.mono s2 u4.e
  have so4:iW y4 sd:=fun i x hx=>by
   obtain⟨r,er⟩:=u4.s
   rw[<- er,uF (List.getElem?_eq_some_iff.mp (so3 i x hx)).1]
   exact so3 i x hx
  have fk4:FK y4 m fk:=by
   rcases fk3 with h | ⟨h0,k',r,h1,h2,h3,h4⟩
   ·exact .inl h
   ·exact .inr ⟨h0,k',r,h1.up u4,u4.r _ _ h2,h3,by have:=u4.sl; omega⟩
  have md2:=s2 _ md1
  have msl2:=s2 _ msl
  have mol2:=s2 _ mol
  clear Y3 B3 R3 E3 so3 fk3 D3 g3 t3 u3 f3 fl4
  dsimp only[List.set]
  refine⟨_,U,U,_,U,?_⟩
  rw[dh]
  refine if2 (fun c=>?_) (fun c=>?_)
  ·obtain⟨mo,hmo,mo9⟩:∃ mo:Nat,ds.getD (1:Int).toNat 0 % 9=mo/\mo<9:=⟨(ds.getD (1:Int).toNat 0 % 9).toNat,by omega,by omega⟩
   refine⟨_,U,_,U,_,U,d,_,_,_,U,U,SqL.of (Y4.at_ (ul _ md2)),gd (by decide) (by decide),_,_,U,U,(show(0:Int)<9 by decide),?_⟩
   refine tn0 ?_
   dsimp only
   rw[hmo]
   refine⟨p,y4,_,(tz,(N3:Int),e),N3+1,M,0,mo,U,Y4,D4,by omega,by omega,by omega,by omega,by rw[g4]; exact Nat.zero_le _,ul _ mz,fn4 e e0 e1,fun H5 y5 Nw5 D5 Y5=>?_⟩
   refine⟨_,U,df ?_⟩
   refine⟨_,U,_,U,d,_,_,_,U,U,SqL.of (Y5.at_ (ul _ (ul _ md2))),gd (by decide) (by decide),?_⟩
   refine tn0 ?_
   exact⟨p,y5,_,_,N3+1+1,M+2,0,U,Y5,D5,by omega,by omega,by omega,dr0 15 (by decide),q⟩
  have mm1:1<=mm:=by have:=of_decide_eq_false c; omega
  obtain⟨n7,hn7,n77⟩:∃ n7:Nat,ds.getD (1:Int).toNat 0 % 7=n7/\n7<7:=⟨(ds.getD (1:Int).toNat 0 % 7).toNat,by omega,by omega⟩
  refine⟨_,U,_,U,d,_,_,_,U,U,SqL.of (Y4.at_ (ul _ md2)),gd (by decide) (by decide),_,_,U,U,(show(0:Int)<7 by decide),?_⟩
  refine tn0 ?_
  dsimp only
  rw[hn7]
  refine mZ Y4 (fun z=>hX) t4 (by omega) (by rw[g4]; exact Nat.zero_le _) R4 E4 fun H5 y5 Nw5 k5 n1 n2 n3 n4 n5 n6 n7' n8 e5 Y5=>?_
  have D5:Ld y5 (N3+1) M 0:=⟨by rw[n1]; exact D4.nx,by rw[n2]; exact D4.kl,fun i hi=>by rw[n2,n3,n4]; rw[n1] at hi; exact D4.fr i hi,by rw[n5]; exact D4.mt,by rw[n3]; exact D4.nl,by rw[n4]; exact D4.rl,by rw[n6]; exact D4.sl,by rw[n5]; exact D4.ml,by rw[g4] at n7'; simp only[List.length_nil] at n7'; omega,by omega⟩
  have frs:∀ {x:Int×Int},Fr y4 x->Fr y5 x:=fun⟨⟨k',hk',e'⟩,hm⟩=>⟨⟨k',by rw[n2]; exact hk',e'⟩,by rw[n5]; exact hm⟩
  obtain⟨gs5,eg5⟩:=Y5.rung
  have gl5:gs5.length<=6:=by rw[eg5,g4,um] at n7'; simp only[List.length_nil] at n7'; omega
  obtain⟨A1,gy⟩:=Y5.obj
  refine⟨_,U,p,A1.dx,_,U,gy,(bo _ _ _).2.2.2.2.2.2.2.1,?_⟩
  refine jB Y5 fun H6 nl Y6=>?_
  rw[eg5] at Y6
  have Y6:=Y6.front1
  obtain⟨A1,gy⟩:=Y6.obj
  dsimp only[List.set]
  refine⟨_,U,p,A1.dx,_,U,gy,(bo _ _ _).2.2.2.2.2.2.1,?_⟩
  refine cB Y6 ?_
  dsimp only[List.set]
  refine⟨_,U,p,A1.dx,_,U,gy,(bo _ _ _).2.2.2.1,?_⟩
  refine dB Y6 fun H7 pl Y7=>?_
  have Y7:=Y7.front1
  obtain⟨L3,eL3,s3,mnl,mpl⟩:∃ L3:Kn,(pl,HO.lst (y5.kinds.map fun kv=>kV kv.1))::(nl,HO.lst (gs5.map V.int))::(Nw5++L2)=L3/\(∀ x ∈ L2,x ∈ L3)/\(nl,HO.lst (gs5.map V.int)) ∈ L3/\(pl,HO.lst (y5.kinds.map fun kv=>kV kv.1)) ∈ L3:=⟨_,U,fun x hx=>uj _ (uj _ (ul _ hx)),uj _ uk,uk⟩
  rw[eL3] at Y7
  have B5:BI y5 L3 m:=(B4.mono s3).same n2 n5
  have so5:iW y5 sd:=fun i x hx=>by rw[n6]; exact so4 i x hx
  have fk5:FK y5 m fk:=fk4.same n2 n4 (by rw[n6])
  have eq5:∀ {y':YR}{L':Kn},y'.eng=y5.eng->(∀ x ∈ L3,x ∈ L')->Eq2 y' L' y5.eng:=fun {y' L'} ee ss'=>by
   rcases Y7.eng with e | ⟨z,e,mz'⟩
   ·exact .inl ⟨e,ee.trans e⟩
   ·rcases uA.mp mz' with h | h
    ·exact absurd h hX
    ·exact .inr ⟨z.1,z.1,z.2,e,ee.trans e,ss' _ h,ss' _ h⟩
  obtain⟨P,eP⟩:∃ P,y5.kinds.length=P:=⟨_,U⟩
  refine tn0 ?_
  refine⟨pl,_,U,.inl (SqL.of (Y7.at_ (ul _ mpl))),?_⟩
  refine⟨_,U,_,_,U,U,?_⟩
  refine tn0 ?_
  refine⟨_,_,U,_,_,U,U,?_⟩
  rw[um,eP,show(((P:Nat):Int)+if (mm:Int) - 1 > 0 then(mm:Int) - 1 else 0)=((P+(mm - 1):Nat):Int) by split <;> omega]
  dsimp only[List.set]
  have mol3:=s3 _ mol2
  refine⟨_,U,ol,_,U,.inl (SqL.of (Y7.at_ (ul _ mol3))),fun kl hkl=>?_⟩
  have Y8:=Y7.alloc hkl (.lst (prV os))
  have Y8:=Y8.front1
  dsimp only[List.set]
  have mz3:=s3 _ mz
  have zs0:os≠[]:=fun c=>by rw[c] at osl; simp only[List.length_nil] at osl; omega
  refine⟨_,U,_,U,_,U,?_⟩
  refine tn0 ?_
  refine⟨p,y5,_,ol,os,(tz,(N3:Int),e),N3+1,M,0,U,Y8,ul _ (uj _ mol3),fun x hx=>ul _ (uj _ (s3 _ (op x hx).1)),ul _ (uj _ mz3),D5,nd,fun c=>?_,fun x hx=>frs (op x hx).2.1,frs (fn4 e e0 e1),by omega,by omega,by omega,fun H9 y9 Nw9 M9 D9 t9 _ kl9 M99 u9 f9 ld9 Y9=>?_⟩
  ·obtain⟨x,hx,ex⟩:=uK.mp c
   have:=(op x hx).2.2.1
   rw[ex] at this
   exact absurd this (Int.lt_irrefl _)
  have t9:=t9 zs0
  have Y9:=Y9.front
  obtain⟨L4,eL4,s4,mkl⟩:∃ L4:Kn,Nw9++((kl,HO.lst (prV os))::L3)=L4/\(∀ x ∈ L3,x ∈ L4)/\(kl,HO.lst (prV os)) ∈ L4:=⟨_,U,fun x hx=>ul _ (uj _ hx),ul _ uk⟩
  rw[eL4] at Y9
  have ld9:∀ x ∈ os,Lead y9 L4 (mm - 1) x.2 ((N3:Int),e):=fun x hx=>by
   have h:=(ld9 x hx).tup (L':=L4) fun z hz=>by
    rw[<- eL4]
    rcases uA.mp hz with h | h
    ·exact uC _ h
    ·rcases uA.mp h with h | h
     ·exact absurd h hX
     ·exact ul _ h
   rw[osl] at h
   exact h
  refine⟨U,_,U,bA ?_⟩
  refine⟨_,U,_,U,prD os,prD os,ni (Y9.at_ (ul _ (s4 _ mol3))) (fun x hx=>Y9.at_ (ul _ (s4 _ (s3 _ (op x hx).1)))),ni (Y9.at_ (ul _ mkl)) (fun x hx=>Y9.at_ (ul _ (s4 _ (s3 _ (op x hx).1)))),nh _,nh _,?_⟩
  rw[ua _ (kt _)]
  refine⟨_,U,bA ?_⟩
  refine⟨_,U,_,U,?_⟩
  refine tn0 ?_
  refine⟨p,y9,_,nl,gs5,U,Y9,t9,by rw[u9.g]; exact eg5,by omega,ul _ (s4 _ mnl),fun H10 Nw10 Y10=>?_⟩
  refine⟨_,U,bA ?_⟩
  have Y10:=Y10.front
  obtain⟨A1,gy⟩:=Y10.obj
  dsimp only[List.set]
  refine⟨_,U,p,A1.dx,_,U,gy,(bo _ _ _).2.2.2.1,?_⟩
  refine dB Y10 fun H11 pl2 Y11=>?_
  refine tn0 ?_
  refine⟨pl2,_,U,.inl (SqL.of (Y11.at_ uk)),?_⟩
  rw[um,kl9,eP,osl]
  have Y11:=Y11.front1
  obtain⟨L5,eL5,s5⟩:∃ L5:Kn,(pl2,HO.lst (y9.kinds.map fun kv=>kV kv.1))::(Nw10++L4)=L5/\(∀ x ∈ L4,x ∈ L5):=⟨_,U,fun x hx=>uj _ (ul _ hx)⟩
  rw[eL5] at Y11
  have u59:=u9
  have B9:BI y9 L5 m:=(B5.mono s4).mono s5 |>.up u9 (fun _ h=>h) fun x hx h2 hm=>f9 x hx (fun c=>?_) fun c=>?_
  rotate_left
  ·obtain⟨x',hx',ex⟩:=uK.mp c
   have:=(op x' hx').2.2.2
   rw[ex] at this
   omega
  ·rw[c] at hm
   have hm:(N3:Int)<m:=hm
   omega
  have so9:iW y9 sd:=fun i x hx=>by
   obtain⟨r,er⟩:=u9.s
   rw[<- er,uF (List.getElem?_eq_some_iff.mp (so5 i x hx)).1]
   exact so5 i x hx
  refine⟨_,U,U,_,U,?_⟩
  rw[decide_eq_true (rfl:V.int ((P+(mm - 1):Nat):Int)=_)]
  refine bA ?_
  refine⟨_,U,_,U,_,U,?_⟩
  refine tn0 ?_
  have saL:∀ {L':Kn},(sa,HO.lst (sd.map V.int)) ∈ [(sa,HO.lst (sd.map V.int))]++L':=fun {L'}=>uC _ uk
  refine⟨p,y9,_,sa,sd,y5.eng,U,Y11,saL,by rw[em]; exact B9.mono (fun x hx=>ul _ hx),so9,by omega,(eq5 u9.e fun x hx=>s5 _ (s4 _ hx)).mono (fun x hx=>ul _ hx),fun H12 Nw12 Y12=>?_⟩
  refine⟨_,U,bA ?_⟩
  have Y12:=Y12.front
  obtain⟨L6,eL6,s6⟩:∃ L6:Kn,Nw12++L5=L6/\(∀ x ∈ L5,x ∈ L6):=⟨_,U,fun x hx=>ul _ hx⟩
  rw[eL6] at Y12
  have s36:∀ x ∈ L3,x ∈ L6:=fun x hx=>s6 _ (s5 _ (s4 _ hx))
  have ld12:∀ x ∈ os,Lead y9 L6 (mm - 1) x.2 ((N3:Int),e):=fun x hx=>(ld9 x hx).tup fun z hz=>s6 _ (s5 _ hz)
  dsimp only[List.set]
  refine⟨_,U,U,_,U,?_⟩
  have th9:bw y9 N3 e:=by
   obtain⟨k',hk',e'⟩:=(frs (fn4 e e0 e1)).1
   exact⟨k',u9.k _ _ hk',e'⟩
  refine(fun rest=>if2 (fun c=>?_) (fun _=>rest)) ?_
  ·rw[dh] at c
   have m1:mm=1:=by have:=of_decide_eq_true c; omega
   obtain⟨o0,eo⟩:∃ o0,os=[o0]:=List.length_eq_one_iff.mp (osl.trans m1)
   have ho:o0 ∈ os:=by rw[eo]; exact uk
   have mo:Mt y9 L6 o0.2 ((N3:Int),e):=by
    obtain⟨n,w',hn,hc,hm⟩:=ld12 o0 ho
    obtain rfl:n=0:=by omega
    cases hc
    exact hm
   obtain⟨b,hb,mb⟩:=Y12.msym (x:=o0.2) (z:=((N3:Int),e)) (mo.tup fun z hz=>ul _ hz)
   obtain⟨A1,gy⟩:=Y12.obj
   refine⟨_,U,p,A1.dx,_,U,gy,(b7 _ _ _).2.1,_,U,?_⟩
   refine tn0 ?_
   refine fJ (z:=(tz,(N3:Int),e)) Y12 (ul _ (s36 _ mz3)) th9 ?_
   rw[hb]
   refine⟨_,U,ol,_,_,_,U,U,SqL.of (Y12.at_ (ul _ (s36 _ mol3))),show atI (prV os) 0=some (.ref o0.1) by rw[eo]; rfl,?_⟩
   refine tn0 ?_
   refine .inr ⟨b,o0.1,o0.2.1,o0.2.2,U,Y12.at_ mb,Y12.at_ (ul _ (s36 _ (s3 _ (op o0 ho).1))),?_⟩
   exact⟨_,U,rest⟩
  refine bA ?_
  dsimp only[List.set]
  have md3:=s3 _ md2
  have D9':=D9
  refine⟨_,U,_,U,_,U,d,_,_,_,U,U,SqL.of (Y12.at_ (ul _ (s36 _ md3))),gd (by decide) (by decide),?_⟩
  refine tn0 ?_
  refine⟨p,y9,_,sa,sd,_,U,Y12,D9.small (by omega) (by omega) (by omega),dr0 13 (by decide),s12,?_,fun H13 y13 sd13 l13 ss13 Nw13 F13 _ Y13 _=>?_⟩
  ·have h5:y5.sides.length=y4.sides.length:=by rw[n6]
   rcases Nat.lt_or_ge y9.sides.length sd.length with h | h
   ·obtain⟨v,hv⟩:∃ v,sd[y9.sides.length]?=some v:=⟨_,uo h⟩
    have:=(List.getElem?_eq_some_iff.mp (so9 _ _ hv)).1
    omega
   ·exact h
  obtain⟨k13,m13,r13,g13,sl13,em13,so13,D13⟩:=F13.ok so9
  have Y13:YIn t.c_Yard H13 p y13 ([(sa,.lst (sd13.map V.int))]++(Nw13++L6)):=Y13
  obtain⟨L7,eL7,s7⟩:∃ L7:Kn,Nw13++L6=L7/\(∀ x ∈ L6,x ∈ L7):=⟨_,U,fun x hx=>ul _ hx⟩
  rw[eL7] at Y13
  have s37:∀ x ∈ L3,x ∈ [(sa,HO.lst (sd13.map V.int))]++L7:=fun x hx=>ul _ (s7 _ (s36 _ hx))
  have D13:=D13 _ _ _ D9
  have kp:∀ {n:Int}{k:Kd},Kp y4 n k->Kp y13 n k:=fun {n k} h=>by
   have h':Kp y5 n k:=by unfold Kp at h ⊢; rw[n2]; exact h
   have h'':=h'.up u9
   unfold Kp at h'' ⊢
   rw[k13]
   exact h''
  have rk:∀ {f r:Int},ak y4.rods (Sum.inl f)=some (.int r)->ak y13.rods (Sum.inl f)=some (.int r):=fun {f r} h=>by
   rw[r13]
   exact u9.r _ _ (by rw[n4]; exact h)
  have slk:y4.sides.length<=y13.sides.length:=by
   rw[sl13]
   have:=u9.sl
   rw[n6] at this
   exact this
  have ld13:∀ {x:Int×Int},x ∈ os.map (·.2)->Lead y13 ([(sa,HO.lst (sd13.map V.int))]++L7) (mm - 1) x ((N3:Int),e):=fun {x} h=>by
   obtain⟨x',hx',rfl⟩:=uK.mp h
   exact((ld12 x' hx').same k13 m13).tup fun z hz=>ul _ (s7 _ hz)
  have tg:TG y13 ((N3:Int),e):=by
   refine⟨k,kp k4,e0,e1,fun o o0 o1 oe=>?_⟩
   rw[m13]
   refine(f9 _ (frs (fn4 o o0 o1)) (fun c=>?_) fun c=>?_).2
   ·obtain⟨x',hx',ex⟩:=uK.mp c
    have:=(op x' hx').2.2.1
    rw[ex] at this
    exact absurd this (Int.lt_irrefl _)
   ·exact oe (congrArg Prod.snd c)
  have fk13:FK y13 m fk:=by
   rcases fk4 with h | ⟨h0,k',r,h1,h2,h3,h4⟩
   ·exact .inl h
   ·exact .inr ⟨h0,k',r,kp h1,rk h2,h3,by omega⟩
  dsimp only[List.set]
  refine⟨_,U,_,U,_,U,_,U,_,U,?_⟩
  refine tn0 ?_
  refine⟨p,y13,_,sl3,d,ss,ds,fk,(tz,(N3:Int),e),m,mm - 1,U,Y13,D13.small (by omega) (by omega) (by omega),D13.t,?_,s37 _ (s3 _ msl2),s37 _ md3,s37 _ mz3,hds,fun x hx=>⟨s37 _ (s3 _ (sp x hx).1),?_⟩,by omega,by omega,tg,fk13,fun H14 y14 Nw14 k14 m14 r14 s14 D14 Y14=>?_⟩
  ·rw[g13,u9.g,eg5,um]; omega
  ·rcases (sp x hx).2 with ⟨l,h,h1,h2,h3,h4⟩ | ⟨f,h1,h2,⟨r,h3,h4,h5⟩,h6,h7⟩
   ·exact .inl ⟨l,h,kp h1,h2,h3,ld13 h4⟩
   ·exact .inr ⟨f,kp h1,h2,⟨r,rk h3,h4,by omega⟩,ld13 h6,ld13 h7⟩
  refine⟨_,U,bA ?_⟩
  have Y14:=Y14.front
  obtain⟨A1,gy⟩:=Y14.obj
  have e14:Eq2 y14 ([(sa,HO.lst (sd13.map V.int))]++(Nw14++L7)) y14.eng:=by
   rcases Y14.eng with e | ⟨z,e,mz'⟩
   ·exact .inl ⟨e,e⟩
   ·exact .inr ⟨z.1,z.1,z.2,e,e,mz',mz'⟩
  have sm13:sd13.length=m:=em13.trans em
  have so14:iW y14 sd13:=fun i x hx=>by
   rw[s14 i (by rw[<- sm13]; exact(List.getElem?_eq_some_iff.mp hx).1)]
   exact so13 i x hx
  have B14:BI y14 ([(sa,HO.lst (sd13.map V.int))]++(Nw14++L7)) m:=(B9.mono (fun x hx=>ul _ (ul _ (s7 _ (s6 _ hx))))).same (k14.trans k13) (m14.trans m13)
  refine⟨_,U,_,U,_,U,p,A1.dx,_,U,gy,(bo _ _ _).2.2.2.2.2.2.1,?_⟩
  refine cB Y14 ?_
  refine tn0 ?_
  refine⟨p,y14,_,sa,sd13,y14.eng,U,Y14,uC _ uk,by rw[sm13]; exact B14,so14,by omega,e14,fun H15 Nw15 Y15=>?_⟩
  refine⟨_,U,bA ?_⟩
  refine⟨_,U,_,U,d,_,_,_,U,U,SqL.of (Y15.at_ (ul _ (ul _ (ul _ (s7 _ (s36 _ md3)))))),gd (by decide) (by decide),?_⟩
  refine tn0 ?_
  exact⟨p,y14,_,_,_,_,0,U,Y15,D14 _ _ _ D13,by omega,by omega,by omega,dr0 15 (by decide),q⟩
end
noncomputable abbrev ad {A0 A3 A5 A7 A9 Ab Ad Af Ah Aj Al An Ap Ar At Av Ax Az A11 A13 A15 A17 A19 A1b A1d A1f A1h A1j A1l A1n A1p A1r A1t A1v A1x A1z A21 A23 A25 A27 A29 A2b A2d A2f A2h A2j A2l A2n A2p A2r A2t A2w A2y A30 A33 A35 A37 A39 A3b A3d A3f A3h A3j A3l A3n A3p A3r A3t A3v A3x A3y:Addr}{D1 D4 D6 D8 Da Dc De Dg Di Dk Dm Do Dq Ds Du Dw Dy D10 D12 D14 D16 D18 D1a D1c D1e D1g D1i D1k D1m D1o D1q D1s D1u D1w D1y D20 D22 D24 D26 D28 D2a D2c D2e D2g D2i D2k D2m D2o D2q D2s D2u D2x D2z D31 D34 D36 D38 D3a D3c D3e D3g D3i D3k D3m D3o D3q D3s D3u D3w:FuncData}{V2 V2v V32 V3z V40 V41 V42 V43 V44 V45:Value}:Adr:=⟨A0,D1,V2,A3,D4,A5,D6,A7,D8,A9,Da,Ab,Dc,Ad,De,Af,Dg,Ah,Di,Aj,Dk,Al,Dm,An,Do,Ap,Dq,Ar,Ds,At,Du,Av,Dw,Ax,Dy,Az,D10,A11,D12,A13,D14,A15,D16,A17,D18,A19,D1a,A1b,D1c,A1d,D1e,A1f,D1g,A1h,D1i,A1j,D1k,A1l,D1m,A1n,D1o,A1p,D1q,A1r,D1s,A1t,D1u,A1v,D1w,A1x,D1y,A1z,D20,A21,D22,A23,D24,A25,D26,A27,D28,A29,D2a,A2b,D2c,A2d,D2e,A2f,D2g,A2h,D2i,A2j,D2k,A2l,D2m,A2n,D2o,A2p,D2q,A2r,D2s,A2t,D2u,V2v,A2w,D2x,A2y,D2z,A30,D31,V32,A33,D34,A35,D36,A37,D38,A39,D3a,A3b,D3c,A3d,D3e,A3f,D3g,A3h,D3i,A3j,D3k,A3l,D3m,A3n,D3o,A3p,D3q,A3r,D3s,A3t,D3u,A3v,D3w,A3x,A3y,V3z,V40,V41,V42,V43,V44,V45⟩
theorem dm_Ja1 {v:Value}{T:Addr}{od:Option Addr}{n:Nat}{sl:Array (Option Value)}{tk0:Tok} (e:v=.ref T) (l:K.lookup T=some ⟨.type "tuple",od,.seq #[.int 0 tk0,.none] n,sl⟩):∃ (T:Addr) (od:Option Addr) (n:Nat) (sl:Array (Option Value)) (tk0:Tok),v=.ref T/\K.lookup T=some ⟨.type "tuple",od,.seq #[.int 0 tk0,.none] n,sl⟩:=⟨T,od,n,sl,tk0,e,l⟩
theorem dm_J9 {v:Value}{T:Addr}{od:Option Addr}{n:Nat}{sl:Array (Option Value)}{tk0:Tok} (e:v=.ref T) (l:K.lookup T=some ⟨.type "tuple",od,.seq #[.int 1 tk0] n,sl⟩):∃ (T:Addr) (od:Option Addr) (n:Nat) (sl:Array (Option Value)) (tk0:Tok),v=.ref T/\K.lookup T=some ⟨.type "tuple",od,.seq #[.int 1 tk0] n,sl⟩:=⟨T,od,n,sl,tk0,e,l⟩
theorem tpm {u:Value}{a:Addr}{od:Option Addr}{its:Array Value}{n:Nat}{sl:Array (Option Value)}{vs:List V} (y:u=.ref a) (l:K.lookup a=some ⟨.type "tuple",od,.seq its n,sl⟩) (s:its.size<=sizeLine) (v:Vals vs its.toList):∃ (a:Addr) (o:Obj) (its:Array Value) (n:Nat),u=.ref a/\K.lookup a=some o/\o.cls=.type "tuple" /\ o.data=.seq its n/\its.size<=sizeLine/\Vals vs its.toList:=⟨a,_,its,n,y,l,U,U,s,v⟩
end P
namespace PySem.W.Fast
def tw17548566497576933131:=()
def tw7421799928378906125:=()
def tw14635988971778749215:=()
def tw13096883468760010424:=()
def tw16383613080907640113:=()
def tw1312373780898224511:=()
def tw4785272096166356358:=()
def tw8931973401755303663:=()
def tw6923817277563637960:=()
def tw16950689621282094478:=()
def tw10566793715061437432:=()
def tw14915911589664949542:=()
def tw14972061875910110727:=()
def tw18033605112875180542:=()
def tw13110570731264412067:=()
def tw646525565437546953:=()
def tw15901857504110570833:=()
def tw5451514194544222622:=()
def tw5598636557115637724:=()
def tw15625363551101670093:=()
def tw13734787152954823249:=()
def tw13784877175366297062:=()
def tw14942927561421255642:=()
def tw16413713320244814185:=()
def tw6386114013659328151:=()
def tw12965226263134076483:=()
def tw4503111916351892990:=()
def tw5863225938608714108:=()
def tw10304322389998755510:=()
def tw10040199786532789639:=()
def tw14377140567511117744:=()
def tw7454453719364764600:=()
def tw3829988060753841481:=()
def tw16343500879912763173:=()
def tw16544844630538831444:=()
def tw17187185547891310845:=()
def tw15457025049488763373:=()
def tw13618445072126048560:=()
def tw6531825943746856401:=()
def tw13333805163482986008:=()
def tw14861450305625473138:=()
def tw1021717476216097423:=()
def tw1457300528113856542:=()
def tw15426833913332637287:=()
def tw9443652531846575451:=()
def tw12159595741199914133:=()
def tw1129197230468006292:=()
def tw1909855166351240814:=()
def tw9516873188035301581:=()
def tw11186094752591285300:=()
def tw12188774833429262206:=()
def tw16697212854491189770:=()
def tw1561894125541629311:=()
def tw10262577445233329427:=()
def tw11377627118252611238:=()
def tw17612327618577115403:=()
def tw13244188917977993865:=()
def tw13385295910981599551:=()
def tw8538914460005820979:=()
def tw13720817479607218858:=()
def tw3752419722980709384:=()
def tw11419416602292052853:=()
def tw10670269088278583141:=()
def tw6476622142744609696:=()
def tw15632174496698120845:=()
def tw16462193240754779614:=()
def tw4337992522661968779:=()
def tw16390044676171389068:=()
def tw3448778192287214375:=()
def tw3886864162830212752:=()
def tw570191826796254765:=()
def tw7477856084347524229:=()
def tw14831073173667192826:=()
def tw14314391084282247735:=()
def tw1490468320372928907:=()
def tw3927252158280158376:=()
def tw7021167161193474644:=()
def tw7350452288034576763:=()
def tw769566709688375060:=()
def tw7494210130612137376:=()
def tw3758217504093856519:=()
def tw5965563429252363986:=()
def tw15579683023802418843:=()
def tw13460412938898054237:=()
def tw687926665274921965:=()
def tw4466086153773459619:=()
def tw17090919894552170830:=()
def tw7009708898221271494:=()
def tw17644458383369145880:=()
def tw5957982786811286666:=()
def tw11880661014492101342:=()
def tw7317884463705211846:=()
def tw9606404852445047700:=()
def tw13008101159467884543:=()
def tw4974225598052093160:=()
def tw13888343438758313419:=()
def tw15718157516869650728:=()
def tw11880543978510103549:=()
def tw9882738444930642496:=()
def tw804965791411590588:=()
def tw7112595946124503927:=()
def tw509301685325381762:=()
def tw17770775180558041867:=()
def tw7607393473954675926:=()
def tw5459728295038927737:=()
def tw16033003335745318034:=()
def tw9624428480344247052:=()
def tw7370728364391433406:=()
def tw14733640183540647553:=()
def tw7111633595854807045:=()
def tw1092402056533053786:=()
def tw8916085598143078296:=()
def tw13611372891844627821:=()
def tw3947026723094958554:=()
def tw1353528760761044392:=()
def tw51548092450219021:=()
def tw9186952534254546817:=()
def tw17376727703921223808:=()
def tw15462399932123417114:=()
def tw16694520527262086500:=()
def tw727554651637418506:=()
def tw6360735795016050545:=()
def tw17659176065500869641:=()
def tw12884688744921897020:=()
def tw9236079279748198007:=()
def tw8076212986715349539:=()
def tw17426649054425985323:=()
def tw14764648654778734067:=()
def tw8623171694037184037:=()
def tw6618321820610011370:=()
def tw4731026353075389664:=()
def tw4415698615978008632:=()
def tw16726629625608281823:=()
def tw5054362098461639969:=()
def tw5159123527989426061:=()
def tw8761485831564154161:=()
def tw13916226504954029490:=()
def tw18098030281866779871:=()
def tw13786582317960606617:=()
def tw8792835821967524025:=()
def tw18151279031906429540:=()
def tw15544411745455917174:=()
def tw16770499682211360120:=()
def tw8074763072210545630:=()
def tw17513330073977373938:=()
def tw11998458404580487329:=()
def tw3827873200774931282:=()
def tw11429949383726794883:=()
def tw4403465116025033477:=()
def tw3305470247846243253:=()
def tw8007049399333719778:=()
def tw4770974058713207988:=()
def tw2876914923114759482:=()
def tw5385622474473530878:=()
def tw9103005840490192275:=()
def tw7456931159809061535:=()
def tw15977157685583964561:=()
def tw4263780327957313470:=()
def tw17859026761960078032:=()
def tw3214866858141387458:=()
def tw9026602869668489929:=()
def tw3200564448817953898:=()
def tw13860489350685807359:=()
def tw15145980339827804609:=()
def tw9023467248213852792:=()
def tw4314160266146449953:=()
def tw1788243190657429570:=()
def tw11614455674366879823:=()
def tw13268755576425529579:=()
def tw13096710724430890351:=()
def tw3059679474461877108:=()
def tw12236674453846726657:=()
def tw4453018261552616837:=()
def tw1636782149390185073:=()
def tw12107237353627985278:=()
def tw12381974364411199172:=()
def tw13691426412675491626:=()
def tw14378679276605341866:=()
def tw11906964947390121586:=()
def tw4104529995197240143:=()
def tw9564231061607704288:=()
def tw12374889662365340423:=()
def tw18386154641783058638:=()
def tw1734011528058562734:=()
def tw3819876214805954427:=()
def tw2076208864138907893:=()
def tw2660012810259979910:=()
def tw5770820724871258074:=()
def tw3812986602365520014:=()
def tw12387702245935490203:=()
def tw7414757642197586477:=()
def tw1660602076156428446:=()
def tw559304635717425022:=()
def tw16669280238872766797:=()
def tw3227481115610429119:=()
def tw17060776580456585810:=()
def tw11344369152985872838:=()
def tw3971239561116386726:=()
def tw1296382661285154054:=()
def tw11671183080367206231:=()
def tw7427230836505887067:=()
def tw3740856122556766316:=()
def tw7081966397965466455:=()
def tw5798034682506099447:=()
def tw15137018813516631490:=()
def tw2595774873558393036:=()
def tw586954032075167125:=()
def tw15078644957922279282:=()
def tw13798665433236156893:=()
def tw1909936998173579058:=()
def tw17794095616734651056:=()
def tw10212486593207038778:=()
def tw13492135456658469773:=()
def tw6204877341597192403:=()
def tw1616443551065521062:=()
def tw9847157340761820841:=()
def tw14328229826579996306:=()
def tw12405148527545024536:=()
end PySem.W.Fast
end
open PySem PySem.W PyProof.Rows
set_option maxRecDepth 100000 in
set_option maxHeartbeats 0 in
theorem PySem.Challenge.cw_lazyrails_k28_ends_merged_holds : PySem.Challenge.rw_lazyrails_k28_ends_merged.Holds := by
 w_on; o_law; k_head; (case hw => w_witness2)
 k_fill
 refine L2.walk_ofK (l:=PySem.Challenge.rw_lazyrails_k28_ends_merged) (n:=63) (k:=12) (x := "_law_script") (CX:=L2.CX0) (sp:=P.sp_law) rfl (by decide) rfl ⟨rfl,by decide,by decide,rfl⟩ (fun w h Y => PySem.W.kIn_of Y) ?F ?S ?C
 case F =>
  intro w mg fa h KX G hmg
  have T:∃ t,P.Txt (L2.KOf KX) mg t:=by
   dsimp only [L2.KOf]
   refine' ⟨P.ad,P.Txt.mk ?z0 ?z1 ?z2 ?z3 ?z4 ?z5 ?z6 ?z7 ?z8 ?z9 ?za ?zb ?zc ?zd ?ze ?zf ?zg ?zh ?zi ?zj ?zk ?zl ?zm ?zn ?zo ?zp ?zq ?zr ?zs ?zt ?zu ?zv ?zw ?zx ?zy ?zz ?z10 ?z11 ?z12 ?z13 ?z14 ?z15 ?z16 ?z17 ?z18 ?z19 ?z1a ?z1b ?z1c ?z1d ?z1e ?z1f ?z1g ?z1h ?z1i ?z1j ?z1k ?z1l ?z1m ?z1n ?z1o ?z1p ?z1q ?z1r ?z1s ?z1t ?z1u ?z1v ?z1w ?z1x ?z1y ?z1z ?z20 ?z21 ?z22 ?z23 ?z24 ?z25 ?z26 ?z27 ?z28 ?z29 ?z2a ?z2b ?z2c ?z2d ?z2e ?z2f ?z2g ?z2h ?z2i ?z2j ?z2k ?z2l ?z2m ?z2n ?z2o ?z2p ?z2q ?z2r ?z2s ?z2t ?z2u ?z2v ?z2w ?z2x ?z2y ?z2z ?z30 ?z31 ?z32 ?z33 ?z34 ?z35 ?z36 ?z37 ?z38 ?z39 ?z3a ?z3b ?z3c ?z3d ?z3e ?z3f ?z3g ?z3h ?z3i ?z3j ?z3k ?z3l ?z3m ?z3n ?z3o ?z3p ?z3q ?z3r ?z3s ?z3t ?z3u ?z3v ?z3w ?z3x ?z3y ?z3z ?z40 ?z41 ?z42 ?z43 ?z44 ?z45 ?z46 ?z47 ?z48 ?z49 ?z4a ?z4b ?z4c ?z4d ?z4e ?z4f ?z4g ?z4h ?z4i ?z4j ?z4k ?z4l ?z4m ?z4n ?z4o ?z4p ?z4q ?z4r ?z4s ?z4t ?z4u ?z4v ?z4w ?z4x ?z4y ?z4z ?z50 ?z51 ?z52 ?z53⟩
   (case z3w|z41 => dsimp only [P.ad]; refine PySem.W.mg_of KX G ?_; k_is)
   (case z3x|z42 => dsimp only [P.ad]; apply L2.Mk.mk; k_is; k_is; k_is; k_is)
   (case z1x|z1z|z20|z21|z22|z23|z24|z25|z26|z27|z28|z29|z2a|z2b|z2c|z2d|z2e|z2f|z2g|z2h|z2i|z2j|z2k|z2l|z2m|z2n|z2o|z2p|z2q|z2r|z2s|z2t|z2u|z2v|z2w|z2x|z2y|z2z|z30|z31|z32|z33 => dsimp only [P.ad]; refine PySem.W.mg_of KX G ?_; k_is)
   (case z34|z35|z36|z37|z38|z39|z3a|z3c|z3d|z3e|z3g|z3h|z3i|z3j|z3k|z3l|z3m|z3n|z3o|z3p|z3q|z3r|z3s|z3t|z3u => dsimp only [P.ad]; apply L2.Meth.mk; k_is; k_is; k_is)
   (case z0|z1|z2|z3|z4|z5|z6|z7|z8|z9|za|zb|zc|zd|ze|zf|zg|zh|zi|zj|zk|zl|zm|zn|zo|zp|zq|zr|zs|zt|zu|zv|zw|zx|zy|zz|z10|z11|z12|z13|z14|z15|z16|z17|z18|z19|z1a|z1b|z1c|z1d|z1e|z1f|z1g|z1h|z1i|z1j|z1k|z1l|z1m|z1n|z1o|z1p|z1q|z1r|z1s|z1t|z1u|z1v|z1w => dsimp only [P.ad]; apply L2.funG_mk; k_is; k_is; k_is)
   (case z3y|z3z|z43|z44|z45|z46|z47|z48|z49|z4a|z4b => dsimp only [L2.NoAttr,P.ad]; k_is)
   (case z3b => dsimp only [P.ad]; apply P.dm_Ja1 rfl; k_is)
   (case z3f => dsimp only [P.ad]; apply P.dm_J9 rfl; k_is)
   (case z4q|z4s|z4u|z4w|z4y|z50|z52 => dsimp only [P.ad]; apply PySem.W.mg_of KX G; k_is)
   (case z3v|z40 => dsimp only [P.ad]; refine ⟨?_,?_,?_,?_⟩; k_is; k_is; k_is; k_is)
   (case z1y => exact rfl)
   (case z4c|z4d|z4e|z4f|z4g|z4h|z4i|z4j|z4k|z4l|z4m|z4n|z4o|z4p => refine PySem.W.mg_none_of KX G ?_; k_is)
   (case z4z => dsimp only [P.ad]; apply P.tpm rfl; k_is; exact (show 3 <= PySem.sizeLine by decide); exact .cons ⟨_,rfl⟩ (.cons ⟨_,rfl⟩ (.cons ⟨_,rfl⟩ (.nil))))
   (case z4r|z4v|z51 => dsimp only [P.ad]; exact ⟨_,rfl,by kernel_rfl⟩)
   (case z4t|z4x|z53 => dsimp only [P.ad]; exact ⟨_,rfl⟩)
  obtain ⟨t,T⟩:=T
  have e0:=hmg.symm.trans T.m_law
  cases e0
  exact ⟨_,fun s u => P.law_binds T s u,fun base kb nb => P.ok_law T⟩
 case S => exact fun K H a ns hl hO hS => P.law_start hl hS
 case C => exact fun H s e s' z => z
