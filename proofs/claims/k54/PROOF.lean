import PyProof.Rows.All
import Wide.All
import OpenK.AllK
import Wide.FinOn
import Lean
import PyProof.EqAt
import PyProof.EqKinds
import PyProof.TupleCall
import PyProof.ZipIter
import PyProof.EnumMake
import PyProof.ListRange
import KE.KDictList
import KE.LcSums
import KE.KTabLook
import PyProof.P3In
import KE.KIntText
import PyProof.StrLoop
import PyProof.StrWalks
import PyProof.StrCalls2
import PyProof.StrLawsTight
import PyProof.StrLawsChain
import KE.KDictLaws
import PyProof.DictCompW
import PyProof.DictWalks
import PyProof.DictItemsLoops
import PyProof.FitsReplace
import PySem.Challenge.RW_lazyrails_k54_program_texts_refused
set_option compiler.extract_closed false
set_option Elab.async false
set_option linter.all false
set_option maxRecDepth 100000
open List (pairwise_append find?_cons)
open List renaming mem_cons_of_mem→sH,length_map→sI,mem_append_right→sJ,getElem?_eq_getElem→sK,mem_of_getElem?→sL,mem_cons_self→sM,getElem?_map→sN,mem_singleton→sO,map_append→sP,length_replicate→sQ,mem_cons→sR,length_cons→sT,size_toArray→sU,mem_append_left→sV,length_append→sW,map_cons→sX,mem_append→sY,mem_map→sZ,getElem?_append_right→tf,append_assoc→tj,getElem?_append_left→tm,mem_map_of_mem→tq,not_mem_nil→tw,length_take→tx,lookup_cons→tD,length_singleton→tE,map_map→tF,append_nil→tG,mem_range→tH
noncomputable section
namespace L2
open PySem PySem.Spec PyProof.Rows
theorem U.{u} {α:Sort u}{a:α}:a=a:=rfl
theorem O.{u} {α:Sort u}{a:α}:a=a:=rfl
theorem J.{u} {α:Sort u}{a:α}:a=a:=rfl
theorem F.{u} {α:Sort u}{a:α}:a=a:=rfl
theorem Z.{u} {α:Sort u}{a:α}:a=a:=rfl
noncomputable abbrev Key:=Sum Int Str
noncomputable def pU:Key->Value->Bool
 | .inl k,v=>Value.isInt k v
 | .inr x,v=>Value.isStrOf x v
noncomputable def keyH (w:World):Key->Int
 | .inl k=>hashInt k
 | .inr x=>hashStr w x
theorem bd:∀ {k:Key}{v:Value},pU k v=true->(∃ i t,k=Sum.inl i/\v=Value.int i t)∨(∃ x t,k=Sum.inr x/\v=Value.str x t)
 | .inl i,v,h=>by
  obtain⟨t,e⟩:=Value.isInt_shape (k:=i) (v:=v) h
  exact .inl ⟨i,t,U,e⟩
 | .inr x,v,h=>by
  obtain⟨t,e⟩:=Value.isStrOf_shape (x:=x) (v:=v) h
  exact .inr ⟨x,t,U,e⟩
theorem rq (a b:Int):decide ((Sum.inl a:Key)=Sum.inl b)=(a == b):=by
 by_cases e:a=b
 ·subst e; simp
 ·have h:¬ (Sum.inl a:Key)=Sum.inl b:=fun q=>e (Sum.inl.inj q)
  rw[decide_eq_false h]
  exact(beq_eq_false_iff_ne.mpr e).symm
theorem rk (a b:Str):decide ((Sum.inr a:Key)=Sum.inr b)=decide (a=b):=by
 by_cases e:a=b
 ·subst e; simp
 ·have h:¬ (Sum.inr a:Key)=Sum.inr b:=fun q=>e (Sum.inr.inj q)
  rw[decide_eq_false h,decide_eq_false e]
theorem rp (a:Int) (b:Str):decide ((Sum.inl a:Key)=Sum.inr b)=false:=decide_eq_false (fun q=>nomatch q)
theorem rm (a:Str) (b:Int):decide ((Sum.inr a:Key)=Sum.inl b)=false:=decide_eq_false (fun q=>nomatch q)
noncomputable def iE (prog:Program) (w:World):PySem.KeyKind prog w Key where
 is:=pU
 hash:=keyH w
 inj:=fun v a b ha hb=>by
  rcases bd ha with ⟨i,t,rfl,rfl⟩ | ⟨x,t,rfl,rfl⟩
  ·rcases bd hb with ⟨j,u,rfl,e⟩ | ⟨y,u,rfl,e⟩
   ·injection e with e1 _; rw[e1]
   ·exact nomatch e
  ·rcases bd hb with ⟨j,u,rfl,e⟩ | ⟨y,u,rfl,e⟩
   ·exact nomatch e
   ·injection e with e1 _; rw[e1]
 byValue:=fun k v h=>by
  rcases bd h with ⟨i,t,rfl,rfl⟩ | ⟨x,t,rfl,rfl⟩ <;> rfl
 pyHash:=fun hv h=>by
  rcases bd hv with ⟨i,t,rfl,rfl⟩ | ⟨x,t,rfl,rfl⟩
  ·exact wpAny_pyHash_int h
  ·exact wpAny_pyHash_str h
 eqBool:=fun hu hv h=>by
  rcases bd hu with ⟨i,t,rfl,rfl⟩ | ⟨x,t,rfl,rfl⟩
  ·rcases bd hv with ⟨j,u,rfl,rfl⟩ | ⟨y,u,rfl,rfl⟩
   ·rw[rq] at h; exact wpAny_eqBool_int h
   ·rw[rp] at h; exact SeqAt.EqAt.int_str i t y u _ _ _ _ h
  ·rcases bd hv with ⟨j,u,rfl,rfl⟩ | ⟨y,u,rfl,rfl⟩
   ·rw[rm] at h; exact SeqAt.EqAt.str_int x t j u _ _ _ _ h
   ·rw[rk] at h; exact wpAny_eqBool_str h
 «strs»:=fun k x t v h=>by
  rcases bd h with ⟨i,u,rfl,e⟩ | ⟨y,u,rfl,e⟩
  ·exact nomatch e
  ·injection e with e1 _
   subst e1
   cases v <;> rfl
inductive V where
 | non | bl (b:Bool) | int (i:Int) | str (x:Str) | byt (b:Array UInt8) | flt (b:UInt64) | ref (a:Addr) | ty (n:String)
 deriving DecidableEq
noncomputable def RelV:V->Value->Prop
 | .non,u=>u=Value.none
 | .bl b,u=>u=Value.bool b
 | .int i,u=>∃ t,u=Value.int i t
 | .str x,u=>∃ t,u=Value.str x t
 | .byt b,u=>∃ t,u=Value.bytes b t
 | .flt b,u=>∃ t,u=Value.float b t
 | .ref a,u=>u=Value.ref a
 | .ty n,u=>u=Value.type n
noncomputable abbrev Vals:List V->List Value->Prop:=Paired RelV
variable{us:List Value}
theorem Vals.length {xs:List V} (r:Vals xs us):xs.length=us.length:=Paired.length r
theorem Vals.get:∀ {xs:List V}{us:List Value}{i:Nat}{x:V},Vals xs us->xs[i]?=some x->∃ u,us[i]?=some u/\RelV x u
 | _,_,_,_,.nil,e=>by simp at e
 | _,_,0,_,.cons r _,e=>by simp at e; subst e; exact⟨_,U,r⟩
 | _,_,i+1,x,.cons _ t,e=>by
  obtain⟨u,h1,h2⟩:=Vals.get (i:=i) (x:=x) t (by simpa using e)
  exact⟨u,by simpa using h1,h2⟩
variable{u:Value}
theorem Vals.set {x:V} (r:RelV x u):∀ {xs:List V}{us:List Value} (i:Nat),Vals xs us->Vals (xs.set i x) (us.set i u)
 | _,_,_,.nil=>.nil
 | _,_,0,.cons _ t=>.cons r t
 | _,_,i+1,.cons q t=>.cons q (Vals.set r i t)
theorem Vals.append {xs ys:List V}{us ws:List Value} (a:Vals xs us) (s:Vals ys ws):Vals (xs++ys) (us++ws):=by
 induction a with
 | nil=>exact s
 | cons r t ih=>exact .cons r ih
theorem Vals.take:∀ {xs:List V}{us:List Value} (n:Nat),Vals xs us->Vals (xs.take n) (us.take n)
 | _,_,0,_=>.nil
 | _,_,_+1,.nil=>.nil
 | _,_,n+1,.cons r t=>.cons r (Vals.take n t)
theorem Vals.drop:∀ {xs:List V}{us:List Value} (n:Nat),Vals xs us->Vals (xs.drop n) (us.drop n)
 | _,_,0,r=>r
 | _,_,_+1,.nil=>.nil
 | _,_,n+1,.cons _ t=>Vals.drop n t
noncomputable def RelO:Option V->Option Value->Prop
 | some v,some u=>RelV v u
 | none,none=>True
 | _,_=>False
noncomputable def KV {κ:Type}:List (κ×V)->List (κ×Value)->Prop:=Paired fun(p:κ×V) (q:κ×Value)=>p.1=q.1/\RelV p.2 q.2
noncomputable def kV:Key->V
 | .inl i=>.int i
 | .inr x=>.str x
inductive HO where
  | lst (xs:List V)
  | tup (xs:List V)
  | dK (kvs:List (Key×V)) | dT (kvs:List (List Key×V))
  | set (S:Int->Bool) (n:Nat)
  | ins (C dx:Addr) (fs:List (Str×V))
  | own (x:Addr)
  | xd (fs:List (Str×V))
  | met (f x:Addr)
  | rng (lo hi:Int)
  | frz (o:Obj) (u:HO)
  | tbl (ps:Array Value)
  | ext (φ:Heap->Prop)
noncomputable abbrev Hp:=Addr->Option HO
noncomputable def upd (H:Hp) (a:Addr) (o:HO):Hp:=fun b=>if b=a then some o else H b
variable{H:Hp}
theorem bi {a:Addr}{o:HO}:upd H a o a=some o:=by unfold upd; rw[if_pos rfl]
theorem aw {a b:Addr}{o:HO} (h:b≠a):upd H a o b=H b:=by unfold upd; rw[if_neg h]
theorem ba {a b:Addr}{o:HO} (h:H a=some o) (h':H b=none):a≠b:=by
 intro e; subst e; rw[h] at h'; cases h'
section
variable (P:Program) (w:World)
noncomputable def ObjOk (H:Hp) (h:Heap) (a:Addr):HO->Prop
 | .lst xs=>xs.length<=sizeLine/\∃ (its:List Value) (n:Nat),Vals xs its/\h.get? a=some { cls:=.type "list",data:=.seq its.toArray n }
 | .tup xs=>xs.length<=sizeLine/\∃ its:List Value,Vals xs its/\IsTup h a its.toArray
 | .dK kvs=>kvs.length<=sizeLine/\(a == sysModules)=false/\∃ vs,KV kvs vs/\h.DictOf (iE P w) a vs
 | .dT kvs=>kvs.length<=sizeLine/\(a == sysModules)=false/\∃ xs:List (List Key×Addr×Value),
   Paired (fun(p:List Key×V) (q:List Key×Addr×Value)=>p.1=q.1/\H q.2.1=some (.tup (p.1.map kV))/\RelV p.2 q.2.2) kvs xs /\
   ∃ o es ep,h.get? a=some o/\o.ExactDict/\o.data=.dict es ep/\es.toList=xs.map (entryOfKey (tupleKind (iE P w)))/\(xs.map (·.1)).Nodup
 | .set S n=>h.SetOf (intKind P w) a S n
 | .ins C dx fs=>H dx=some (.own a)/\fs.length<=1000/\dx≠a/\h.get? a=some (PySem.W.instObj C dx) /\
   ∃ mA,h.Ns1 dx mA/\(∀ f,RelO (fs.lookup f) (mA f))/\PySem.Within mA (fs.map (·.1))
 | .own _=>∃ o,h.get? a=some o
 | .xd fs=>∃ mA,h.Ns1 a mA/\∀ f,RelO (fs.lookup f) (mA f)
 | .rng lo hi=>∃ t u v,h.get? a=some { cls:=.type "range",data:=.fields #[.int lo t,.int hi u,.int 1 v] }
 | .frz o u=>h.get? a=some o/\ObjOk H h a u
 | .tbl ps=>h.get? a=some { cls:=.none,data:=.fields ps }
 | .met f x=>h.get? a=some (PySem.W.methodObj (.ref f) (.ref x))
 | .ext φ=>φ h/\(∃ o,h.get? a=some o)/\∀ h1 h2:Heap,φ h1->(∀ o,h1.get? a=some o->h2.get? a=some o)->φ h2
noncomputable def HOk (H:Hp) (h:Heap):Prop:=∀ a o,H a=some o->ObjOk P w H h a o
end
section
variable {P:Program}{w:World}{H H':Hp}{h h':Heap}{a:Addr}{o:HO}
theorem ObjOk.lt (x:ObjOk P w H h a o):a<h.objs.size:=by
 cases o with
 | lst xs=>obtain⟨_,_,_,_,e⟩:=x; exact Heap.lt_size e
 | tup xs=>obtain⟨_,_,_,p⟩:=x; exact p.lt
 | dK kvs=>obtain⟨_,_,_,_,o,_,_,e,_⟩:=x; exact Heap.lt_size e
 | dT kvs=>obtain⟨_,_,_,_,o,_,_,e,_⟩:=x; exact Heap.lt_size e
 | set S n=>obtain⟨o,_,_,_,e,_⟩:=x; exact Heap.lt_size e
 | ins C dx fs=>obtain⟨_,_,_,e,_⟩:=x; exact Heap.lt_size e
 | own y=>obtain⟨_,e⟩:=x; exact Heap.lt_size e
 | xd fs=>obtain⟨_,⟨_,_,_,e,_⟩,_⟩:=x; exact Heap.lt_size e
 | rng lo hi=>obtain⟨_,_,_,e⟩:=x; exact Heap.lt_size e
 | frz ob u=>obtain⟨e,_⟩:=x; exact Heap.lt_size e
 | tbl ps=>exact Heap.lt_size (show h.get? a=some _ from x)
 | met f y=>exact Heap.lt_size (show h.get? a=some _ from x)
 | ext φ=>obtain⟨_,⟨_,e⟩,_⟩:=x; exact Heap.lt_size e
theorem Paired.mapP {α β:Type}{F G:α->β->Prop} {l₁:List α}{l₂:List β} (a:Paired F l₁ l₂) (f:∀ a b,F a b->G a b):Paired G l₁ l₂:=by
 induction a with
 | nil=>exact .nil
 | cons r t ih=>exact .cons (f _ _ r) ih
theorem ObjOk.stay (x:ObjOk P w H h a o) (k:∀ b u,(b=a∨H b=some (.own a))->h.get? b=some u->h'.get? b=some u)
  (ho:∀ b,H b=some (.own a)->H' b=some (.own a)) (ht:∀ b xs,H b=some (.tup xs)->H' b=some (.tup xs)):ObjOk P w H' h' a o:=by
 induction o with
 | lst xs=>obtain⟨z,its,n,r,e⟩:=x; exact⟨z,its,n,r,k _ _ (.inl rfl) e⟩
 | tup xs=>obtain⟨z,its,r,ob,e,c⟩:=x; exact⟨z,its,r,ob,k _ _ (.inl rfl) e,c⟩
 | dK kvs=>obtain⟨z,y,vs,r,ob,es,ep,e,c⟩:=x; exact⟨z,y,vs,r,ob,es,ep,k _ _ (.inl rfl) e,c⟩
 | dT kvs=>
  obtain⟨z,y,xs,r,ob,es,ep,e,c⟩:=x
  exact⟨z,y,xs,Paired.mapP r fun p q z=>⟨z.1,ht _ _ z.2.1,z.2.2⟩,ob,es,ep,k _ _ (.inl rfl) e,c⟩
 | set S n=>obtain⟨ob,es,ep,t,e,c⟩:=x; exact⟨ob,es,ep,t,k _ _ (.inl rfl) e,c⟩
 | ins C dx fs=>
  obtain⟨d,z,ne,e,mA,⟨od,es,ep,e2,c⟩,r⟩:=x
  exact⟨ho _ d,z,ne,k _ _ (.inl rfl) e,mA,⟨od,es,ep,k _ _ (.inr d) e2,c⟩,r⟩
 | own y=>obtain⟨ob,e⟩:=x; exact⟨ob,k _ _ (.inl rfl) e⟩
 | xd fs=>obtain⟨mA,⟨od,es,ep,e,c⟩,r⟩:=x; exact⟨mA,⟨od,es,ep,k _ _ (.inl rfl) e,c⟩,r⟩
 | rng lo hi=>obtain⟨t,u,v,e⟩:=x; exact⟨t,u,v,k _ _ (.inl rfl) e⟩
 | frz ob u ih=>obtain⟨e,q⟩:=x; exact⟨k _ _ (.inl rfl) e,ih q⟩
 | tbl ps=>
  have e:h.get? a=some { cls:=.none,data:=.fields ps }:=x
  show h'.get? a=some { cls:=.none,data:=.fields ps }
  exact k a _ (.inl rfl) e
 | met f y=>
  have e:h.get? a=some (PySem.W.methodObj (.ref f) (.ref y)):=x
  show h'.get? a=some (PySem.W.methodObj (.ref f) (.ref y))
  exact k a _ (.inl rfl) e
 | ext φ=>obtain⟨p,⟨o,e⟩,st⟩:=x; exact⟨st _ _ p fun o q=>k _ _ (.inl rfl) q,⟨o,k _ _ (.inl rfl) e⟩,st⟩
theorem HOk.lt (x:HOk P w H h) (e:H a=some o):a<h.objs.size:=(x a o e).lt
theorem HOk.fresh (x:HOk P w H h) (e:h.objs.size<=a):H a=none:=by
 cases q:H a with
 | none=>rfl
 | some u=>exact absurd (Nat.lt_of_lt_of_le (x.lt q) e) (Nat.lt_irrefl _)
theorem HOk.kept (x:HOk P w H h) (k:∀ b u,h.get? b=some u->h'.get? b=some u):HOk P w H h':=fun a o e=>
 (x a o e).stay (fun b u _ q=>k b u q) (fun _ q=>q) fun _ _ q=>q
theorem HOk.laid (x:HOk P w H h) (k:∀ b u,h.get? b=some u->h'.get? b=some u) (hp:h.objs.size<=a) (new:ObjOk P w (upd H a o) h' a o):HOk P w (upd H a o) h':=fun b u e=>by
 have hn:=x.fresh hp
 by_cases hb:b=a
 ·subst hb; rw[bi] at e; cases e; exact new
 ·rw[aw hb] at e
  exact(x b u e).stay (fun c v _ q=>k c v q) (fun c q=>by rw[aw (ba q hn)]; exact q) fun c xs q=>by rw[aw (ba q hn)]; exact q
end
noncomputable def Rd (H:Hp) (a:Addr) (u:HO):Prop:=H a=some u∨∃ o,H a=some (.frz o u)
variable{P:Program}{h:Heap}
theorem Rd.ok {w:World}{a:Addr}{u:HO} (r:Rd H a u) (x:HOk P w H h):ObjOk P w H h a u:=by
 rcases r with r | ⟨o,r⟩
 ·exact x a u r
 ·obtain⟨_,q⟩:=x a _ r
  exact q
noncomputable def Mut:Option HO->Prop
 | some (.lst _)=>True
 | some (.dK _)=>True
 | some (.dT _)=>True
 | some (.set _ _)=>True
 | some (.ins _ _ _)=>True
 | some (.ext _)=>True
 | _=>False
section
variable {P:Program}{w:World}{H:Hp}{h h':Heap}{x e:Addr}{o':HO}
theorem HOk.write (ok:HOk P w H h) (mu:Mut (H x)) (he:e=x∨H e=some (.own x)) (k:∀ b u,b≠e->h.get? b=some u->h'.get? b=some u) (heo:∃ u,h'.get? e=some u)
  (new:ObjOk P w (upd H x o') h' x o'):HOk P w (upd H x o') h':=fun b u q=>by
 have nown:∀ c y,H c=some (.own y)->c≠x:=fun c y r z=>by subst z; rw[r] at mu; exact mu
 have ntup:∀ c xs,H c=some (.tup xs)->c≠x:=fun c xs r z=>by subst z; rw[r] at mu; exact mu
 by_cases hb:b=x
 ·subst hb; rw[bi] at q; cases q; exact new
 ·rw[aw hb] at q
  by_cases hbe:b=e
  ·have q':H b=some (.own x):=by
    rcases he with z | z
    ·exact absurd (hbe.trans z) hb
    ·rw[hbe]; exact z
   rw[q] at q'; cases q'
   obtain⟨v,hv⟩:=heo
   exact⟨v,by rw[hbe]; exact hv⟩
  ·refine(ok b u q).stay (fun c v hc r=>k c v ?_ r) (fun c r=>by rw[aw (nown c b r)]; exact r) fun c xs r=>by rw[aw (ntup c xs r)]; exact r
   rcases hc with rfl | hc
   ·exact hbe
   ·rintro rfl
    rcases he with z | z
    ·exact nown c b hc z
    ·rw[hc] at z; cases z; exact hb rfl
end
structure Un (fs ex:List Addr) (H H':Hp) (h h':Heap):Prop where
 keep:∀ b o,h.get? b=some o->H b=none->b ∉ fs->b ∉ ex->h'.get? b=some o
 slot:∀ b o,h.get? b=some o->H b=none->b ∈ fs->b ∉ ex->∃ sl,h'.get? b=some { o with slots:=sl }
 free:∀ b o,h.get? b=some o->H b=none->b ∉ ex->H' b=none
 there:∀ b o,h.get? b=some o->b ∉ ex->∃ o',h'.get? b=some o'
 tups:∀ b xs,H b=some (.tup xs)->H' b=some (.tup xs)
 frzs:∀ b o u,H b=some (.frz o u)->H' b=some (.frz o u)
 tbls:∀ b ps,H b=some (.tbl ps)->∃ more,H' b=some (.tbl (ps++more))
section
variable {fs fs' ex ex':List Addr}{H H1 H2:Hp}{h h1 h2 h':Heap}{a x e:Addr}{o:HO}
theorem Un.any (u:Un fs ex H H1 h h1) {b:Addr}{ob:Obj} (q:h.get? b=some ob) (n:H b=none) (hx:b ∉ ex):∃ sl,h1.get? b=some { ob with slots:=sl }:=by
 by_cases hb:b ∈ fs
 ·exact u.slot b ob q n hb hx
 ·exact⟨ob.slots,u.keep b ob q n hb hx⟩
theorem Un.kept (k:∀ b u,h.get? b=some u->h'.get? b=some u):Un fs ex H H h h' :=
 ⟨fun b ob q _ _ _=>k b ob q,fun b ob q _ _ _=>⟨ob.slots,k b ob q⟩,fun _ _ _ n _=>n,fun b ob q _=>⟨ob,k b ob q⟩,fun _ _ q=>q,fun _ _ _ q=>q,fun _ ps q=>⟨#[],by rw[q]; simp⟩⟩
theorem Un.refl:Un fs ex H H h h:=Un.kept fun _ _ q=>q
theorem Un.laid (k:∀ b u,h.get? b=some u->h'.get? b=some u) (hp:h.objs.size<=a) (hn:H a=none):Un fs ex H (upd H a o) h h' where
 keep:=fun b u q _ _ _=>k b u q
 slot:=fun b u q _ _ _=>⟨u.slots,k b u q⟩
 free:=fun b u q n _=>by rw[aw (Nat.ne_of_lt (Nat.lt_of_lt_of_le (Heap.lt_size q) hp))]; exact n
 there:=fun b u q _=>⟨u,k b u q⟩
 tups:=fun b xs q=>by rw[aw (ba q hn)]; exact q
 frzs:=fun b u xs q=>by rw[aw (ba q hn)]; exact q
 tbls:=fun b ps q=>⟨#[],by rw[aw (ba q hn),q]; simp⟩
theorem Un.write (mu:Mut (H x)) (he:e=x∨H e=some (.own x)) (k:∀ b u,b≠e->h.get? b=some u->h'.get? b=some u) (heo:∃ u,h'.get? e=some u):Un fs ex H (upd H x o) h h':=by
 have hx:∀ b,H b=none->b≠x:=fun b n z=>by subst z; rw[n] at mu; exact mu
 have hb:∀ b,H b=none->b≠e:=fun b n z=>by
  subst z
  rcases he with r | r
  ·exact hx b n r
  ·rw[n] at r; cases r
 have hm:∀ b u,H b=some u->¬ Mut (some u)->b≠x:=fun b u q nm z=>by subst z; rw[q] at mu; exact nm mu
 refine⟨fun b u q n _ _=>k b u (hb b n) q,fun b u q n _ _=>⟨u.slots,k b u (hb b n) q⟩,fun b u q n _=>by rw[aw (hx b n)]; exact n,fun b u q _=>?_,
  fun b xs q=>by rw[aw (hm b _ q fun z=>z)]; exact q,fun b u xs q=>by rw[aw (hm b _ q fun z=>z)]; exact q,fun b ps q=>⟨#[],by rw[aw (hm b _ q fun z=>z),q]; simp⟩⟩
 by_cases hbe:b=e
 ·subst hbe; exact heo
 ·exact⟨u,k b u hbe q⟩
end
noncomputable def trk (h:Heap) (H:Hp):List Addr:=(List.range h.objs.size).filter fun a=>(H a).isSome
noncomputable def gI (h:Heap) (H:Hp):Heap:=PySem.W.hideAll h (trk h H)
theorem lK (h:Heap) (H:Hp):(gI h H).objs.size=h.objs.size:=PySem.W.hideAll_size _ _
theorem nI {b:Addr}{o:Obj} (e:h.get? b=some o) (n:H b=none):(gI h H).get? b=some o :=
 PySem.W.hideAll_get _ e fun hm=>by
  have q:(H b).isSome=true:=(List.mem_filter.mp hm).2
  rw[n] at q; simp at q
theorem oY {b:Addr}{o:Obj} (e:(gI h H).get? b=some o):h.get? b=some o/\H b=none:=by
 have e':h.get? b=some o:=PySem.W.of_hideAll (trk h H) e
 refine⟨e',?_⟩
 cases q:H b with
 | none=>rfl
 | some x=>
  have hm:b ∈ trk h H:=List.mem_filter.mpr ⟨tH.mpr (Heap.lt_size e'),by simp[q]⟩
  have z:(gI h H).get? b=none:=PySem.W.hideAll_none (trk h H) hm
  rw[z] at e; cases e
noncomputable def pC (g h:Heap) (L:Addr):List (Addr×Obj):=(List.range h.objs.size).filterMap fun a=>if a=L∨(g.get? a).isSome=true then none else(h.get? a).map fun o=>(a,o)
noncomputable def rest (g h:Heap) (L d:Addr):List (Addr×Obj):=(pC g h L).filter fun p=>decide (p.1≠d)
structure Mod (K:PySem.W.Frag) (mg:Str->Option Value) (base:Heap):Prop where
 kin:K.In base
 glob:base.Ns mainGlobals mg
 blt:∃ mb,base.Ns builtinsNs mb/\∀ x:Str,x ≠ "__name__" -> mb x=bootBuiltins x
 nolimit:base.NoLimit
structure Cx where
 prog:Program
 w:World
 K:PySem.W.Frag
 mg:Str->Option Value
 base:Heap
 A:Around
 N:List Str
 s₀:Shared
 H₀:Hp
 env:Env
 outer:List Env
 stack:List Env
 ex:List Addr
 fn:Str->Bool
 calm:Bool
 pn:List (Addr×Obj)
 xe:Value->Shared->Prop
noncomputable def frs (l:List Env):List Addr:=l.filterMap (·.frame)
noncomputable abbrev Cx.fs (X:Cx):List Addr:=frs X.outer
noncomputable def Vis (sc:Scope) (x:Str):Prop:=sc.names.lookup x=some .local∨sc.names.lookup x=some .cell∨sc.names.lookup x=some .free
noncomputable def Loc (sc:Scope) (x:Str):Prop:=sc.names.lookup x=some .local∨sc.names.lookup x=some .cell
noncomputable def sF (env:Env) (h:Heap) (m:Str->Option Value) (x:Str) (u:Value):Prop :=
 (env.kindOf x=some .local/\m x=some u)∨((env.kindOf x=some .cell∨env.kindOf x=some .free)/\∃ c,env.cells.lookup x=some c/\h.IsCell c (some u))
structure Cx.Ok (X:Cx):Prop where
 mod:Mod X.K X.mg X.base
 kind:X.env.scope.kind=.function
 glob:X.env.globals=mainGlobals
 blt:X.env.builtins=builtinsNs
 above:X.s₀.heap.objs.size<=X.env.locals
 inj:∀ x y c,X.env.cells.lookup x=some c->X.env.cells.lookup y=some c->x=y
 has:∀ x,(X.env.kindOf x=some .cell∨X.env.kindOf x=some .free)->∃ c,X.env.cells.lookup x=some c
 cab:∀ x c,X.fn x=true->X.env.cells.lookup x=some c->X.s₀.heap.objs.size<=c
 hd:X.calm=true->X.A.handled=none
 frames:X.A.frames=some X.stack
 stk:X.stack=X.outer∨(X.stack=X.env::X.outer/\X.env.frame=some X.env.locals)
 exf:∀ b ∈ X.ex,b≠X.env.locals/\∀ x c,X.env.cells.lookup x=some c->c≠b
 bs:∀ b o,X.base.get? b=some o->X.s₀.heap.get? b=some o/\X.H₀ b=none
 bsz:X.base.objs.size<=X.s₀.heap.objs.size
 noex:∀ b o,X.base.get? b=some o->b ∉ X.ex
 exfs:∀ b ∈ X.ex,b ∉ X.fs
 funs:X.s₀.heap.FunFrames X.base X.outer
 frf:∀ b ∈ X.fs,X.H₀ b=none
structure Inv (X:Cx) (pins:List (Addr×Obj)) (σ:List (Option V)) (H:Hp) (s:Shared):Prop where
 ok:X.Ok
 os:s.os=X.s₀.os
 bare:AllBare s.gens
 base:Un X.fs X.ex X.H₀ H X.s₀.heap s.heap
 loc:∃ m,s.heap.Ns X.env.locals m/\∀ (i:Nat) (x:Str) (v:V),X.N[i]?=some x->σ[i]?=some (some v)->Vis X.env.scope x->∃ u,RelV v u/\sF X.env s.heap m x u
 cell:∀ x c,X.env.cells.lookup x=some c->∃ v,s.heap.IsCell c v
 free:H X.env.locals=none
 freeC:∀ x c,X.env.cells.lookup x=some c->H c=none
 pin:∀ p ∈ X.pn++pins,s.heap.get? p.1=some p.2/\H p.1=none/\p.1≠X.env.locals/\p.1 ∉ X.fs/\∀ v,p.2.data≠.cell v
 hok:HOk X.prog X.w H s.heap
 len:σ.length=X.N.length
variable{E:Value->Shared->Prop}{A:Around}{t':Nat}
section
variable {X:Cx}{pins:List (Addr×Obj)}{σ:List (Option V)}{H H':Hp}{s:Shared}{h':Heap}
theorem Cx.Ok.nofr (ok:X.Ok) {b:Addr}{o:Obj} (e:X.base.get? b=some o):b ∉ X.fs:=fun hb=>by
 have:=(ok.funs.mem hb).1
 rw[e] at this; cases this
theorem Inv.bs (I:Inv X pins σ H s):∀ b o,X.base.get? b=some o->s.heap.get? b=some o/\H b=none:=fun b o e=>
 ⟨I.base.keep b o (I.ok.bs b o e).1 (I.ok.bs b o e).2 (I.ok.nofr e) (I.ok.noex b o e),I.base.free b o (I.ok.bs b o e).1 (I.ok.bs b o e).2 (I.ok.noex b o e)⟩
theorem Inv.bk (I:Inv X pins σ H s):∀ b o,X.base.get? b=some o->s.heap.get? b=some o:=fun b o e=>(I.bs b o e).1
theorem Inv.mod (I:Inv X pins σ H s):Mod X.K X.mg X.base:=I.ok.mod
theorem Inv.kIn (I:Inv X pins σ H s):X.K.In s.heap:=I.ok.mod.kin.keeps I.bk
theorem Inv.fr (I:Inv X pins σ H s):∃ m,Fr X.base X.env.locals s.heap m :=
 let ⟨m,hn,_⟩:=I.loc
 ⟨m,hn,I.bk,Nat.le_trans I.ok.bsz I.ok.above⟩
theorem Inv.lt (I:Inv X pins σ H s):X.env.locals<s.heap.objs.size:=let ⟨_,hn,_⟩:=I.loc; hn.lt
theorem Inv.sz (I:Inv X pins σ H s):X.s₀.heap.objs.size<=s.heap.objs.size:=Nat.le_trans I.ok.above (Nat.le_of_lt I.lt)
theorem Inv.nofs (I:Inv X pins σ H s) {a:Addr} (h:s.heap.objs.size<=a):a ∉ X.fs:=fun hb=>by
 obtain⟨_,o,ho,_⟩:=I.ok.funs.mem hb
 exact absurd (Nat.lt_of_lt_of_le (Heap.lt_size ho) (Nat.le_trans I.sz h)) (Nat.lt_irrefl _)
theorem Inv.cne (I:Inv X pins σ H s):∀ x c,X.env.cells.lookup x=some c->c≠X.env.locals:=fun x c e z=>by
 obtain⟨v,o,ho,hd⟩:=I.cell x c e
 obtain⟨m,⟨o',es,ep,ho',hd',_⟩,_⟩:=I.loc
 rw[z,ho'] at ho; cases ho; rw[hd'] at hd; cases hd
theorem Inv.funs (I:Inv X pins σ H s):s.heap.FunFrames X.base X.outer:=by
 have all:∀ (l:List Env),(∀ b ∈ frs l,b ∈ X.fs)->X.s₀.heap.FunFrames X.base l->s.heap.FunFrames X.base l:=by
  intro l
  induction l with
  | nil=>intro _ _; trivial
  | cons env r ih=>
   intro hs hl
   obtain⟨hk,⟨L,o,hf,hn,ho,hd⟩,hr⟩:=hl
   have hL:L ∈ X.fs:=hs L (by unfold frs; rw[List.filterMap_cons,hf]; exact sM)
   obtain⟨sl,e⟩:=I.base.slot L o ho (I.ok.frf L hL) hL fun z=>I.ok.exfs L z hL
   exact⟨hk,⟨L,_,hf,hn,e,hd⟩,ih (fun b hb=>hs b (by unfold frs; rw[List.filterMap_cons,hf]; exact sH _ hb)) hr⟩
 exact all X.outer (fun _ hb=>hb) I.ok.funs
theorem Inv.stack (I:Inv X pins σ H s):s.heap.FunFrames X.base X.stack:=by
 rcases I.ok.stk with e | ⟨e,hf⟩
 ·rw[e]; exact I.funs
 ·rw[e]
  obtain⟨m,hn,_⟩:=I.loc
  refine .cons (by rw[I.ok.kind]; decide) hf hn ?_ I.funs
  exact Heap.get?_none_of_le (Nat.le_trans I.ok.bsz I.ok.above)
theorem Inv.stkSub (I:Inv X pins σ H s):∀ b ∈ frs X.stack,b ∈ X.env.locals::X.fs:=fun b hb=>by
 rcases I.ok.stk with e | ⟨e,hf⟩
 ·rw[e] at hb; exact sH _ hb
 ·rw[e] at hb
  unfold frs at hb
  rw[List.filterMap_cons,hf] at hb
  exact hb
theorem Inv.stkFree (I:Inv X pins σ H s):∀ b ∈ frs X.stack,H b=none:=fun b hb=>by
 rcases sR.mp (I.stkSub b hb) with e | hb
 ·rw[e]; exact I.free
 ·obtain⟨_,o,ho,_⟩:=I.ok.funs.mem hb
  exact I.base.free b o ho (I.ok.frf b hb) fun z=>I.ok.exfs b z hb
theorem Inv.step {g':Array GenState}{d':Drawn}{ch:List Addr} (I:Inv X pins σ H s)
  (hch:∀ b ∈ ch,(b ∈ X.ex∨X.s₀.heap.objs.size<=b)/\b≠X.env.locals/\(∀ x c,X.env.cells.lookup x=some c->c≠b)/\∀ p ∈ X.pn++pins,p.1≠b)
  (keep:∀ b o,b≠X.env.locals->b ∉ X.fs->b ∉ ch->s.heap.get? b=some o->H b=none->h'.get? b=some o)
  (slot:∀ b o,b≠X.env.locals->b ∈ X.fs->b ∉ ch->s.heap.get? b=some o->H b=none->∃ sl,h'.get? b=some { o with slots:=sl }) (free:∀ b o,b ∉ ch->s.heap.get? b=some o->H b=none->H' b=none)
  (there:∀ b o,b ∉ ch->s.heap.get? b=some o->∃ o',h'.get? b=some o')
  (tups:∀ b xs,H b=some (.tup xs)->H' b=some (.tup xs)) (frzs:∀ b o u,H b=some (.frz o u)->H' b=some (.frz o u)) (tbls:∀ b ps,H b=some (.tbl ps)->∃ more,H' b=some (.tbl (ps++more)))
  (ns:∀ m,s.heap.Ns X.env.locals m->h'.Ns X.env.locals m) (hok:HOk X.prog X.w H' h') (hg:AllBare g') :
  Inv X pins σ H' { s with heap:=h',gens:=g',drawn:=d',toks:=t' }:=by
 have neL:∀ b o,X.s₀.heap.get? b=some o->b≠X.env.locals:=fun b o e=>Nat.ne_of_lt (Nat.lt_of_lt_of_le (Heap.lt_size e) I.ok.above)
 have neC:∀ b o,X.s₀.heap.get? b=some o->b ∉ X.ex->b ∉ ch:=fun b o e hx hb=>by
  rcases (hch b hb).1 with z | z
  ·exact hx z
  ·exact absurd (Nat.lt_of_lt_of_le (Heap.lt_size e) z) (Nat.lt_irrefl _)
 have cellK:∀ x c,X.env.cells.lookup x=some c->∀ v,s.heap.IsCell c v->h'.IsCell c v:=fun x c e v ⟨o,ho,hd⟩=>by
  have nch:c ∉ ch:=fun z=>(hch c z).2.2.1 x c e rfl
  by_cases hc:c ∈ X.fs
  ·obtain⟨sl,q⟩:=slot c o (I.cne x c e) hc nch ho (I.freeC x c e)
   exact⟨_,q,hd⟩
  ·exact⟨o,keep c o (I.cne x c e) hc nch ho (I.freeC x c e),hd⟩
 refine⟨I.ok,I.os,hg,⟨fun b o e n hb hx=>?_,fun b o e n hb hx=>?_,fun b o e n hx=>?_,fun b o e hx=>?_,fun b xs e=>tups b xs (I.base.tups b xs e),fun b o xs e=>frzs b o xs (I.base.frzs b o xs e),fun b ps e=>?_⟩,?_,fun x c e=>?_,?_,fun x c e=>?_,fun p hp=>?_,hok,I.len⟩
 ·exact keep b o (neL b o e) hb (neC b o e hx) (I.base.keep b o e n hb hx) (I.base.free b o e n hx)
 ·obtain⟨sl,e1⟩:=I.base.slot b o e n hb hx
  obtain⟨sl',e2⟩:=slot b _ (neL b o e) hb (neC b o e hx) e1 (I.base.free b o e n hx)
  exact⟨sl',e2⟩
 ·obtain⟨o',e1⟩:=I.base.there b o e hx
  exact free b o' (neC b o e hx) e1 (I.base.free b o e n hx)
 ·obtain⟨o',e1⟩:=I.base.there b o e hx
  exact there b o' (neC b o e hx) e1
 ·obtain⟨m1,e1⟩:=I.base.tbls b ps e
  obtain⟨m2,e2⟩:=tbls b _ e1
  exact⟨m1++m2,by rw[e2,Array.append_assoc]⟩
 ·obtain⟨m,hn,hl⟩:=I.loc
  refine⟨m,ns m hn,fun i x v e1 e2 e3=>?_⟩
  obtain⟨u,r,l⟩:=hl i x v e1 e2 e3
  refine⟨u,r,?_⟩
  rcases l with l | ⟨k,c,e,z⟩
  ·exact .inl l
  ·exact .inr ⟨k,c,e,cellK x c e _ z⟩
 ·obtain⟨v,z⟩:=I.cell x c e
  exact⟨v,cellK x c e v z⟩
 ·obtain⟨m,⟨o,_,_,ho,_⟩,_⟩:=I.loc
  exact free _ o (fun z=>(hch _ z).2.1 rfl) ho I.free
 ·obtain⟨v,o,ho,hd⟩:=I.cell x c e
  exact free c o (fun z=>(hch c z).2.2.1 x c e rfl) ho (I.freeC x c e)
 ·obtain⟨e,n,ne,nf,d⟩:=I.pin p hp
  have nch:p.1 ∉ ch:=fun z=>(hch p.1 z).2.2.2 p hp rfl
  exact⟨keep p.1 p.2 ne nf nch e n,free p.1 p.2 nch e n,ne,nf,d⟩
theorem Inv.un (I:Inv X pins σ H s) (u:Un X.fs [] H H' s.heap h') (hok:HOk X.prog X.w H' h'):Inv X pins σ H' { s with heap:=h',toks:=t' }:=by
 obtain⟨m,⟨o,es,ep,ho,r⟩,_⟩:=id I.loc
 obtain⟨sl,hL⟩:=u.any ho I.free (by simp)
 exact I.step (g':=s.gens) (d':=s.drawn) (ch:=[]) (fun _ z=>nomatch z) (fun b o _ hb _ e n=>u.keep b o e n hb (by simp)) (fun b o _ hb _ e n=>u.slot b o e n hb (by simp)) (fun b o _ e n=>u.free b o e n (by simp)) (fun b o _ e=>u.there b o e (by simp)) u.tups u.frzs u.tbls (fun m' hm=>by
  obtain⟨o',es',ep',ho',r'⟩:=hm
  rw[ho] at ho'; cases ho'
  exact⟨_,es',ep',hL,r'⟩) hok I.bare
theorem Inv.call {g':Array GenState}{d':Drawn}{ch:List Addr} (I:Inv X pins σ H s) (u:Un (frs X.stack) ch H H' s.heap h') (hok:HOk X.prog X.w H' h') (hg:AllBare g')
  (hch:∀ b ∈ ch,(b ∈ X.ex∨X.s₀.heap.objs.size<=b)/\b≠X.env.locals/\(∀ x c,X.env.cells.lookup x=some c->c≠b)/\∀ p ∈ X.pn++pins,p.1≠b) :
  Inv X pins σ H' { s with heap:=h',gens:=g',drawn:=d',toks:=t' }:=by
 obtain⟨m,⟨o,es,ep,ho,r⟩,_⟩:=id I.loc
 obtain⟨sl,hL⟩:=u.any ho I.free fun z=>(hch _ z).2.1 rfl
 exact I.step (ch:=ch) hch (fun b o hL hb hc e n=>u.keep b o e n (fun z=>(sR.mp (I.stkSub b z)).elim hL hb) hc) (fun b o _ _ hc e n=>u.any e n hc) (fun b o hc e n=>u.free b o e n hc) (fun b o hc e=>u.there b o e hc) u.tups u.frzs u.tbls (fun m' hm=>by
  obtain⟨o',es',ep',ho',r'⟩:=hm
  rw[ho] at ho'; cases ho'
  exact⟨_,es',ep',hL,r'⟩) hok hg
theorem Inv.turned {it:Addr} (I:Inv X pins σ H s) (k:∀ b o,b≠it->s.heap.get? b=some o->h'.get? b=some o) (hn:H it=none) (hL:it≠X.env.locals)
  (h1:it ∈ X.ex∨X.s₀.heap.objs.size<=it) (h2:∀ x c,X.env.cells.lookup x=some c->c≠it) (h3:∀ p ∈ X.pn++pins,p.1≠it):Inv X pins σ H { s with heap:=h',toks:=t' }:=by
 have nit:∀ b u,H b=some u->b≠it:=fun b u e z=>by rw[z,hn] at e; cases e
 refine I.step (g':=s.gens) (d':=s.drawn) (ch:=[it]) (fun b hb=>?_) (fun b o _ _ hc e _=>k b o (fun z=>hc (by simp[z])) e) (fun b o _ _ hc e _=>⟨o.slots,k b o (fun z=>hc (by simp[z])) e⟩) (fun _ _ _ _ n=>n)
  (fun b o hc e=>⟨o,k b o (fun z=>hc (by simp[z])) e⟩) (fun _ _ e=>e) (fun _ _ _ e=>e) (fun b ps e=>⟨#[],by rw[e]; simp⟩) (fun m hm=>?_) (fun b u e=>?_) I.bare
 ·have e:b=it:=by simpa using hb
  subst e
  exact⟨h1,hL,h2,h3⟩
 ·obtain⟨o,es,ep,ho,r⟩:=hm
  exact⟨o,es,ep,k _ o (Ne.symm hL) ho,r⟩
 ·refine(I.hok b u e).stay (fun c v hc q=>k c v ?_ q) (fun _ q=>q) fun _ _ q=>q
  rcases hc with z | z
  ·rw[z]; exact nit b u e
  ·exact nit c _ z
theorem Inv.tok (I:Inv X pins σ H s) (t:Nat):Inv X pins σ H { s with toks:=t }:=I.un (h':=s.heap) (t':=t) Un.refl I.hok
theorem Inv.kept (I:Inv X pins σ H s) (k:∀ b u,s.heap.get? b=some u->h'.get? b=some u):Inv X pins σ H { s with heap:=h',toks:=t' }:=I.un (Un.kept k) (I.hok.kept k)
theorem Inv.laid {a:Addr}{o:HO} (I:Inv X pins σ H s) (k:∀ b u,s.heap.get? b=some u->h'.get? b=some u) (hp:s.heap.objs.size<=a) (new:ObjOk X.prog X.w (upd H a o) h' a o) :
  Inv X pins σ (upd H a o) { s with heap:=h',toks:=t' }:=I.un (Un.laid k hp (I.hok.fresh hp)) (I.hok.laid k hp new)
theorem Inv.write {x e:Addr}{o:HO} (I:Inv X pins σ H s) (mu:Mut (H x)) (he:e=x∨H e=some (.own x)) (k:∀ b u,b≠e->s.heap.get? b=some u->h'.get? b=some u) (heo:∃ u,h'.get? e=some u)
  (new:ObjOk X.prog X.w (upd H x o) h' x o):Inv X pins σ (upd H x o) { s with heap:=h',toks:=t' }:=I.un (Un.write mu he k heo) (I.hok.write mu he k heo new)
theorem Inv.weak {σ':List (Option V)} (I:Inv X pins σ H s) (hl:σ'.length=σ.length) (w:∀ (i:Nat) v,σ'[i]?=some (some v)->σ[i]?=some (some v)):Inv X pins σ' H s :=
 ⟨I.ok,I.os,I.bare,I.base,let ⟨m,hn,hl'⟩:=I.loc; ⟨m,hn,fun i x v e1 e2 e3=>hl' i x v e1 (w i v e2) e3⟩,I.cell,I.free,I.freeC,I.pin,I.hok,hl.trans I.len⟩
theorem Inv.pins_of {pins':List (Addr×Obj)} (I:Inv X pins σ H s) (h:∀ p ∈ pins',s.heap.get? p.1=some p.2/\H p.1=none/\p.1≠X.env.locals/\p.1 ∉ X.fs/\∀ v,p.2.data≠.cell v):Inv X pins' σ H s :=
 ⟨I.ok,I.os,I.bare,I.base,I.loc,I.cell,I.free,I.freeC,fun p hp=>(sY.mp hp).elim (fun z=>I.pin p (sV _ z)) (h p),I.hok,I.len⟩
theorem fS {N:List Str} (hN:N.Nodup) {i j:Nat}{x:Str} (a:N[i]?=some x) (b:N[j]?=some x):i=j:=by
 obtain⟨h1,e1⟩:=List.getElem?_eq_some_iff.mp a
 obtain⟨h2,e2⟩:=List.getElem?_eq_some_iff.mp b
 exact(List.getElem_inj hN).mp (e1.trans e2.symm)
theorem lh {M:Model}{i:Nat}{x:Str}{v:V}{Q:Unit->Shared->Prop} (I:Inv X pins σ H s) (hN:X.N.Nodup) (hi:X.N[i]?=some x) (hx:Loc X.env.scope x) (r:RelV v u)
  (h:∀ s',Inv X pins (σ.set i (some v)) H s'->(∃ a,Heap.SameBut a s.heap s'.heap/\(a=X.env.locals∨X.env.cells.lookup x=some a))->Q () s') (hf:X.fn x=true∨X.env.scope.names.lookup x=some .local:=by first | exact .inl rfl | exact .inr rfl | assumption):wpAny M A (storeName X.env x u) Q E s:=by
 obtain⟨m,hn,hl⟩:=id I.loc
 have hcls:(X.env.scope.kind == .class || (X.env.scope.kind == .module && X.env.locals != X.env.globals)) = false:=by rw [I.ok.kind]; rfl
 have hiσ:i<σ.length:=by rw[I.len]; exact(List.getElem?_eq_some_iff.mp hi).1
 have cne:=I.cne
 have tracked:∀ {a:Addr}{h':Heap},(∃ o,s.heap.get? a=some o/\H a=none)->Heap.SameBut a s.heap h'->HOk X.prog X.w H h':=fun {a h'} ha hs b ob e=>by
  obtain⟨_,_,hfree⟩:=ha
  refine(I.hok b ob e).stay (fun c w' hc q=>(hs.2 c ?_).trans q) (fun _ q=>q) fun _ _ q=>q
  rintro rfl
  rcases hc with rfl | hc
  ·rw[hfree] at e; cases e
  ·rw[hfree] at hc; cases hc
 rcases hx with hk | hk
 ·refine wpAny_storeName_local hk hn (fun h' hn' hs=>?_) hcls
  obtain⟨oL,_,_,hoL,_⟩:=id hn
  refine h _ ⟨I.ok,I.os,I.bare,⟨fun b o e n hb hx=>?_,fun b o e n hb hx=>?_,I.base.free,fun b o e hx=>?_,I.base.tups,I.base.frzs,I.base.tbls⟩,⟨_,hn',fun j y v' e1 e2 e3=>?_⟩,fun y c e=>?_,I.free,I.freeC,fun p hp=>?_,tracked ⟨oL,hoL,I.free⟩ hs,by simpa using I.len⟩ ⟨_,hs,.inl rfl⟩
  ·exact(hs.2 b (Nat.ne_of_lt (Nat.lt_of_lt_of_le (Heap.lt_size e) I.ok.above))).trans (I.base.keep b o e n hb hx)
  ·obtain⟨sl,e1⟩:=I.base.slot b o e n hb hx
   exact⟨sl,(hs.2 b (Nat.ne_of_lt (Nat.lt_of_lt_of_le (Heap.lt_size e) I.ok.above))).trans e1⟩
  ·obtain⟨o',e1⟩:=I.base.there b o e hx
   exact⟨o',(hs.2 b (Nat.ne_of_lt (Nat.lt_of_lt_of_le (Heap.lt_size e) I.ok.above))).trans e1⟩
  ·by_cases hj:j=i
   ·subst hj
    rw[hi] at e1; cases e1
    rw[List.getElem?_set_self hiσ] at e2
    cases e2
    exact⟨u,r,.inl ⟨hk,by simp⟩⟩
   ·rw[List.getElem?_set_ne (Ne.symm hj)] at e2
    obtain⟨u',r',q⟩:=hl j y v' e1 e2 e3
    refine⟨u',r',?_⟩
    rcases q with ⟨k,e⟩ | ⟨k,c,e,z⟩
    ·refine .inl ⟨k,?_⟩
     have:y≠x:=fun e=>hj (fS hN e1 (e ▸ hi))
     simp[this,e]
    ·exact .inr ⟨k,c,e,z.sameBut hs (cne y c e)⟩
  ·obtain⟨w',z⟩:=I.cell y c e
   exact⟨w',z.sameBut hs (cne y c e)⟩
  ·obtain⟨e,n,ne,nf,d⟩:=I.pin p hp
   exact⟨(hs.2 p.1 ne).trans e,n,ne,nf,d⟩
 ·have hfn:X.fn x=true:=by
   rcases hf with z | z
   ·exact z
   ·rw[z] at hk; cases hk
  obtain⟨c,hc⟩:=I.ok.has x (.inl hk)
  obtain⟨w',z⟩:=I.cell x c hc
  refine wpAny_storeName_cell I.ok.kind hk hc z (fun h' hc' hs=>?_)
  obtain⟨oc,hoc,hocd⟩:=id z
  refine h { s with heap:=h' } ⟨I.ok,I.os,I.bare,⟨fun b o e n hb hx=>?_,fun b o e n hb hx=>?_,I.base.free,fun b o e hx=>?_,I.base.tups,I.base.frzs,I.base.tbls⟩,⟨m,hn.sameBut hs (Ne.symm (cne x c hc)),fun j y v' e1 e2 e3=>?_⟩,fun y c' e=>?_,I.free,I.freeC,fun p hp=>?_,tracked ⟨oc,hoc,I.freeC x c hc⟩ hs,by simpa using I.len⟩ ⟨c,hs,.inr hc⟩
  ·exact(hs.2 b (Nat.ne_of_lt (Nat.lt_of_lt_of_le (Heap.lt_size e) (I.ok.cab x c hfn hc)))).trans (I.base.keep b o e n hb hx)
  ·obtain⟨sl,e1⟩:=I.base.slot b o e n hb hx
   exact⟨sl,(hs.2 b (Nat.ne_of_lt (Nat.lt_of_lt_of_le (Heap.lt_size e) (I.ok.cab x c hfn hc)))).trans e1⟩
  ·obtain⟨o',e1⟩:=I.base.there b o e hx
   exact⟨o',(hs.2 b (Nat.ne_of_lt (Nat.lt_of_lt_of_le (Heap.lt_size e) (I.ok.cab x c hfn hc)))).trans e1⟩
  ·by_cases hj:j=i
   ·subst hj
    rw[hi] at e1; cases e1
    rw[List.getElem?_set_self hiσ] at e2
    cases e2
    exact⟨u,r,.inr ⟨.inl hk,c,hc,hc'⟩⟩
   ·rw[List.getElem?_set_ne (Ne.symm hj)] at e2
    obtain⟨u',r',q⟩:=hl j y v' e1 e2 e3
    refine⟨u',r',?_⟩
    rcases q with q | ⟨k,c',e,z'⟩
    ·exact .inl q
    ·refine .inr ⟨k,c',e,z'.sameBut hs ?_⟩
     rintro rfl
     exact hj (fS hN e1 (I.ok.inj _ _ _ e hc ▸ hi))
  ·by_cases hcc:c'=c
   ·subst hcc; exact⟨_,hc'⟩
   ·obtain⟨w2,z2⟩:=I.cell y c' e
    exact⟨w2,z2.sameBut hs hcc⟩
  ·obtain⟨e,n,ne,nf,d⟩:=I.pin p hp
   refine⟨(hs.2 p.1 ?_).trans e,n,ne,nf,d⟩
   intro q
   rw[q,hoc] at e
   have q':oc=p.2:=Option.some.inj e
   exact d w' (by rw[<- q']; exact hocd)
theorem fH {M:Model}{i:Nat}{x:Str}{v:V}{Q:Unit->Shared->Prop} (I:Inv X pins σ H s) (hN:X.N.Nodup) (hi:X.N[i]?=some x) (hx:Loc X.env.scope x) (r:RelV v u)
  (h:∀ s',Inv X pins (σ.set i (some v)) H s'->Q () s') (hf:X.fn x=true∨X.env.scope.names.lookup x=some .local:=by first | exact .inl rfl | exact .inr rfl | assumption):wpAny M A (storeName X.env x u) Q E s :=
 lh I hN hi hx r (fun s' I' _=>h s' I') hf
theorem Inv.call' {s':Shared}{ch:List Addr} (I:Inv X pins σ H s) (ho:s'.os=s.os) (u:Un (frs X.stack) ch H H' s.heap s'.heap) (hok:HOk X.prog X.w H' s'.heap) (hg:AllBare s'.gens)
  (hch:∀ b ∈ ch,(b ∈ X.ex∨X.s₀.heap.objs.size<=b)/\b≠X.env.locals/\(∀ x c,X.env.cells.lookup x=some c->c≠b)/\∀ p ∈ X.pn++pins,p.1≠b):Inv X pins σ H' s':=by
 obtain⟨h',g',d',t',o'⟩:=s'
 have e:o'=s.os:=ho
 subst e
 exact I.call (g':=g') (t':=t') (d':=d') u hok hg hch
end
noncomputable abbrev XK:=Value->Option Addr->Hp->Prop
noncomputable abbrev St:=List (Option V)
noncomputable abbrev VK:=V->Hp->Prop
noncomputable abbrev TE:=St->Hp->VK->Prop
noncomputable abbrev TT:=St->Hp->(Bool->Hp->Prop)->Prop
noncomputable abbrev TA:=St->Hp->(List V->Hp->Prop)->Prop
structure Ends where
 nx:St->Hp->Prop
 rt:VK
 bk:St->Hp->Prop:=fun _ _=>False
 ct:St->Hp->Prop:=fun _ _=>False
noncomputable abbrev TS:=Ends->St->Hp->Prop
noncomputable def EP (X:Cx) (pins:List (Addr×Obj)) (σ:St) (Q:VK) (u:Value) (s':Shared):Prop:=∃ v H',Inv X pins σ H' s'/\RelV v u/\Q v H'
noncomputable def TP (X:Cx) (pins:List (Addr×Obj)) (σ:St) (Q:Bool->Hp->Prop) (b:Bool) (s':Shared):Prop:=∃ H',Inv X pins σ H' s'/\Q b H'
noncomputable def AP (X:Cx) (pins:List (Addr×Obj)) (σ:St) (Q:List V->Hp->Prop) (us:List Value) (s':Shared):Prop:=∃ vs H',Inv X pins σ H' s'/\Vals vs us/\Q vs H'
noncomputable def SP (X:Cx) (pins:List (Addr×Obj)) (D:Ends) (f:Flow) (s':Shared):Prop :=
 match f with
 | .next=>∃ σ' H',Inv X pins σ' H' s'/\D.nx σ' H'
 | .brk=>∃ σ' H',Inv X pins σ' H' s'/\D.bk σ' H'
 | .cont=>∃ σ' H',Inv X pins σ' H' s'/\D.ct σ' H'
 | .ret u=>∃ v σ' H',Inv X pins σ' H' s'/\RelV v u/\D.rt v H'
noncomputable def PE (X:Cx) (e:Expr) (t:TE):Prop :=
 ∀ (pins:List (Addr×Obj)) (s:Shared) (σ:St) (H:Hp) (Q:VK),Inv X pins σ H s->t σ H Q->wpAny (model X.prog X.w) X.A (eval e X.env) (EP X pins σ Q) X.xe s
noncomputable def PT (X:Cx) (e:Expr) (t:TT):Prop :=
 ∀ (pins:List (Addr×Obj)) (s:Shared) (σ:St) (H:Hp) (Q:Bool->Hp->Prop),Inv X pins σ H s->t σ H Q->wpAny (model X.prog X.w) X.A (isTrue e X.env (eval e X.env)) (TP X pins σ Q) X.xe s
noncomputable def PW (X:Cx) (e:Expr) (t:TT):Prop :=
 ∀ (whole:Sem Value) (pins:List (Addr×Obj)) (s:Shared) (σ:St) (H:Hp) (Q:Bool->Hp->Prop),Inv X pins σ H s->t σ H Q->wpAny (model X.prog X.w) X.A (isTrue e X.env whole) (TP X pins σ Q) X.xe s
theorem PW.pt {X:Cx}{e:Expr}{t:TT} (h:PW X e t):PT X e t:=h _
noncomputable def PA (X:Cx) (es:List Expr) (t:TA):Prop :=
 ∀ (pos:Pos) (pins:List (Addr×Obj)) (s:Shared) (σ:St) (H:Hp) (Q:List V->Hp->Prop),Inv X pins σ H s->t σ H Q->wpAny (model X.prog X.w) X.A (spliced (backTo pos (starEach es X.env))) (AP X pins σ Q) X.xe s
noncomputable def PS (X:Cx) (st:Stmt) (t:TS):Prop :=
 ∀ (pins:List (Addr×Obj)) (s:Shared) (σ:St) (H:Hp) (D:Ends),Inv X pins σ H s->t D σ H->wpAny (model X.prog X.w) X.A (exec st X.env) (SP X pins D) X.xe s
noncomputable def PSs (X:Cx) (st:List Stmt) (t:TS):Prop :=
 ∀ (pins:List (Addr×Obj)) (s:Shared) (σ:St) (H:Hp) (D:Ends),Inv X pins σ H s->t D σ H->wpAny (model X.prog X.w) X.A (execs st X.env) (SP X pins D) X.xe s
variable{s:Shared}
theorem thn {α:Type}{t:Sem α}{Q Q':α->Shared->Prop}{M:Model} (h:wpAny M A t Q E s) (hQ:∀ a s,Q a s->Q' a s):wpAny M A t Q' E s:=wpAny_mono h hQ fun _ _ x=>x
variable{pins:List (Addr×Obj)}{Q:Value->Shared->Prop}{σ:St}{pos:Pos}
section
variable {X:Cx}
inductive TV_ (i:Nat) (σ:St) (H:Hp) (Q:VK):Prop
 | mk (v:V) (h:σ[i]?=some (some v)) (q:Q v H):TV_ i σ H Q
noncomputable def fF (i:Nat):TE:=fun σ H Q=>TV_ i σ H Q
noncomputable def tC (v:V):TE:=fun _ H Q=>Q v H
theorem qH {i:Nat}{x:Str} (hN:X.N[i]?=some x) (hv:Vis X.env.scope x) (hd:(x == ("__debug__" : Str))=false:=by decide) (hcd:(x == ("__classdict__" : Str))=false:=by decide):PE X (.Name x pos) (fF i):=by
 intro pins s σ H Q I h
 obtain⟨v,e,h⟩:=h
 obtain⟨m,hn,hl⟩:=I.loc
 obtain⟨u,r,l⟩:=hl i x v hN e hv
 have fin:EP X pins σ Q u s:=⟨v,H,I,r,h⟩
 rcases l with ⟨hk,hm⟩ | ⟨hk,c,hc,hcell⟩
 ·exact wpAny_Name (wpAny_loadName_local I.ok.kind hk hn hm fin) hd
 ·rcases hk with hk | hk
  ·exact wpAny_Name (wpAny_loadName_cell I.ok.kind hk hc hcell fin) hd
  ·exact wpAny_Name (wpAny_loadName_free I.ok.kind hk hc hcell fin hcd) hd
theorem ae {i j pos}:PE X (.Constant (.int i) j pos) (tC (.int i)):=fun _ _ _ H _ I h=>wpAny_Constant_int ⟨.int i,H,I.tok _,⟨_,U⟩,h⟩
theorem gQ {b j pos}:PE X (.Constant (.bool b) j pos) (tC (.bl b)):=fun _ _ _ H _ I h=>Constant_bool ⟨.bl b,H,I,U,h⟩
theorem ah {x j pos}:PE X (.Constant (.str x) j pos) (tC (.str x)):=fun _ _ _ H _ I h=>Calls.Constant_str ⟨.str x,H,I.tok _,⟨_,U⟩,h⟩
noncomputable def Gl (X:Cx) (x:Str):Prop:=X.env.kindOf x=some .globalImplicit
theorem cV {x:Str} (I:Inv X pins σ H s) (hg:Gl X x) (hm:X.mg x=some u) (h:Q u s)
  (hd:(x == ("__debug__" : Str))=false:=by decide):wpAny (model X.prog X.w) X.A (eval (.Name x pos) X.env) Q E s :=
 Calls.Name_function_global I.ok.kind hg (Calls.loadGlobal_global (by rw[I.ok.glob]; exact I.mod.glob.keeps I.bk) hm h) hd
theorem dJ {x:Str} (I:Inv X pins σ H s) (hg:Gl X x) (hm:X.mg x=none) (hv:bootBuiltins x=some u) (h:Q u s)
  (hn:x ≠ "__name__":=by decide) (hd:(x == ("__debug__" : Str))=false:=by decide):wpAny (model X.prog X.w) X.A (eval (.Name x pos) X.env) Q E s:=by
 obtain⟨mb,h1,h2⟩:=I.mod.blt
 exact Calls.Name_function_global I.ok.kind hg (Calls.loadGlobal_builtin (by rw[I.ok.glob]; exact I.mod.glob.keeps I.bk) hm (by rw[I.ok.blt]; exact h1.keeps I.bk) ((h2 x hn).trans hv) h) hd
theorem aM {x:Str}{v:V} (hg:Gl X x) (hm:X.mg x=some u) (r:RelV v u) (hd:(x == ("__debug__" : Str))=false:=by decide):PE X (.Name x pos) (tC v) :=
 fun _ _ _ H _ I h=>cV I hg hm ⟨v,H,I,r,h⟩ hd
theorem fi {x:Str}{v:V} (hg:Gl X x) (hm:X.mg x=none) (hv:bootBuiltins x=some u) (r:RelV v u) (hn:x ≠ "__name__":=by decide) (hd:(x == ("__debug__" : Str))=false:=by decide):PE X (.Name x pos) (tC v) :=
 fun _ _ _ H _ I h=>dJ I hg hm hv ⟨v,H,I,r,h⟩ hn hd
variable {a b:Expr}{ta tb:TE}{pos:Pos}
inductive TB_ (Q:Bool->Hp->Prop) (x:V) (H:Hp):Prop
 | mk (k:Bool) (h:x=.bl k) (q:Q k H):TB_ Q x H
noncomputable def tB (t:TE):TT:=fun σ H Q=>t σ H (TB_ Q)
theorem eh {e:Expr}{t:TE} (h:PE X e t) (he:∀ whole,isTrue e X.env whole=(do let v <- whole; standAt e.pos; holding [v] (truthy v)):=by intro _; rfl):PT X e (tB t):=by
 intro pins s σ H Q I hw
 refine isTrue_plain (thn (h pins s σ H _ I hw) fun v s1 ⟨x,H1,I1,r1,q1⟩=>?_) (he _)
 obtain⟨d,rfl,q⟩:=q1
 cases r1
 exact wpAny_truthy_bool ⟨H1,I1,q⟩
variable {tA tB':TT}{rest:List Expr}
noncomputable def tAnd (t u:TT):TT:=fun σ H Q=>t σ H fun c H1=>if c=true then u σ H1 Q else Q false H1
noncomputable def tOr (t u:TT):TT:=fun σ H Q=>t σ H fun c H1=>if c=true then Q true H1 else u σ H1 Q
noncomputable def tNot (t:TT):TT:=fun σ H Q=>t σ H fun c H1=>Q (!c) H1
theorem bM (ha:PT X a tA):PW X (.BoolOp .And [a] pos) tA:=by
 intro wh pins s σ H Q I h
 refine isTrue_and (thn (ha pins s σ H Q I h) fun c s1 e=>?_)
 cases c with
 | true=>exact isTrue_and_nil e
 | false=>exact e
theorem cG (ha:PT X a tA):PW X (.BoolOp .Or [a] pos) tA:=by
 intro wh pins s σ H Q I h
 refine isTrue_or (thn (ha pins s σ H Q I h) fun c s1 e=>?_)
 cases c with
 | false=>exact isTrue_or_nil e
 | true=>exact e
theorem bJ (ha:PT X a tA) (hb:PW X (.BoolOp .And (b::rest) pos) tB'):PW X (.BoolOp .And (a::b::rest) pos) (tAnd tA tB'):=by
 intro wh pins s σ H Q I h
 refine isTrue_and (thn (ha pins s σ H _ I h) fun c s1 ⟨H1,I1,q1⟩=>?_)
 cases c with
 | true=>exact hb wh pins s1 σ H1 Q I1 q1
 | false=>exact⟨H1,I1,q1⟩
theorem dB (ha:PT X a tA) (hb:PW X (.BoolOp .Or (b::rest) pos) tB'):PW X (.BoolOp .Or (a::b::rest) pos) (tOr tA tB'):=by
 intro wh pins s σ H Q I h
 refine isTrue_or (thn (ha pins s σ H _ I h) fun c s1 ⟨H1,I1,q1⟩=>?_)
 cases c with
 | true=>exact⟨H1,I1,q1⟩
 | false=>exact hb wh pins s1 σ H1 Q I1 q1
theorem df (ha:PT X a tA):PT X (.UnaryOp .Not a pos) (tNot tA):=by
 intro pins s σ H Q I h
 exact isTrue_not (ha pins s σ H (fun c H1=>Q (!c) H1) I h)
noncomputable def tAndV (ta tb:TE):TE:=fun σ H Q=>ta σ H fun x H1=>∃ c,x=.bl c/\if c=true then tb σ H1 Q else Q (.bl false) H1
noncomputable def tOrV (ta tb:TE):TE:=fun σ H Q=>ta σ H fun x H1=>∃ c,x=.bl c/\if c=true then Q (.bl true) H1 else tb σ H1 Q
noncomputable def pF (ta:TE):TE:=fun σ H Q=>ta σ H fun x H1=>∃ c,x=.bl c/\Q (.bl (!c)) H1
theorem fQ {op} {t:TE} (h:PE X a t):PE X (.BoolOp op [a] pos) t:=fun pins s σ H Q I hw=>BoolOp_one (h pins s σ H Q I hw)
theorem iC (ha:PE X a ta) (hb:PE X (.BoolOp .And (b::rest) pos) tb):PE X (.BoolOp .And (a::b::rest) pos) (tAndV ta tb):=by
 intro pins s σ H Q I h
 refine BoolOp_and (thn (ha pins s σ H _ I h) fun v s1 ⟨x,H1,I1,r1,q1⟩=>?_)
 obtain⟨c,rfl,q1⟩:=q1
 cases r1
 refine wpAny_truthy_bool ?_
 cases c with
 | true=>exact hb pins s1 σ H1 Q I1 q1
 | false=>exact⟨.bl false,H1,I1,U,q1⟩
theorem pe_or (ha:PE X a ta) (hb:PE X (.BoolOp .Or (b::rest) pos) tb):PE X (.BoolOp .Or (a::b::rest) pos) (tOrV ta tb):=by
 intro pins s σ H Q I h
 refine BoolOp_or (thn (ha pins s σ H _ I h) fun v s1 ⟨x,H1,I1,r1,q1⟩=>?_)
 obtain⟨c,rfl,q1⟩:=q1
 cases r1
 refine wpAny_truthy_bool ?_
 cases c with
 | false=>exact hb pins s1 σ H1 Q I1 q1
 | true=>exact⟨.bl true,H1,I1,U,q1⟩
theorem mS (ha:PE X a ta):PE X (.UnaryOp .Not a pos) (pF ta):=by
 intro pins s σ H Q I h
 refine UnaryOp_ (thn (ha pins s σ H _ I h) fun v s1 ⟨x,H1,I1,r1,q1⟩=>?_)
 obtain⟨c,rfl,q1⟩:=q1
 cases r1
 exact not_of (wpAny_truthy_bool ⟨.bl (!c),H1,I1,U,q1⟩)
end
noncomputable def SqL (K:PySem.W.Frag) (H:Hp) (a:Addr) (xs:List V):Prop :=
 Rd H a (.lst xs) ∨
  ∃ (o:Obj) (its:Array Value) (n:Nat),K.lookup a=some o/\o.cls=.type "list" /\ o.dict=none/\o.data=.seq its n/\its.size<=sizeLine/\Vals xs its.toList
noncomputable def SqT (K:PySem.W.Frag) (H:Hp) (a:Addr) (xs:List V):Prop :=
 Rd H a (.tup xs) ∨
  ∃ (o:Obj) (its:Array Value) (n:Nat),K.lookup a=some o/\o.cls=.type "tuple" /\ o.data=.seq its n/\its.size<=sizeLine/\Vals xs its.toList
noncomputable def absV:Value->Option V
 | .none=>some .non
 | .bool b=>some (.bl b)
 | .int i _=>some (.int i)
 | .str x _=>some (.str x)
 | .bytes b _=>some (.byt b)
 | .float b _=>some (.flt b)
 | .ref a=>some (.ref a)
 | .type n=>some (.ty n)
 | _=>none
theorem RelV.abs {x:V} (r:RelV x u):absV u=some x:=by
 cases x with
 | non=>cases r; rfl
 | bl _=>cases r; rfl
 | int _=>obtain⟨t,rfl⟩:=r; rfl
 | str _=>obtain⟨t,rfl⟩:=r; rfl
 | byt _=>obtain⟨t,rfl⟩:=r; rfl
 | flt _=>obtain⟨t,rfl⟩:=r; rfl
 | ref _=>cases r; rfl
 | ty _=>cases r; rfl
theorem RelV.inj {x y:V} (r:RelV x u) (q:RelV y u):x=y:=Option.some.inj (r.abs.symm.trans q.abs)
theorem Vals.inj {xs ys:List V} (a:Vals xs us) (b:Vals ys us):xs=ys:=by
 induction a generalizing ys with
 | nil=>cases b; rfl
 | cons r t ih=>
  cases b with
  | cons r' t'=>rw[r.inj r',ih t']
variable{K:PySem.W.Frag}
section
variable {X:Cx}{pins:List (Addr×Obj)}{σ:St}{H:Hp}{s:Shared}{a:Addr}{xs ys:List V}
theorem SqL.of (h:H a=some (.lst xs)):SqL K H a xs:=.inl (.inl h)
theorem SqT.of (h:H a=some (.tup xs)):SqT K H a xs:=.inl (.inl h)
theorem Inv.list (I:Inv X pins σ H s) (h:SqL X.K H a xs):∃ its:List Value,Vals xs its/\PlainL s.heap a its.toArray/\xs.length<=sizeLine:=by
 rcases h with h | ⟨o,its,n,hk,hc,hd,hs,hz,r⟩
 ·obtain⟨z,its,n,r,e⟩:=h.ok I.hok
  exact⟨its,r,⟨_,n,e,U,U,U⟩,z⟩
 ·refine⟨its.toList,r,⟨o,n,I.kIn a o hk,hc,hd,by simpa using hs⟩,?_⟩
  have e:=r.length
  simp only[Array.length_toList] at e
  omega
theorem Inv.tuple (I:Inv X pins σ H s) (h:SqT X.K H a xs):∃ its:List Value,Vals xs its/\IsTup s.heap a its.toArray/\xs.length<=sizeLine:=by
 rcases h with h | ⟨o,its,n,hk,hc,hs,hz,r⟩
 ·obtain⟨z,its,r,p⟩:=h.ok I.hok
  exact⟨its,r,p,z⟩
 ·refine⟨its.toList,r,⟨o,I.kIn a o hk,hc,n,by simpa using hs⟩,?_⟩
  have e:=r.length
  simp only[Array.length_toList] at e
  omega
theorem Inv.list_inj (I:Inv X pins σ H s) (h:SqL X.K H a xs) (h':SqL X.K H a ys):xs=ys:=by
 obtain⟨its,r,⟨o,n,e,_,_,d⟩,_⟩:=I.list h
 obtain⟨its',r',⟨o',n',e',_,_,d'⟩,_⟩:=I.list h'
 rw[e] at e'; cases e'
 rw[d] at d'
 injection d' with d1 _
 have:its=its':=by simpa using congrArg Array.toList d1
 subst this
 exact r.inj r'
theorem Inv.tuple_inj (I:Inv X pins σ H s) (h:SqT X.K H a xs) (h':SqT X.K H a ys):xs=ys:=by
 obtain⟨its,r,⟨o,e,_,n,d⟩,_⟩:=I.tuple h
 obtain⟨its',r',⟨o',e',_,n',d'⟩,_⟩:=I.tuple h'
 rw[e] at e'; cases e'
 rw[d] at d'
 injection d' with d1 _
 have:its=its':=by simpa using congrArg Array.toList d1
 subst this
 exact r.inj r'
end
noncomputable abbrev Cx.wish (X:Cx) (E:Value->Shared->Prop):Cx:={ X with xe:=E }
noncomputable abbrev Cx.nox (X:Cx):Cx:=X.wish fun _ _=>False
theorem Cx.Ok.wish {X:Cx} (ok:X.Ok) (E:Value->Shared->Prop):(X.wish E).Ok :=
 ⟨ok.mod,ok.kind,ok.glob,ok.blt,ok.above,ok.inj,ok.has,ok.cab,ok.hd,ok.frames,ok.stk,ok.exf,ok.bs,ok.bsz,ok.noex,ok.exfs,ok.funs,ok.frf⟩
theorem Cx.Ok.unwish {X:Cx} (ok:(X.wish E).Ok):X.Ok :=
 ⟨ok.mod,ok.kind,ok.glob,ok.blt,ok.above,ok.inj,ok.has,ok.cab,ok.hd,ok.frames,ok.stk,ok.exf,ok.bs,ok.bsz,ok.noex,ok.exfs,ok.funs,ok.frf⟩
section
variable {X:Cx}{pins:List (Addr×Obj)}{σ:St}{H:Hp}{s:Shared}{E:Value->Shared->Prop}
theorem Inv.wish (I:Inv X pins σ H s) (E:Value->Shared->Prop):Inv (X.wish E) pins σ H s:=⟨I.ok.wish E,I.os,I.bare,I.base,I.loc,I.cell,I.free,I.freeC,I.pin,I.hok,I.len⟩
theorem Inv.unwish (I:Inv (X.wish E) pins σ H s):Inv X pins σ H s:=⟨I.ok.unwish,I.os,I.bare,I.base,I.loc,I.cell,I.free,I.freeC,I.pin,I.hok,I.len⟩
theorem SP.unwish {D:Ends}{f:Flow}{s':Shared} (h:SP (X.wish E) pins D f s'):SP X pins D f s':=by
 cases f with
 | next=>obtain⟨σ',H',I,q⟩:=h; exact⟨σ',H',I.unwish,q⟩
 | brk=>obtain⟨σ',H',I,q⟩:=h; exact⟨σ',H',I.unwish,q⟩
 | cont=>obtain⟨σ',H',I,q⟩:=h; exact⟨σ',H',I.unwish,q⟩
 | ret u=>obtain⟨v,σ',H',I,r,q⟩:=h; exact⟨v,σ',H',I.unwish,r,q⟩
theorem PSs.nox {st:List Stmt}{t:TS} (h:PSs X.nox st t):PSs X st t:=fun pins s σ H D I hw=>
 wpAny_mono (h pins s σ H D (I.wish _) hw) (fun _ _ q=>q.unwish) fun _ _ z=>False.elim z
end
section
variable {X:Cx}{st:Stmt}{rest:List Stmt}{t u:TS}{e:Expr}{te:TE}{pos:Pos}
noncomputable def pG:TS:=fun D σ H=>D.nx σ H
noncomputable def le (t u:TS):TS:=fun D σ H=>t { D with nx:=u D } σ H
theorem ax:PSs X [] pG:=fun _ _ σ H _ I h=>wpAny_execs_nil ⟨σ,H,I,h⟩
theorem af (h1:PS X st t) (h2:PSs X rest u):PSs X (st::rest) (le t u):=by
 intro pins s σ H D I h
 refine wpAny_execs_cons (thn (h1 pins s σ H { D with nx:=u D } I h) fun f s1 q=>?_)
 cases f with
 | next=>
  obtain⟨σ',H',I',q⟩:=q
  exact h2 pins s1 σ' H' D I' q
 | ret v=>exact q
 | brk=>exact q
 | cont=>exact q
theorem ag (h1:PS X st t):PSs X [st] t:=by
 intro pins s σ H D I h
 refine wpAny_execs_cons (thn (h1 pins s σ H D I h) fun f s1 q=>?_)
 cases f with
 | next=>exact wpAny_execs_nil q
 | ret v=>exact q
 | brk=>exact q
 | cont=>exact q
theorem Inv.quiet (I:Inv X pins σ H s):interactive X.env=false:=by simp[interactive,I.ok.kind]
noncomputable def tDrop (te:TE):TS:=fun D σ H=>te σ H fun _ H1=>D.nx σ H1
theorem aG (he:PE X e te) (hs:swapsWith e none pos.line X.env=pure false:=by rfl):PS X (.Expr e pos) (tDrop te):=by
 intro pins s σ H D I h
 exact wpAny_Expr_any (thn (he pins s σ H _ I h) fun v s1 ⟨x,H1,I1,r1,q1⟩=>⟨σ,H1,I1,q1⟩) I.quiet hs
noncomputable def tRet (te:TE):TS:=fun D σ H=>te σ H D.rt
theorem aJ (he:PE X e te):PS X (.Return (some e) pos) (tRet te):=by
 intro pins s σ H D I h
 exact wpAny_Return_some (thn (he pins s σ H _ I h) fun v s1 ⟨x,H1,I1,r1,q1⟩=>⟨x,σ,H1,I1,r1,q1⟩)
noncomputable def tIfS (c:TT) (t u:TS):TS:=fun D σ H=>c σ H fun b H1=>if b=true then t D σ H1 else u D σ H1
theorem aD {c:Expr}{a b:List Stmt}{tc:TT} (hc:PT X c tc) (ha:PSs X a t) (hb:PSs X b u):PS X (.If c a b pos) (tIfS tc t u):=by
 intro pins s σ H D I h
 refine wpAny_If (thn (hc pins s σ H _ I h) fun d s1 ⟨H1,I1,q1⟩=>?_)
 cases d with
 | true=>exact ha pins s1 σ H1 D I1 q1
 | false=>exact hb pins s1 σ H1 D I1 q1
noncomputable def qi:TS:=fun _ _ _=>False
theorem mJ:PS X st qi:=fun _ _ _ _ _ _ h=>h.elim
end
noncomputable abbrev TG:=V->St->Hp->(St->Hp->Prop)->Prop
noncomputable abbrev TGs:=List V->St->Hp->(St->Hp->Prop)->Prop
noncomputable def PG (X:Cx) (target:Expr) (t:TG):Prop :=
 ∀ (pins:List (Addr×Obj)) (s:Shared) (σ:St) (H:Hp) (v:V) (u:Value) (Q:St->Hp->Prop),Inv X pins σ H s->RelV v u->t v σ H Q ->
  wpAny (model X.prog X.w) X.A (assign target X.env u) (fun _ s'=>∃ σ' H',Inv X pins σ' H' s'/\Q σ' H') X.xe s
noncomputable def PGs (X:Cx) (ts:List Expr) (t:TGs):Prop :=
 ∀ (pins:List (Addr×Obj)) (s:Shared) (σ:St) (H:Hp) (vs:List V) (us:List Value) (Q:St->Hp->Prop),Inv X pins σ H s->Vals vs us->t vs σ H Q ->
  wpAny (model X.prog X.w) X.A (assignInOrder ((assignEach ts X.env).map (·.2)) us) (fun _ s'=>∃ σ' H',Inv X pins σ' H' s'/\Q σ' H') X.xe s
noncomputable abbrev rO:=V->V->V->Hp->(Hp->Prop)->Prop
noncomputable def sD (X:Cx) (t:rO):Prop :=
 ∀ (pins:List (Addr×Obj)) (s:Shared) (σ:St) (H:Hp) (o i v:V) (ov iv u:Value) (Q:Hp->Prop),Inv X pins σ H s->RelV o ov->RelV i iv->RelV v u->t o i v H Q ->
  wpAny (model X.prog X.w) X.A (setItem ov iv u) (fun _ s'=>∃ H',Inv X pins σ H' s'/\Q H') X.xe s
section
variable {X:Cx}{pos:Pos}
noncomputable def jB (i:Nat):TG:=fun v σ H Q=>Q (σ.set i (some v)) H
theorem az {i:Nat}{x:Str} (hN:X.N.Nodup) (hi:X.N[i]?=some x) (hx:Loc X.env.scope x) (hf:X.fn x=true∨X.env.scope.names.lookup x=some .local:=by first | exact .inl rfl | exact .inr rfl | assumption):PG X (.Name x pos) (jB i):=by
 intro pins s σ H v u Q I r h
 exact wpAny_assign_Name (fH I hN hi hx r (fun s' I'=>⟨_,H,I',h⟩) hf)
noncomputable def gNil:TGs:=fun vs σ H Q=>vs=[]/\Q σ H
inductive GC_ (t:TG) (u:TGs) (vs:List V) (σ:St) (H:Hp) (Q:St->Hp->Prop):Prop
 | mk (v:V) (r:List V) (h:vs=v::r) (q:t v σ H fun σ' H'=>u r σ' H' Q):GC_ t u vs σ H Q
noncomputable def gCons (t:TG) (u:TGs):TGs:=fun vs σ H Q=>GC_ t u vs σ H Q
theorem cz:PGs X [] gNil:=by
 intro pins s σ H vs us Q I r h
 obtain⟨e,h⟩:=h
 subst e
 cases r
 exact assignInOrder_nil ⟨σ,H,I,h⟩
theorem aU {e:Expr}{es:List Expr}{t:TG}{u:TGs} (h1:PG X e t) (h2:PGs X es u)
  (hs:(assignEach (e::es) X.env).map (·.2)=assign e X.env::(assignEach es X.env).map (·.2):=by rfl):PGs X (e::es) (gCons t u):=by
 intro pins s σ H vs us Q I r h
 obtain⟨v,vr,e1,h⟩:=h
 subst e1
 cases r with
 | cons r rr=>
  rw[hs]
  refine assignInOrder_cons (thn (h1 pins s σ H _ _ _ I r h) fun _ s1 ⟨σ1,H1,I1,q1⟩=>?_)
  exact h2 pins s1 σ1 H1 _ _ Q I1 rr q1
noncomputable def r8 (K:PySem.W.Frag) (n:Nat) (t:TGs):TG:=fun v σ H Q=>∃ a xs,v=.ref a/\SqT K H a xs/\xs.length=n/\t xs σ H Q
theorem fO {es:List Expr}{k:Nat}{t:TGs}{n:Nat} (hc:X.calm=true) (h:PGs X es t)
  (hn:(assignEach es X.env).length=n:=by rfl) (hst:(assignEach es X.env).findIdx? (·.1)=none:=by rfl):PG X (.Tuple es k pos) (r8 X.K n t):=by
 intro pins s σ H v u Q I r hw
 obtain⟨a,xs,e1,hq,hl,hw⟩:=hw
 subst e1
 cases r
 obtain⟨its,rv,ht,hz⟩:=I.tuple hq
 refine assign_Tuple_tuple (I.ok.hd hc) ht (by simp[hn,<- hl,rv.length]) hst fun h' hx=>?_
 have I1:Inv X pins σ H { s with heap:=h' }:=I.kept (t':=s.toks) fun b o e=>hx b o (Nat.ne_of_lt (Heap.lt_size e)) e
 exact h pins _ σ H xs _ Q I1 (by simpa using rv) hw
noncomputable def gSub (to ti:TE) (t:rO):TG:=fun v σ H Q=>to σ H fun o H1=>ti σ H1 fun i H2=>t o i v H2 fun H3=>Q σ H3
theorem cH {o i:Expr}{to ti:TE}{t:rO} (ho:PE X o to) (hi:PE X i ti) (hs:sD X t)
  (ha:∀ v,assign (.Subscript o i pos) X.env v=(do
   let ov <- holding [v] (eval o X.env)
   let iv <- holding [v,ov] (eval i X.env)
   standAt pos
   holding [v,ov,iv] (setItem ov iv v)
   release [v,ov,iv] []):=by intro _; rfl):PG X (.Subscript o i pos) (gSub to ti t):=by
 intro pins s σ H v u Q I r h
 rw[ha]
 refine wpAny_bind (wpAny_holding (thn (ho pins s σ H _ I h) fun ov s1 ⟨x,H1,I1,r1,q1⟩=>?_))
 refine wpAny_bind (wpAny_holding (thn (hi pins s1 σ H1 _ I1 q1) fun iv s2 ⟨y,H2,I2,r2,q2⟩=>?_))
 refine wpAny_bind (wpAny_standAt (wpAny_bind (wpAny_holding (thn (hs pins s2 σ H2 x y v ov iv u _ I2 r1 r2 r q2) fun _ s3 ⟨H3,I3,q3⟩=>?_))))
 exact wpAny_release ⟨σ,H3,I3,q3⟩
noncomputable def ma (te:TE) (g:TG):TS:=fun D σ H=>te σ H fun x H1=>g x σ H1 D.nx
theorem bT {tg e:Expr}{te:TE}{g:TG} (he:PE X e te) (hg:PG X tg g) (hs:swapsWithSole [tg] e pos.line X.env=pure false:=by rfl) (hw:swappedStores [tg] e X.env=pure none:=by rfl)
  (h1:(assignEach [tg] X.env).map (·.2)=[assign tg X.env]:=by rfl):PS X (.Assign [tg] e pos) (ma te g):=by
 intro pins s σ H D I h
 refine wpAny_Assign_stores (thn (he pins s σ H _ I h) fun v s1 ⟨x,H1,I1,r1,q1⟩=>?_) hs hw
 rw[h1]
 exact thn (hg pins s1 σ H1 x v _ I1 r1 q1) fun _ s2 q=>q
theorem aC {i:Nat}{x:Str}{e:Expr}{te:TE}{pos':Pos} (hN:X.N.Nodup) (hi:X.N[i]?=some x) (hx:Loc X.env.scope x) (he:PE X e te) (hs:swapsWith e (some (.Name x pos')) pos.line X.env=pure false:=by rfl) (hf:X.fn x=true∨X.env.scope.names.lookup x=some .local:=by first | exact .inl rfl | exact .inr rfl | assumption) :
  PS X (.Assign [.Name x pos'] e pos) (ma te (jB i)):=by
 intro pins s σ H D I h
 refine wpAny_Assign_Name (thn (he pins s σ H _ I h) fun v s1 ⟨y,H1,I1,r1,q1⟩=>?_) hs
 exact fH I1 hN hi hx r1 (fun s2 I2=>⟨_,H1,I2,q1⟩) hf
end
section
variable {X:Cx}{pos:Pos}
noncomputable def l8 (c:TT) (tb:TS):TS:=fun D σ H=>∃ W:Nat->St->Hp->Prop,(∃ m,W m σ H)/\∀ m σ H,W m σ H ->
 c σ H fun b H1=>if b=true then ∃ N:St->Hp->Prop,(∀ σ' H',N σ' H'->∃ m',m'<m/\W m' σ' H')/\tb { D with nx:=N,ct:=N,bk:=D.nx } σ H1 else D.nx σ H1
theorem mH {c:Expr}{body:List Stmt}{tc:TT}{tb:TS} (hp:PassesOwn (model X.prog X.w) X.A X.env X.xe) (hc:PT X c tc) (hb:PSs X body tb):PS X (.While c body [] pos) (l8 tc tb):=by
 intro pins s σ H D I h
 obtain⟨W,⟨m0,w0⟩,turn⟩:=h
 refine wpAny_While (codeAny_whileLoop (fun n s'=>∃ σ' H',Inv X pins σ' H' s'/\W n σ' H') ?_ m0 ⟨σ,H,I,w0⟩)
 rintro n s1 ⟨σ1,H1,I1,w1⟩
 refine wpAny_passesOwn hp (thn (hc pins s1 σ1 H1 _ I1 (turn n σ1 H1 w1)) fun b s2 ⟨H2,I2,q2⟩=>?_)
 cases b with
 | true=>
  obtain⟨N,hN,q2⟩:=q2
  rw[if_pos rfl]
  refine wpAny_passesOwn hp (thn (hb pins s2 σ1 H2 _ I2 q2) fun f s3 q3=>?_)
  cases f with
  | next=>
   obtain⟨σ3,H3,I3,n3⟩:=q3
   obtain⟨m',hm,w3⟩:=hN σ3 H3 n3
   exact⟨m',hm,σ3,H3,I3,w3⟩
  | cont=>
   obtain⟨σ3,H3,I3,n3⟩:=q3
   obtain⟨m',hm,w3⟩:=hN σ3 H3 n3
   exact⟨m',hm,σ3,H3,I3,w3⟩
  | brk=>exact q3
  | ret v=>exact q3
 | false=>
  rw[if_neg Bool.false_ne_true]
  exact wpAny_execs_nil ⟨σ1,H2,I2,q2⟩
end
structure It where
 go:Nat->Hp->Prop
 yld:Nat->Hp->V->Hp->Prop
 stop:Nat->Hp->Prop
noncomputable def cJ (X:Cx) (pins:List (Addr×Obj)) (H:Hp) (b:Addr):Prop :=
 H b=none/\b≠X.env.locals/\b ∉ X.fs/\(b ∈ X.ex∨X.s₀.heap.objs.size<=b)/\(∀ x c,X.env.cells.lookup x=some c->c≠b)/\∀ p ∈ X.pn++pins,p.1≠b
theorem Inv.fpOk {X:Cx}{H H':Hp}{b:Addr} (I:Inv X pins σ H s) (hb:s.heap.objs.size<=b) (hn:H' b=none):cJ X pins H' b:=by
 refine⟨hn,Nat.ne_of_gt (Nat.lt_of_lt_of_le I.lt hb),I.nofs hb,.inr (Nat.le_trans I.sz hb),fun x c e z=>?_,fun p hp z=>?_⟩
 ·obtain⟨v,q⟩:=I.cell x c e
  exact absurd (Nat.lt_of_lt_of_le q.lt (by rw[z]; exact hb)) (Nat.lt_irrefl _)
 ·exact absurd (Nat.lt_of_lt_of_le (Heap.lt_size (I.pin p hp).1) (by rw[z]; exact hb)) (Nat.lt_irrefl _)
structure Turn (P:Program) (w:World) (K:PySem.W.Frag) (tg:Expr) (J:It) (fp:List Addr) (it:Addr) (tn:Nat->Heap->Prop):Prop where
 mem:it ∈ fp
 obj:∀ i h,tn i h->∀ b ∈ fp,∃ o,h.get? b=some o/\∀ v,o.data≠.cell v
 keep:∀ i h h',tn i h->(∀ b ∈ fp,∀ o,h.get? b=some o->h'.get? b=some o)->tn i h'
 item:∀ (X:Cx),X.prog=P->X.w=w->X.K=K->X.calm=true->∀ (i:Nat) (pins:List (Addr×Obj)) (s:Shared) (σ:St) (H:Hp) (E:Value->Shared->Prop),Inv X pins σ H s->(∀ b ∈ fp,cJ X pins H b)->tn i s.heap->J.go i H ->
  wpAny (model P w) X.A (pyNext (.ref it)) (fun r s1=>∃ u,r=some u /\
   wpAny (model P w) X.A (letOwnedTupleGo tg (.ref it) u) (fun _ s2=>∃ x H',Inv X pins σ H' s2/\RelV x u/\J.yld i H x H'/\tn (i+1) s2.heap/\∀ b ∈ fp,H' b=none) E s1) E s
 done:∀ (X:Cx),X.prog=P->X.w=w->X.K=K->X.calm=true->∀ (i:Nat) (pins:List (Addr×Obj)) (s:Shared) (σ:St) (H:Hp) (E:Value->Shared->Prop),Inv X pins σ H s->(∀ b ∈ fp,cJ X pins H b)->tn i s.heap->J.stop i H ->
  wpAny (model P w) X.A (pyNext (.ref it)) (fun r s1=>r=none/\Inv X pins σ H s1) E s
 self:∀ (A:Around) (i:Nat) (s:Shared) (Q:Value->Shared->Prop) (E:Value->Shared->Prop),tn i s.heap->Q (.ref it) s->wpAny (model P w) A (pyIter (.ref it)) Q E s
noncomputable abbrev TI:=St->Hp->(It->Hp->Prop)->Prop
noncomputable def PIE (X:Cx) (pins:List (Addr×Obj)) (σ:St) (tg:Expr) (R:It->Hp->Prop) (itv:Value) (s2:Shared):Prop :=
 ∃ (it:Addr) (fp:List Addr) (tn:Nat->Heap->Prop) (J:It) (H':Hp),itv=.ref it/\Inv X pins σ H' s2/\Turn X.prog X.w X.K tg J fp it tn/\tn 0 s2.heap/\(∀ b ∈ fp,cJ X pins H' b)/\R J H'
noncomputable def PI (X:Cx) (tg iter:Expr) (wi:TI):Prop :=
 ∀ (pins:List (Addr×Obj)) (s:Shared) (σ:St) (H:Hp) (R:It->Hp->Prop),Inv X pins σ H s->wi σ H R ->
  wpAny (model X.prog X.w) X.A (eval iter X.env) (fun v s1=>wpAny (model X.prog X.w) X.A (pyIter v) (PIE X pins σ tg R) X.xe s1) X.xe s
theorem kS {M : Model}{A : Around}{E : Value->Shared->Prop}{s : Shared}{tg : Expr}{it : Addr}{u : Value}{o : Obj}{n : String}{vs : Array Value}{Q : Unit->Shared->Prop} (ho : s.heap.get? it=some o) (hc : o.cls=.type n) (hd : o.data=.fields vs)
    (hn : ["enumerate", "zip", "dict_itemiterator", "dict_reverseitemiterator", "odict_iterator", "itertools.zip_longest", "itertools.pairwise"].contains n=false) (hQ : Q () s) : wpAny M A (letOwnedTupleGo tg (.ref it) u) Q E s := by
  unfold letOwnedTupleGo
  cases tg <;> first
    | exact wpAny_pure hQ
    | (cases u <;> first
        | exact wpAny_pure hQ
        | (refine wpAny_bind (wpAny_load ho ?_)
           rw[hc, hd]
           show wpAny M A (if (["enumerate", "zip", "dict_itemiterator", "dict_reverseitemiterator", "odict_iterator", "itertools.zip_longest", "itertools.pairwise"].contains n && vs[0]? == some (rawInt _))=true then _ else _) Q E s
           rw[if_neg (by intro h; rw[hn, Bool.false_and] at h; cases h)]
           exact wpAny_pure hQ))
noncomputable def Itl (K:PySem.W.Frag) (a:Addr):It :=
 ⟨fun i H=>∃ xs x,SqL K H a xs/\xs[i]?=some x,fun i H x H'=>H'=H/\∀ xs,SqL K H a xs->xs[i]?=some x,fun i H=>∃ xs,SqL K H a xs/\xs.length<=i⟩
noncomputable def Itt (K:PySem.W.Frag) (a:Addr):It :=
 ⟨fun i H=>∃ xs x,SqT K H a xs/\xs[i]?=some x,fun i H x H'=>H'=H/\∀ xs,SqT K H a xs->xs[i]?=some x,fun i H=>∃ xs,SqT K H a xs/\xs.length<=i⟩
noncomputable def Itr (lo:Int) (n:Nat):It:=⟨fun i _=>i<n,fun i H x H'=>H'=H/\x=.int (lo+i),fun i _=>n<=i⟩
theorem gM {w:World}{tg:Expr} (a it:Addr):Turn P w K tg (Itl K a) [it] it (fun i h=>h.IsListIter it a i) where
 mem:=by simp
 obj:=fun i h st b hb=>by
  have e:b=it:=by simpa using hb
  subst e
  obtain⟨o,e,c,d⟩:=st
  exact⟨o,e,fun v z=>by rw[d] at z; cases z⟩
 keep:=fun i h h' st k=>st.at fun o e=>k it (by simp) o e
 item:=by
  intro X hP hw hK hc i pins s σ H E I hf st hg
  subst hP hw hK
  obtain⟨xs,x,hq,hx⟩:=hg
  obtain⟨its,rv,p,hz⟩:=I.list hq
  obtain⟨u,hu,ru⟩:=rv.get hx
  obtain⟨f0,f1,f2,f3,f4,f5⟩:=hf it (by simp)
  refine wpAny_pyNext_list_item st p.isList (x:=u) (by simpa using hu) fun h' st' sb=>?_
  have I1:Inv X pins σ H { s with heap:=h' }:=I.turned (t':=s.toks) (fun b o hb e=>(sb.2 b hb).trans e) f0 f1 f3 f4 f5
  obtain⟨o,e,c,d⟩:=id st'
  exact⟨u,U,kS (s:={ s with heap:=h' }) e c d (by decide) ⟨x,H,I1,ru,⟨U,fun ys hy=>by rw[I.list_inj hy hq]; exact hx⟩,st',fun b hb=>(hf b hb).1⟩⟩
 done:=by
  intro X hP hw hK hc i pins s σ H E I hf st hg
  subst hP hw hK
  obtain⟨xs,hq,hx⟩:=hg
  obtain⟨its,rv,p,hz⟩:=I.list hq
  obtain⟨f0,f1,f2,f3,f4,f5⟩:=hf it (by simp)
  have hl:=rv.length
  exact wpAny_pyNext_list_end (I.ok.hd hc) st p.isList (by simp; omega) fun h' eb=>⟨U,I.turned (t':=s.toks) (fun b o hb e=>eb b o hb e) f0 f1 f3 f4 f5⟩
 self:=fun _ _ _ _ _ st h=>wpAny_pyIter_listiter st h
theorem fD {w:World}{tg:Expr} (a it:Addr):Turn P w K tg (Itt K a) [it] it (fun i h=>h.IsTupleIter it a i) where
 mem:=by simp
 obj:=fun i h st b hb=>by
  have e:b=it:=by simpa using hb
  subst e
  obtain⟨o,e,c,d⟩:=st
  exact⟨o,e,fun v z=>by rw[d] at z; cases z⟩
 keep:=fun i h h' st k=>st.at fun o e=>k it (by simp) o e
 item:=by
  intro X hP hw hK hc i pins s σ H E I hf st hg
  subst hP hw hK
  obtain⟨xs,x,hq,hx⟩:=hg
  obtain⟨its,rv,p,hz⟩:=I.tuple hq
  obtain⟨u,hu,ru⟩:=rv.get hx
  obtain⟨f0,f1,f2,f3,f4,f5⟩:=hf it (by simp)
  refine wpAny_pyNext_tuple_item st (show s.heap.IsTuple a its.toArray from p) (x:=u) (by simpa using hu) fun h' st' sb=>?_
  have I1:Inv X pins σ H { s with heap:=h' }:=I.turned (t':=s.toks) (fun b o hb e=>(sb.2 b hb).trans e) f0 f1 f3 f4 f5
  obtain⟨o,e,c,d⟩:=id st'
  exact⟨u,U,kS (s:={ s with heap:=h' }) e c d (by decide) ⟨x,H,I1,ru,⟨U,fun ys hy=>by rw[I.tuple_inj hy hq]; exact hx⟩,st',fun b hb=>(hf b hb).1⟩⟩
 done:=by
  intro X hP hw hK hc i pins s σ H E I hf st hg
  subst hP hw hK
  obtain⟨xs,hq,hx⟩:=hg
  obtain⟨its,rv,p,hz⟩:=I.tuple hq
  obtain⟨f0,f1,f2,f3,f4,f5⟩:=hf it (by simp)
  have hl:=rv.length
  exact wpAny_pyNext_tuple_end (I.ok.hd hc) st (show s.heap.IsTuple a its.toArray from p) (by simp; omega) fun h' eb=>⟨U,I.turned (t':=s.toks) (fun b o hb e=>eb b o hb e) f0 f1 f3 f4 f5⟩
 self:=fun _ _ _ _ _ st h=>wpAny_pyIter_tupleiter st h
theorem jQ {w:World}{tg:Expr} (it:Addr) (lo:Int) (n:Nat):Turn P w K tg (Itr lo n) [it] it (fun i h=>IsRangeIter h it (lo+(i:Nat)*1) ((n:Int) - (i:Nat)) 1) where
 mem:=by simp
 obj:=fun i h st b hb=>by
  have e:b=it:=by simpa using hb
  subst e
  exact⟨_,st,fun v z=>by
   have z':Data.fields _=Data.cell v:=z
   cases z'⟩
 keep:=fun i h h' st k=>k it (by simp) _ st
 item:=by
  intro X hP hw hK hc i pins s σ H E I hf st hg
  subst hP hw hK
  obtain⟨f0,f1,f2,f3,f4,f5⟩:=hf it (by simp)
  have W:=Walks.range (prog:=X.prog) (w:=X.w) (I.ok.hd hc) it lo 1 n
  refine W.item i s _ _ hg st fun v h' tk hv st' kk=>?_
  obtain⟨t,rfl⟩:=hv
  have I1:Inv X pins σ H { s with heap:=h',toks:=tk }:=I.turned (fun b o hb e=>kk b o (by simpa using hb) e) f0 f1 f3 f4 f5
  refine⟨_,U,kS (s:={ s with heap:=h',toks:=tk }) (n := "range_iterator") st' rfl rfl (by decide) ⟨.int (lo+i),H,I1,⟨t,?_⟩,⟨U,U⟩,st',fun b hb=>(hf b hb).1⟩⟩
  rw[Int.mul_one]
 done:=by
  intro X hP hw hK hc i pins s σ H E I hf st hg
  subst hP hw hK
  obtain⟨f0,f1,f2,f3,f4,f5⟩:=hf it (by simp)
  exact wpAny_pyNext_range_end (I.ok.hd hc) st (by have:n<=i:=hg; omega) fun h' eb=>⟨U,I.turned (t':=s.toks) (fun b o hb e=>eb b o hb e) f0 f1 f3 f4 f5⟩
 self:=fun _ _ _ _ _ st h=>wpAny_pyIter_rangeiter st h
section
variable {X:Cx}{tg:Expr}
noncomputable def iList (K:PySem.W.Frag) (tl:TE):TI:=fun σ H R=>tl σ H fun x H1=>∃ a,x=.ref a/\(∃ xs,SqL K H1 a xs)/\R (Itl K a) H1
noncomputable def iTup (K:PySem.W.Frag) (tl:TE):TI:=fun σ H R=>tl σ H fun x H1=>∃ a,x=.ref a/\(∃ xs,SqT K H1 a xs)/\R (Itt K a) H1
theorem bh {l:Expr}{tl:TE} (hl:PE X l tl):PI X tg l (iList X.K tl):=by
 intro pins s σ H R I h
 refine thn (hl pins s σ H _ I h) fun v s1 ⟨x,H1,I1,r1,q1⟩=>?_
 obtain⟨a,e,⟨xs,hq⟩,q⟩:=q1
 subst e
 cases r1
 obtain⟨its,rv,p,hz⟩:=I1.list hq
 refine wpAny_pyIter_list p.isList ?_
 refine⟨s1.heap.objs.size,[s1.heap.objs.size],_,_,H1,U,I1.kept (t':=s1.toks) fun b o e=>Heap.get?_push_of_some _ e,gM a _,⟨_,Heap.get?_push_size _ rfl,U,U⟩,fun b hb=>?_,q⟩
 have e:b=s1.heap.objs.size:=by simpa using hb
 subst e
 exact I1.fpOk (Nat.le_refl _) (I1.hok.fresh (Nat.le_refl _))
theorem qD {l:Expr}{tl:TE} (hl:PE X l tl):PI X tg l (iTup X.K tl):=by
 intro pins s σ H R I h
 refine thn (hl pins s σ H _ I h) fun v s1 ⟨x,H1,I1,r1,q1⟩=>?_
 obtain⟨a,e,⟨xs,hq⟩,q⟩:=q1
 subst e
 cases r1
 obtain⟨its,rv,p,hz⟩:=I1.tuple hq
 refine wpAny_pyIter_tuple (show s1.heap.IsTuple a its.toArray from p) ?_
 refine⟨s1.heap.objs.size,[s1.heap.objs.size],_,_,H1,U,I1.kept (t':=s1.toks) fun b o e=>Heap.get?_push_of_some _ e,fD a _,⟨_,Heap.get?_push_size _ rfl,U,U⟩,fun b hb=>?_,q⟩
 have e:b=s1.heap.objs.size:=by simpa using hb
 subst e
 exact I1.fpOk (Nat.le_refl _) (I1.hok.fresh (Nat.le_refl _))
theorem mG {R:It->Hp->Prop}{lo hi:Int}{t u v:Tok}{tk:Nat} (I:Inv X pins σ H s) (h1:-(2 ^ 62)<=lo) (h2:lo<2 ^ 62) (h3:-(2 ^ 62)<=hi) (h4:hi<2 ^ 62)
  (q:R (Itr lo (hi - lo).toNat) H):wpAny (model X.prog X.w) X.A (pyIter (.ref s.heap.objs.size)) (PIE X pins σ tg R) E { s with heap:=s.heap.push { cls:=.type "range",data:=.fields #[.int lo t,.int hi u,.int 1 v] },toks:=tk }:=by
 refine wpAny_pyIter_range (IsRange.new ..) (small_one h1 h2 h3 h4) ?_
 have I1:Inv X pins σ H { s with heap:=s.heap.push { cls:=.type "range",data:=.fields #[.int lo t,.int hi u,.int 1 v] },toks:=tk }:=I.kept fun b o e=>Heap.get?_push_of_some _ e
 refine⟨(s.heap.push { cls:=.type "range",data:=.fields #[.int lo t,.int hi u,.int 1 v] }).objs.size,[(s.heap.push { cls:=.type "range",data:=.fields #[.int lo t,.int hi u,.int 1 v] }).objs.size],_,_,H,U,
  I1.kept (t':=tk) fun b o e=>Heap.get?_push_of_some _ e,jQ _ lo (hi - lo).toNat,?_,fun b hb=>?_,q⟩
 ·have e1:lo+((0:Nat):Int)*1=lo:=by simp
  have e2:(((hi - lo).toNat:Nat):Int) - ((0:Nat):Int)=Builtin.Range.rangeSize lo hi 1:=by rw[rangeSize_one]; split <;> omega
  show IsRangeIter _ _ (lo+((0:Nat):Int)*1) ((((hi - lo).toNat:Nat):Int) - ((0:Nat):Int)) 1
  rw[e1,e2]
  exact Heap.get?_push_size _ rfl
 ·have e:b=(s.heap.push { cls:=.type "range",data:=.fields #[.int lo t,.int hi u,.int 1 v] }).objs.size:=by simpa using hb
  subst e
  exact I1.fpOk (Nat.le_refl _) (I1.hok.fresh (Nat.le_refl _))
noncomputable def iRng1 (ta:TA):TI:=fun σ H R=>ta σ H fun vs H1=>∃ j:Int,vs=[.int j]/\-(2 ^ 62)<=j/\j<2 ^ 62/\R (Itr 0 j.toNat) H1
theorem bD {a:Expr}{ta:TA}{p pos:Pos} (hg:Gl X "range") (hm:X.mg "range" = none) (ha:PA X [a] ta) (hs:starEach [a] X.env=[(false,eval a X.env)]:=by rfl):PI X tg (.Call (.Name "range" p) [a] [] pos) (iRng1 ta):=by
 intro pins s σ H R I h
 refine Call_ (dJ I hg hm boot_range (PyProof.Rows.callWith_type1 (thn (ha pos pins s σ H _ I h) fun us s1 ⟨vs,H1,I1,r1,q1⟩=>?_) hs rfl))
 obtain⟨j,e,q1,q2,q⟩:=q1
 subst e
 cases r1 with
 | cons r rr=>
  cases rr
  obtain⟨t,rfl⟩:=r
  exact call_range_1 (mG I1 (by omega) (by omega) q1 q2 (by simpa using q))
noncomputable def tFor (wi:TI) (g:TG) (tb:TS):TS:=fun D σ H=>wi σ H fun J H1=>∃ W:Nat->Nat->St->Hp->Prop,(∃ m,W 0 m σ H1)/\∀ i m σ H,W i m σ H ->
 (J.stop i H/\D.nx σ H)∨(J.go i H/\∃ N:St->Hp->Prop,(∀ σ' H',N σ' H'->∃ m',m'<m/\W (i+1) m' σ' H')/\∀ x H',J.yld i H x H'->g x σ H' fun σ2 H2=>tb { D with nx:=N,ct:=N,bk:=D.nx } σ2 H2)
noncomputable def dg (fp:List Addr) (h:Heap):List (Addr×Obj):=fp.filterMap fun b=>(h.get? b).map fun o=>(b,o)
theorem aX {fp:List Addr}{b:Addr}{o:Obj} (hb:b ∈ fp) (e:h.get? b=some o):(b,o) ∈ dg fp h:=List.mem_filterMap.mpr ⟨b,hb,by rw[e]; rfl⟩
theorem lA {fp:List Addr}{p:Addr×Obj} (hp:p ∈ dg fp h):p.1 ∈ fp/\h.get? p.1=some p.2:=by
 obtain⟨b,hb,e⟩:=List.mem_filterMap.mp hp
 cases q:h.get? b with
 | none=>rw[q] at e; cases e
 | some o=>
  rw[q] at e
  have e':(b,o)=p:=Option.some.inj e
  subst e'
  exact⟨hb,q⟩
theorem Inv.pinned {fp:List Addr} (I:Inv X pins σ H s) (hf:∀ b ∈ fp,cJ X pins H b) (ho:∀ b ∈ fp,∃ o,s.heap.get? b=some o/\∀ v,o.data≠.cell v):Inv X (pins++dg fp s.heap) σ H s :=
 I.pins_of fun p hp=>(sY.mp hp).elim (fun z=>I.pin p (sJ _ z)) fun z=>by
  obtain⟨hb,e⟩:=lA z
  obtain⟨f0,f1,f2,_⟩:=hf p.1 hb
  obtain⟨o,e',d⟩:=ho p.1 hb
  rw[e] at e'; cases e'
  exact⟨e,f0,f1,f2,d⟩
theorem Inv.unpinned {pins pl:List (Addr×Obj)} (I:Inv X (pins++pl) σ H s):Inv X pins σ H s:=I.pins_of fun p hp=>I.pin p (sJ _ (sV _ hp))
theorem bv {iter:Expr}{body:List Stmt}{wi:TI}{g:TG}{tb:TS} (hp:PassesOwn (model X.prog X.w) X.A X.env X.xe) (hc:X.calm=true) (hi:PI X tg iter wi) (hg:PG X tg g) (hb:PSs X body tb)
  (hs:∀ x,foldedSetIterable iter X.env x=pure x:=by intro _; rfl):PS X (.For tg iter body [] pos) (tFor wi g tb):=by
 intro pins s σ H D I h
 refine wpAny_For (thn (hi pins s σ H _ I h) fun v s1 h1=>thn h1 fun itv s2 h2=>?_) hs
 obtain⟨it,fp,tn,J,H2,e,I2,T,st2,f2,W,⟨m0,w0⟩,turn⟩:=h2
 subst e
 have stat:∀ {H':Hp},(∀ b ∈ fp,H' b=none)->∀ b ∈ fp,cJ X pins H' b:=fun hn b hb=>⟨hn b hb,(f2 b hb).2⟩
 refine codeAny_forLoop_any (fun n s'=>∃ i σ' H',Inv X pins σ' H' s'/\tn i s'.heap/\(∀ b ∈ fp,H' b=none)/\W i n σ' H') ?_ m0 ⟨0,σ,H2,I2,st2,fun b hb=>(f2 b hb).1,w0⟩
 rintro n s3 ⟨i,σ3,H3,I3,st3,fr3,w3⟩
 rcases turn i n σ3 H3 w3 with ⟨stop,qn⟩ | ⟨go,N,hN,step⟩
 ·refine wpAny_passesOwn hp (thn (T.done X rfl rfl rfl hc i pins s3 σ3 H3 X.xe I3 (stat fr3) st3 stop) fun r s4 ⟨hr,I4⟩=>?_)
  subst hr
  exact wpAny_execs_nil ⟨σ3,H3,I4,qn⟩
 ·refine wpAny_passesOwn hp (thn (T.item X rfl rfl rfl hc i pins s3 σ3 H3 X.xe I3 (stat fr3) st3 go) fun r s4 ⟨u,hr,h4⟩=>?_)
  subst hr
  refine wpAny_passesOwn hp (thn h4 fun _ s5 ⟨x,H5,I5,r5,y5,st5,fr5⟩=>?_)
  have I5':=I5.pinned (stat fr5) (T.obj _ _ st5)
  refine wpAny_passesOwn hp (thn (hg _ s5 σ3 H5 x u _ I5' r5 (step x H5 y5)) fun _ s6 ⟨σ6,H6,I6,q6⟩=>?_)
  refine wpAny_passesOwn hp (thn (hb _ s6 σ6 H6 _ I6 q6) fun f s7 q7=>?_)
  have again:∀ {σ7:St}{H7:Hp},Inv X (pins++dg fp s5.heap) σ7 H7 s7->N σ7 H7->∃ m,m<n/\∃ i σ' H',Inv X pins σ' H' s7/\tn i s7.heap/\(∀ b ∈ fp,H' b=none)/\W i m σ' H':=fun {σ7 H7} I7 n7=>by
   obtain⟨m',hm,w7⟩:=hN σ7 H7 n7
   refine⟨m',hm,i+1,σ7,H7,I7.unpinned,T.keep _ _ _ st5 fun b hb o e=>(I7.pin (b,o) (sJ _ (sJ _ (aX hb e)))).1,fun b hb=>?_,w7⟩
   obtain⟨o,e,d⟩:=T.obj _ _ st5 b hb
   exact(I7.pin (b,o) (sJ _ (sJ _ (aX hb e)))).2.1
  cases f with
  | next=>obtain⟨σ7,H7,I7,n7⟩:=q7; exact again I7 n7
  | cont=>obtain⟨σ7,H7,I7,n7⟩:=q7; exact again I7 n7
  | brk=>obtain⟨σ7,H7,I7,q7⟩:=q7; exact⟨σ7,H7,I7.unpinned,q7⟩
  | ret v=>obtain⟨x7,σ7,H7,I7,r7,q7⟩:=q7; exact⟨x7,σ7,H7,I7.unpinned,r7,q7⟩
end
theorem bP {K:PySem.W.Frag}{a:Addr}{xs:List V}{g:TG}{tb:TS}{D:Ends} (Pv:Nat->St->Hp->Prop) (h0:Pv 0 σ H) (hl:∀ i σ H,i<=xs.length->Pv i σ H->SqL K H a xs)
  (hs:∀ i x σ H,xs[i]?=some x->Pv i σ H->g x σ H fun σ2 H2=>tb { D with nx:=Pv (i+1),ct:=Pv (i+1),bk:=D.nx } σ2 H2) (hd:∀ σ H,Pv xs.length σ H->D.nx σ H) :
  ∃ W:Nat->Nat->St->Hp->Prop,(∃ m,W 0 m σ H)/\∀ i m σ H,W i m σ H ->
   ((Itl K a).stop i H/\D.nx σ H)∨((Itl K a).go i H/\∃ N:St->Hp->Prop,(∀ σ' H',N σ' H'->∃ m',m'<m/\W (i+1) m' σ' H')/\∀ x H',(Itl K a).yld i H x H'->g x σ H' fun σ2 H2=>tb { D with nx:=N,ct:=N,bk:=D.nx } σ2 H2):=by
 refine⟨fun i m σ H=>m=xs.length - i/\i<=xs.length/\Pv i σ H,⟨xs.length,by simp,Nat.zero_le _,h0⟩,?_⟩
 rintro i m σ H ⟨rfl,hi,p⟩
 have q:=hl i σ H hi p
 by_cases hlt:i<xs.length
 ·refine .inr ⟨⟨xs,xs[i],q,by simp[hlt]⟩,Pv (i+1),fun σ' H' p'=>⟨xs.length - (i+1),by omega,U,hlt,p'⟩,fun x H' y=>?_⟩
  obtain⟨e,y⟩:=y
  subst e
  exact hs i x σ _ (y xs q) p
 ·have e:i=xs.length:=by omega
  subst e
  exact .inl ⟨⟨xs,q,Nat.le_refl _⟩,hd σ H p⟩
theorem bK {lo:Int}{n:Nat}{g:TG}{tb:TS}{D:Ends} (Pv:Nat->St->Hp->Prop) (h0:Pv 0 σ H)
  (hs:∀ i σ H,i<n->Pv i σ H->g (.int (lo+i)) σ H fun σ2 H2=>tb { D with nx:=Pv (i+1),ct:=Pv (i+1),bk:=D.nx } σ2 H2) (hd:∀ σ H,Pv n σ H->D.nx σ H) :
  ∃ W:Nat->Nat->St->Hp->Prop,(∃ m,W 0 m σ H)/\∀ i m σ H,W i m σ H ->
   ((Itr lo n).stop i H/\D.nx σ H)∨((Itr lo n).go i H/\∃ N:St->Hp->Prop,(∀ σ' H',N σ' H'->∃ m',m'<m/\W (i+1) m' σ' H')/\∀ x H',(Itr lo n).yld i H x H'->g x σ H' fun σ2 H2=>tb { D with nx:=N,ct:=N,bk:=D.nx } σ2 H2):=by
 refine⟨fun i m σ H=>m=n - i/\i<=n/\Pv i σ H,⟨n,by simp,Nat.zero_le _,h0⟩,?_⟩
 rintro i m σ H ⟨rfl,hi,p⟩
 by_cases hlt:i<n
 ·refine .inr ⟨hlt,Pv (i+1),fun σ' H' p'=>⟨n - (i+1),by omega,U,hlt,p'⟩,fun x H' y=>?_⟩
  obtain⟨e,y⟩:=y
  subst e y
  exact hs i σ _ hlt p
 ·have e:i=n:=by omega
  subst e
  exact .inl ⟨Nat.le_refl _,hd σ H p⟩
theorem lY {c:TT}{tb:TS}{D:Ends} (Pv:St->Hp->Prop) (μ:St->Hp->Nat) (h0:Pv σ H)
  (hs:∀ σ H,Pv σ H->c σ H fun b H1=>if b=true then tb { D with nx:=fun σ' H'=>Pv σ' H'/\μ σ' H'<μ σ H,ct:=fun σ' H'=>Pv σ' H'/\μ σ' H'<μ σ H,bk:=D.nx } σ H1 else D.nx σ H1)
  (mono:∀ σ H Q Q',(∀ b H1,Q b H1->Q' b H1)->c σ H Q->c σ H Q'):l8 c tb D σ H:=by
 refine⟨fun m σ H=>m=μ σ H/\Pv σ H,⟨_,U,h0⟩,?_⟩
 rintro m σ H ⟨rfl,p⟩
 refine mono σ H _ _ (fun b H1 q=>?_) (hs σ H p)
 cases b with
 | true=>exact⟨_,fun σ' H' ⟨p',l⟩=>⟨_,l,U,p'⟩,q⟩
 | false=>exact q
noncomputable abbrev R2:=V->V->Hp->VK->Prop
noncomputable def OpR (X:Cx) (f:Value->Value->Sem Value) (r:R2):Prop :=
 ∀ (pins:List (Addr×Obj)) (s:Shared) (σ:St) (H:Hp) (x y:V) (v u:Value) (Q:VK),Inv X pins σ H s->RelV x v->RelV y u->r x y H Q ->
  wpAny (model X.prog X.w) X.A (f v u) (EP X pins σ Q) X.xe s
noncomputable def UnR (X:Cx) (f:Value->Sem Value) (r:V->Hp->VK->Prop):Prop :=
 ∀ (pins:List (Addr×Obj)) (s:Shared) (σ:St) (H:Hp) (x:V) (v:Value) (Q:VK),Inv X pins σ H s->RelV x v->r x H Q ->
  wpAny (model X.prog X.w) X.A (f v) (EP X pins σ Q) X.xe s
noncomputable def cq (X:Cx) (f:Value) (r:List V->Hp->VK->Prop):Prop :=
 ∀ (pins:List (Addr×Obj)) (s:Shared) (σ:St) (H:Hp) (xs:List V) (us:List Value) (Q:VK),Inv X pins σ H s->Vals xs us->r xs H Q ->
  wpAny (model X.prog X.w) X.A (call f us) (EP X pins σ Q) X.xe s
noncomputable def TruR (X:Cx) (r:V->Hp->(Bool->Hp->Prop)->Prop):Prop :=
 ∀ (pins:List (Addr×Obj)) (s:Shared) (σ:St) (H:Hp) (x:V) (v:Value) (Q:Bool->Hp->Prop),Inv X pins σ H s->RelV x v->r x H Q ->
  wpAny (model X.prog X.w) X.A (truthy v) (TP X pins σ Q) X.xe s
noncomputable def tOp (r:R2) (ta tb:TE):TE:=fun σ H Q=>ta σ H fun x H1=>tb σ H1 fun y H2=>r x y H2 Q
noncomputable def tUn (r:V->Hp->VK->Prop) (ta:TE):TE:=fun σ H Q=>ta σ H fun x H1=>r x H1 Q
inductive RI_ (C:Int->Int->Prop) (g:Int->Int->V) (x y:V) (H:Hp) (Q:VK):Prop
 | mk (i j:Int) (h1:x=.int i) (h2:y=.int j) (c:C i j) (q:Q (g i j) H):RI_ C g x y H Q
noncomputable def rI (C:Int->Int->Prop) (g:Int->Int->V):R2:=fun x y H Q=>RI_ C g x y H Q
inductive RJ_ (g:Int->Int->V) (x y:V) (H:Hp) (Q:VK):Prop
 | mk (i j:Int) (h1:x=.int i) (h2:y=.int j) (q:Q (g i j) H):RJ_ g x y H Q
noncomputable def rI0 (g:Int->Int->V):R2:=fun x y H Q=>RJ_ g x y H Q
noncomputable def rU (g:Int->V):V->Hp->VK->Prop:=fun x H Q=>∃ i,x=.int i/\Q (g i) H
variable{f:Value->Value->Sem Value}
section
variable {X:Cx}{a b c:Expr}{ta tb tc:TE}{pos:Pos}
theorem rK (ha:PE X a ta) (hb:PE X b tb) {R:V->V->Hp->Prop} (I:Inv X pins σ H s)
  (h:ta σ H fun x H1=>tb σ H1 fun y H2=>R x y H2) {Q:Value->Shared->Prop}{f:Value->Value->Sem Value}
  (hf:∀ v u s2 x y H2,Inv X pins σ H2 s2->RelV x v->RelV y u->R x y H2->wpAny (model X.prog X.w) X.A (f v u) Q X.xe s2) :
  wpAny (model X.prog X.w) X.A (eval a X.env) (fun v s₁=>wpAny (model X.prog X.w) X.A (eval b X.env) (fun u s₂=>wpAny (model X.prog X.w) X.A (f v u) Q X.xe s₂) X.xe s₁) X.xe s:=by
 refine thn (ha pins s σ H _ I h) fun v s1 ⟨x,H1,I1,r1,q1⟩=>?_
 refine thn (hb pins s1 σ H1 _ I1 q1) fun u s2 ⟨y,H2,I2,r2,q2⟩=>?_
 exact hf v u s2 x y H2 I2 r1 r2 q2
theorem ak {op:Operator}{r:R2} (ho:OpR X (binaryOp op) r) (ha:PE X a ta) (hb:PE X b tb):PE X (.BinOp a op b pos) (tOp r ta tb):=by
 intro pins s σ H Q I h
 exact wpAny_BinOp (rK ha hb I h fun v u s2 x y H2 I2 rx ry q=>ho pins s2 σ H2 x y v u Q I2 rx ry q)
theorem kJ {op:UnaryOp}{r:V->Hp->VK->Prop} (ho:UnR X (unaryOp op) r) (ha:PE X a ta):PE X (.UnaryOp op a pos) (tUn r ta):=by
 intro pins s σ H Q I h
 exact UnaryOp_ (thn (ha pins s σ H _ I h) fun v s1 ⟨x,H1,I1,r1,q1⟩=>ho pins s1 σ H1 x v Q I1 r1 q1)
theorem opI {C:Int->Int->Prop}{g:Int->Int->Int}
  (rule:∀ (i j:Int) (t u:Tok) (s:Shared) (Q:Value->Shared->Prop) (E:Value->Shared->Prop),C i j->Q (.int (g i j) s.toks) { s with toks:=s.toks+1 }->wpAny (model X.prog X.w) X.A (f (.int i t) (.int j u)) Q E s) :
  OpR X f (rI C fun i j=>.int (g i j)):=by
 intro pins s σ H x y v u Q I rx ry h
 obtain⟨i,j,rfl,rfl,hc,q⟩:=h
 obtain⟨t,rfl⟩:=rx
 obtain⟨t',rfl⟩:=ry
 exact rule i j t t' s _ _ hc ⟨.int (g i j),H,I.tok _,⟨_,U⟩,q⟩
theorem rZ {g:Int->Int->Int}
  (rule:∀ (i j:Int) (t u:Tok) (s:Shared) (Q:Value->Shared->Prop) (E:Value->Shared->Prop),Q (.int (g i j) s.toks) { s with toks:=s.toks+1 }->wpAny (model X.prog X.w) X.A (f (.int i t) (.int j u)) Q E s) :
  OpR X f (rI0 fun i j=>.int (g i j)):=by
 intro pins s σ H x y v u Q I rx ry h
 obtain⟨i,j,rfl,rfl,q⟩:=h
 obtain⟨t,rfl⟩:=rx
 obtain⟨t',rfl⟩:=ry
 exact rule i j t t' s _ _ ⟨.int (g i j),H,I.tok _,⟨_,U⟩,q⟩
theorem oW {g:Int->Int->Bool}
  (rule:∀ (i j:Int) (t u:Tok) (s:Shared) (Q:Value->Shared->Prop) (E:Value->Shared->Prop),Q (.bool (g i j)) s->wpAny (model X.prog X.w) X.A (f (.int i t) (.int j u)) Q E s) :
  OpR X f (rI0 fun i j=>.bl (g i j)):=by
 intro pins s σ H x y v u Q I rx ry h
 obtain⟨i,j,rfl,rfl,q⟩:=h
 obtain⟨t,rfl⟩:=rx
 obtain⟨t',rfl⟩:=ry
 exact rule i j t t' s _ _ ⟨.bl (g i j),H,I,U,q⟩
noncomputable def CDiv (i j:Int):Prop:=0<j/\j<1073741824
noncomputable def CPow (i j:Int):Prop:=0<=j/\j<=1000000/\i.natAbs<2 ^ 64
noncomputable def CMul (i j:Int):Prop:=(-(2 ^ 64)<i/\i<2 ^ 64)∨(-(2 ^ 64)<j/\j<2 ^ 64)
theorem CMul.ok {i j:Int} (h:CMul i j):IntMulOk i j:=by
 rcases h with ⟨h1,h2⟩ | ⟨h1,h2⟩
 ·exact .of_left (intBits_le_64 h1 h2)
 ·exact .of_right (intBits_le_64 h1 h2)
theorem aL:OpR X (binaryOp .Add) (rI0 fun i j=>.int (i+j)):=rZ fun _ _ _ _ _ _ _ q=>add_int q
theorem mX:OpR X (binaryOp .Sub) (rI0 fun i j=>.int (i - j)):=rZ fun _ _ _ _ _ _ _ q=>sub_int q
theorem dh:OpR X (binaryOp .Mult) (rI CMul fun i j=>.int (i*j)):=opI fun _ _ _ _ _ _ _ hc q=>mul_int q hc.ok
theorem bN:OpR X (binaryOp .FloorDiv) (rI CDiv fun i j=>.int (i / j)):=opI fun i j _ _ _ _ _ hc q=>by
 have h1:(0:Int)<j:=hc.1
 have h2:j<1073741824:=hc.2
 exact floordiv_int (by omega) (by rw[Int.fdiv_eq_ediv_of_nonneg i (by omega)]; exact q) (.inl (PyProof.noPylong_small (by omega)))
theorem ay:OpR X (binaryOp .Mod) (rI (fun _ j=>0<j) fun i j=>.int (i % j)):=opI fun i j _ _ _ _ _ hc q=>by
 have h1:(0:Int)<j:=hc
 exact mod_int' (by omega) (by rw[Int.fmod_eq_emod_of_nonneg i (by omega)]; exact q)
theorem mY:OpR X (binaryOp .Pow) (rI CPow fun i j=>.int (i ^ j.toNat)):=opI fun _ _ _ _ _ _ _ hc q=>pow_int_small hc.1 hc.2.1 hc.2.2 q
theorem unI {f:Value->Sem Value}{g:Int->Int}
  (rule:∀ (i:Int) (t:Tok) (s:Shared) (Q:Value->Shared->Prop) (E:Value->Shared->Prop),Q (.int (g i) s.toks) { s with toks:=s.toks+1 }->wpAny (model X.prog X.w) X.A (f (.int i t)) Q E s) :
  UnR X f (rU fun i=>.int (g i)):=by
 intro pins s σ H x v Q I rx h
 obtain⟨i,rfl,q⟩:=h
 obtain⟨t,rfl⟩:=rx
 exact rule i t s _ _ ⟨.int (g i),H,I.tok _,⟨_,U⟩,q⟩
theorem ii:UnR X (unaryOp .USub) (rU fun i=>.int (-i)):=unI fun _ _ _ _ _ q=>neg_int q
end
noncomputable def rV:V->V->Bool
 | .non,.non=>true | .non,.int _=>true | .int _,.non=>true | .non,.bl _=>true | .bl _,.non=>true | .non,.str _=>true | .str _,.non=>true
 | .int _,.int _=>true | .bl _,.bl _=>true | .str _,.str _=>true | .byt _,.byt _=>true
 | .int _,.str _=>true | .str _,.int _=>true | .bl _,.str _=>true | .str _,.bl _=>true
 | _,_=>false
inductive RE_ (x y:V) (H:Hp) (Q:VK):Prop
 | mk (h:rV x y=true) (q:Q (.bl (decide (x=y))) H):RE_ x y H Q
inductive RN_ (x y:V) (H:Hp) (Q:VK):Prop
 | mk (h:rV x y=true) (q:Q (.bl (!decide (x=y))) H):RN_ x y H Q
noncomputable def rEq:R2:=fun x y H Q=>RE_ x y H Q
noncomputable def rNe:R2:=fun x y H Q=>RN_ x y H Q
theorem kW {i j:Int}:decide (V.int i=V.int j)=(i == j):=by
 rw[Bool.eq_iff_iff]
 simp
theorem nW {i j:Bool}:decide (V.bl i=V.bl j)=(i == j):=by
 rw[Bool.eq_iff_iff]
 simp
theorem kU {i j:Str}:decide (V.str i=V.str j)=(i == j):=by
 rw[Bool.eq_iff_iff]
 simp
theorem kX {i j:Array UInt8}:decide (V.byt i=V.byt j)=(i.toList == j.toList):=by
 rw[Bool.eq_iff_iff]
 cases i
 cases j
 simp
section
variable {X:Cx}{a b c:Expr}{ta tb tc:TE}{pos:Pos}
theorem aS {Q:VK}{k k':Bool} (I:Inv X pins σ H s) (q:Q (.bl k) H) (e:k=k'):EP X pins σ Q (.bool k') s:=by
 subst e
 exact⟨.bl k,H,I,U,q⟩
theorem aZ:OpR X (compareOp .Eq) rEq:=by
 intro pins s σ H x y v u Q I rx ry h
 obtain⟨hs,q⟩:=h
 cases x with
 | non=>
  cases rx
  cases y with
  | non=>cases ry; exact PySem.EqNone.eq_none_none (aS I q (by simp))
  | bl j=>cases ry; exact PySem.EqNone.eq_none_bool (aS I q (by simp))
  | int j=>obtain⟨t',rfl⟩:=ry; exact PySem.EqNone.eq_none_int (aS I q (by simp))
  | str j=>obtain⟨t',rfl⟩:=ry; exact PySem.EqNone.eq_none_str (aS I q (by simp))
  | _=>exact absurd (show false=true from hs) Bool.false_ne_true
 | bl i=>
  cases rx
  cases y with
  | non=>cases ry; exact PySem.EqNone.eq_bool_none (aS I q (by simp))
  | bl j=>cases ry; exact eq_bool (aS I q nW)
  | str j=>obtain⟨t',rfl⟩:=ry; exact PySem.EqMixed.eq_bool_str (aS I q (by simp))
  | _=>exact absurd (show false=true from hs) Bool.false_ne_true
 | int i=>
  obtain⟨t,rfl⟩:=rx
  cases y with
  | non=>cases ry; exact PySem.EqNone.eq_int_none (aS I q (by simp))
  | int j=>obtain⟨t',rfl⟩:=ry; exact eq_int (aS I q kW)
  | str j=>obtain⟨t',rfl⟩:=ry; exact PySem.EqMixed.eq_int_str (aS I q (by simp))
  | _=>exact absurd (show false=true from hs) Bool.false_ne_true
 | str i=>
  obtain⟨t,rfl⟩:=rx
  cases y with
  | non=>cases ry; exact PySem.EqNone.eq_str_none (aS I q (by simp))
  | bl j=>cases ry; exact PySem.EqMixed.eq_str_bool (aS I q (by simp))
  | int j=>obtain⟨t',rfl⟩:=ry; exact PySem.EqMixed.eq_str_int (aS I q (by simp))
  | str j=>obtain⟨t',rfl⟩:=ry; exact eq_str (aS I q kU)
  | _=>exact absurd (show false=true from hs) Bool.false_ne_true
 | byt i=>
  obtain⟨t,rfl⟩:=rx
  cases y with
  | byt j=>obtain⟨t',rfl⟩:=ry; exact PySem.W.eq_bytes (aS I q kX)
  | _=>exact absurd (show false=true from hs) Bool.false_ne_true
 | _=>cases y <;> exact absurd (show false=true from hs) Bool.false_ne_true
theorem gR:OpR X (compareOp .NotEq) rNe:=by
 intro pins s σ H x y v u Q I rx ry h
 obtain⟨hs,q⟩:=h
 cases x with
 | non=>
  cases rx
  cases y with
  | non=>cases ry; exact PySem.EqNone.ne_none_none (aS I q (by simp))
  | bl j=>cases ry; exact PySem.EqNone.ne_none_bool (aS I q (by simp))
  | int j=>obtain⟨t',rfl⟩:=ry; exact PySem.EqNone.ne_none_int (aS I q (by simp))
  | str j=>obtain⟨t',rfl⟩:=ry; exact PySem.EqNone.ne_none_str (aS I q (by simp))
  | _=>exact absurd (show false=true from hs) Bool.false_ne_true
 | bl i=>
  cases rx
  cases y with
  | non=>cases ry; exact PySem.EqNone.ne_bool_none (aS I q (by simp))
  | bl j=>cases ry; exact ne_bool (aS I q (congrArg not nW))
  | str j=>obtain⟨t',rfl⟩:=ry; exact PySem.EqMixed.ne_bool_str (aS I q (by simp))
  | _=>exact absurd (show false=true from hs) Bool.false_ne_true
 | int i=>
  obtain⟨t,rfl⟩:=rx
  cases y with
  | non=>cases ry; exact PySem.EqNone.ne_int_none (aS I q (by simp))
  | int j=>obtain⟨t',rfl⟩:=ry; exact ne_int (aS I q (congrArg not kW))
  | str j=>obtain⟨t',rfl⟩:=ry; exact PySem.EqMixed.ne_int_str (aS I q (by simp))
  | _=>exact absurd (show false=true from hs) Bool.false_ne_true
 | str i=>
  obtain⟨t,rfl⟩:=rx
  cases y with
  | non=>cases ry; exact PySem.EqNone.ne_str_none (aS I q (by simp))
  | bl j=>cases ry; exact PySem.EqMixed.ne_str_bool (aS I q (by simp))
  | int j=>obtain⟨t',rfl⟩:=ry; exact PySem.EqMixed.ne_str_int (aS I q (by simp))
  | str j=>obtain⟨t',rfl⟩:=ry; exact ne_str (aS I q (congrArg not kU))
  | _=>exact absurd (show false=true from hs) Bool.false_ne_true
 | byt i=>
  obtain⟨t,rfl⟩:=rx
  cases y with
  | byt j=>obtain⟨t',rfl⟩:=ry; exact PySem.W.ne_bytes (aS I q (congrArg not kX))
  | _=>exact absurd (show false=true from hs) Bool.false_ne_true
 | _=>cases y <;> exact absurd (show false=true from hs) Bool.false_ne_true
theorem cK:OpR X (compareOp .Lt) (rI0 fun i j=>.bl (decide (i<j))):=oW fun _ _ _ _ _ _ _ q=>lt_int q
theorem op_le:OpR X (compareOp .LtE) (rI0 fun i j=>.bl (decide (i<=j))):=oW fun _ _ _ _ _ _ _ q=>le_int q
theorem bW:OpR X (compareOp .Gt) (rI0 fun i j=>.bl (decide (j<i))):=oW fun _ _ _ _ _ _ _ q=>gt_int q
theorem jq:OpR X (compareOp .GtE) (rI0 fun i j=>.bl (decide (j<=i))):=oW fun _ _ _ _ _ _ _ q=>ge_int q
theorem ar (b:Expr) {op:CmpOp} (h:op≠.In:=by decide) (h2:op≠.NotIn:=by decide):behindInMarks op b=false:=by
 have e1:(op == CmpOp.In)=false:=by cases op <;> first | rfl | exact absurd rfl h
 have e2:(op == CmpOp.NotIn)=false:=by cases op <;> first | rfl | exact absurd rfl h2
 cases b <;> simp[behindInMarks,e1,e2]
theorem bZ {op:CmpOp}{r:R2} (ho:OpR X (compareOp op) r) (ha:PE X a ta) (hb:PE X b tb) (hm:behindInMarks op b=false):PE X (.Compare a [op] [b] pos) (tOp r ta tb):=by
 intro pins s σ H Q I h
 exact wpAny_Compare1 (rK ha hb I h fun v u s2 x y H2 I2 rx ry q=>ho pins s2 σ H2 x y v u Q I2 rx ry q) hm
noncomputable def tTest (t:TE):TT:=fun σ H Q=>t σ H (TB_ Q)
theorem ap {op:CmpOp}{r:R2} (ho:OpR X (compareOp op) r) (ha:PE X a ta) (hb:PE X b tb) (hm:behindInMarks op b=false):PT X (.Compare a [op] [b] pos) (tTest (tOp r ta tb)):=by
 intro pins s σ H Q I h
 refine wpAny_isTrue_Compare1 (thn (ha pins s σ H _ I h) fun v s1 ⟨x,H1,I1,r1,q1⟩=>thn (hb pins s1 σ H1 _ I1 q1) fun u s2 ⟨y,H2,I2,r2,q2⟩=>
  thn (ho pins s2 σ H2 x y v u _ I2 r1 r2 q2) fun c s3 ⟨z,H3,I3,r3,k,e,q3⟩=>?_) hm
 subst e
 cases r3
 exact wpAny_truthy_bool ⟨H3,I3,q3⟩
noncomputable def sC (K:PySem.W.Frag) (x:V) (H:Hp) (k:Bool):Prop :=
 match x with
 | .non=>k=false
 | .bl b=>k=b
 | .int i=>k=(i != 0)
 | .str y=>y.length<=sizeLine/\k=((y.length:Int) != 0)
 | .byt y=>y.size<=sizeLine/\k=((y.size:Int) != 0)
 | .ref p=>(∃ xs,SqL K H p xs/\k = !xs.isEmpty)∨(∃ xs,SqT K H p xs/\k = !xs.isEmpty)∨∃ kvs,H p=some (.dK kvs)/\k = !kvs.isEmpty
 | _=>False
theorem ke {κ:Type}{kvs:List (κ×V)}{vs:List (κ×Value)} (r:KV kvs vs):(!vs.isEmpty) = !kvs.isEmpty:=by
 cases r <;> rfl
theorem fY {xs:List V}{its:List Value} (r:Vals xs its):(!its.toArray.isEmpty) = !xs.isEmpty:=by
 cases r <;> simp
theorem eB:(sizeLine:Nat)<2 ^ 63:=by rw[sizeLine_eq]; decide
theorem qd:TruR X (fun x H Q=>∃ k,sC X.K x H k/\Q k H):=by
 intro pins s σ H x v Q I rx h
 obtain⟨k,e,q⟩:=h
 have hl:=eB
 have hs:sizeLine=16777216:=sizeLine_eq
 cases x with
 | non=>
  cases rx
  have e':k=false:=e
  subst e'
  exact truthy_none ⟨H,I,q⟩
 | bl b=>
  cases rx
  have e':k=b:=e
  subst e'
  exact wpAny_truthy_bool ⟨H,I,q⟩
 | int i=>
  obtain⟨t,rfl⟩:=rx
  have e':k=(i != 0):=e
  subst e'
  exact PySem.P.truthy_int ⟨H,I,q⟩
 | str y=>
  obtain⟨t,rfl⟩:=rx
  obtain⟨hy,e'⟩:y.length<=sizeLine/\k=((y.length:Int) != 0):=e
  subst e'
  exact PySem.P.truthy_str (by omega) ⟨H,I.tok _,q⟩
 | byt y=>
  obtain⟨t,rfl⟩:=rx
  obtain⟨hy,e'⟩:y.size<=sizeLine/\k=((y.size:Int) != 0):=e
  subst e'
  exact PySem.W.truthy_bytes (by omega) ⟨H,I.tok _,q⟩
 | ref p=>
  cases rx
  have e':(∃ xs,SqL X.K H p xs/\k = !xs.isEmpty)∨(∃ xs,SqT X.K H p xs/\k = !xs.isEmpty)∨∃ kvs,H p=some (.dK kvs)/\k = !kvs.isEmpty:=e
  rcases e' with ⟨xs,hx,e'⟩ | ⟨xs,hx,e'⟩ | ⟨kvs,hx,e'⟩
  ·subst e'
   obtain⟨its,r,pl,hz⟩:=I.list hx
   have hlen:=r.length
   exact wpAny_truthy_list pl.isList (by simp only[sU]; omega) ⟨H,I.tok _,by rw[fY r]; exact q⟩
  ·subst e'
   obtain⟨its,r,pl,hz⟩:=I.tuple hx
   have hlen:=r.length
   exact truthy_tuple pl (by simp only[sU]; omega) ⟨H,I.tok _,by rw[fY r]; exact q⟩
  ·subst e'
   obtain⟨hz,hS,vs,r,m⟩:kvs.length<=sizeLine/\(p == sysModules)=false/\∃ vs,KV kvs vs/\s.heap.DictOf (iE X.prog X.w) p vs:=I.hok p _ hx
   have hlen:kvs.length=vs.length:=Paired.length r
   exact wpAny_truthy_dict hS m (by omega) ⟨H,I.tok _,by rw[ke r]; exact q⟩
 | _=>exact(show False from e).elim
theorem dS (ha:PE X a ta) (he:∀ whole,isTrue a X.env whole=(do let v <- whole; standAt a.pos; holding [v] (truthy v))) :
  PT X a (fun σ H Q=>ta σ H fun x H'=>∃ k,sC X.K x H' k/\Q k H'):=by
 intro pins s σ H Q I h
 exact isTrue_plain (thn (ha pins s σ H _ I h) fun v s1 ⟨x,H1,I1,r1,q1⟩=>qd pins s1 σ H1 x v Q I1 r1 q1) (he _)
theorem a9:OpR X (binaryOp .Add) (fun x y H Q=>∃ i j,x=.str i/\y=.str j/\i.length+j.length<=sizeLine/\Q (.str (i++j)) H):=by
 intro pins s σ H x y v u Q I rx ry h
 obtain⟨i,j,rfl,rfl,hz,q⟩:=h
 obtain⟨t,rfl⟩:=rx
 obtain⟨t',rfl⟩:=ry
 exact add_str (fun t' tk=>⟨.str (i++j),H,I.tok _,⟨_,U⟩,q⟩) hz
theorem c8 {x:V} (r:Vals [x] us):∃ u,us=[u]/\RelV x u:=by
 cases r with
 | cons r1 r2=>cases r2; exact⟨_,U,r1⟩
theorem gK {x y:V} (r:Vals [x,y] us):∃ u w',us=[u,w']/\RelV x u/\RelV y w':=by
 cases r with
 | cons r1 r2=>
  cases r2 with
  | cons r3 r4=>cases r4; exact⟨_,_,U,r1,r3⟩
theorem nY:cq X (.builtin "abs") (fun xs H Q=>∃ i,xs=[.int i]/\Q (.int (if i<0 then -i else i)) H):=by
 intro pins s σ H xs us Q I r h
 obtain⟨i,rfl,q⟩:=h
 obtain⟨u,rfl,t,rfl⟩:=c8 r
 exact call_abs_int fun u tk=>⟨.int (if i<0 then -i else i),H,I.tok _,⟨_,U⟩,q⟩
theorem hW:cq X (.type "int") (fun xs H Q=>(∃ i,xs=[.int i]/\Q (.int i) H)∨∃ k,xs=[.bl k]/\Q (.int (if k then 1 else 0)) H):=by
 intro pins s σ H xs us Q I r h
 rcases h with ⟨i,rfl,q⟩ | ⟨k,rfl,q⟩
 ·obtain⟨u,rfl,t,rfl⟩:=c8 r
  exact call_int_int ⟨.int i,H,I,⟨_,U⟩,q⟩
 ·obtain⟨u,rfl,r1⟩:=c8 r
  cases r1
  exact call_int_bool ⟨.int (if k then 1 else 0),H,I.tok _,⟨_,U⟩,q⟩
theorem b9:cq X (.type "str") (fun xs H Q=>∃ i,xs=[.int i]/\i.natAbs.log2<1920/\Q (.str (toString i)) H):=by
 intro pins s σ H xs us Q I r h
 obtain⟨i,rfl,hz,q⟩:=h
 obtain⟨u,rfl,t,rfl⟩:=c8 r
 exact PySem.P.str_of_int hz ⟨.str _,H,I.tok _,⟨_,U⟩,q⟩
end
structure ObjM (h:Heap) (x dx C:Addr) (mA:Str->Option Value):Prop where
 obj:h.get? x=some (PySem.W.instObj C dx)
 ns:h.Ns1 dx mA
 ne:dx≠x
theorem lD {dx:Addr}{mA:Str->Option Value} (n:h.Ns1 dx mA):∃ od,h.get? dx=some od/\∀ name,PySem.W.lookIn name od=some (mA name):=by
 obtain⟨o,es,ep,ho,hd,hk,_,hm⟩:=n
 refine⟨o,ho,fun name=>?_⟩
 have e:=hm name
 unfold nsFind findBy at e
 rw[<- Array.find?_toList] at e
 unfold PySem.W.lookIn
 rw[hd]
 dsimp only
 split
 ·rename_i y q
  rw[q] at e
  exact congrArg some e
 ·rename_i q
  rw[q] at e
  have a:es.toList.any (·.refKey)=false:=by
   rw[List.any_eq_false]
   intro y hy
   obtain⟨z,t,hkey⟩:=hk y (Array.mem_toList_iff.mp hy)
   simp[DictEntry.refKey,hkey]
  have a':¬ es.toList.any (·.refKey)=true:=by rw[a]; exact Bool.false_ne_true
  rw[if_neg a']
  exact congrArg some e
theorem ObjM.look {x dx C:Addr}{mA:Str->Option Value} (I:ObjM h x dx C mA):∃ od,PySem.W.InstAt h x (PySem.W.instObj C dx) C (some od)/\∀ name,PySem.W.lookIn name od=some (mA name) :=
 let ⟨od,ho,hl⟩:=lD I.ns
 ⟨od,⟨I.obj,U,U,ho⟩,hl⟩
variable{kw:List (Str×Value)}{pl:Sem Bool}
section
variable {prog:Program}{w:World}{A:Around}{E:Value->Shared->Prop}{s:Shared}{K:PySem.W.Frag}{x dx C f:Addr}{mA:Str->Option Value}{name:Str}{v:Value}
theorem ph {expr:Bool} (X:K.In s.heap) (I:ObjM s.heap x dx C mA) (hg:W.plainGet K C name=true) (hh:W.hasDictIn K C=true)
  (ha:W.findIn K (.ref C) name=some none) (hv:mA name=some v) (hv':PySem.W.handedIn v=true) (h:Q v { s with toks:=s.toks+1 }) :
  wpAny (model prog w) A (getAttr (.ref x) name expr) Q E s:=by
 obtain⟨od,J,hl⟩:=I.look
 exact PySem.W.get_value X J (PySem.W.plainGet_of hg).1 (PySem.W.findObj_own hh ha rfl (by rw[hl,hv])) hv' h
theorem nJ {Q:Value×List Value->Shared->Prop} (X:K.In s.heap) (I:ObjM s.heap x dx C mA) (hg:W.plainGet K C name=true)
  (hf:W.findIn K (.ref C) name=some (some (.ref f))) (ht:W.isFn K (.ref f)=true) (hv:mA name=none) (h:Q (.ref f,[.ref x]) s) :
  wpAny (model prog w) A (getMethod (.ref x) name pl) Q E s:=by
 obtain⟨od,J,hl⟩:=I.look
 exact PySem.W.method_fn X J (PySem.W.plainGet_of hg).1 (PySem.W.plainGet_of hg).2 hf (beq_iff_eq.mp ht) (by show(PySem.W.lookIn name od).map (·.isSome)=some false; rw[hl,hv]; rfl) h
theorem oI {ns:List Str}{Q:Unit->Shared->Prop} (X:K.In s.heap) (I:ObjM s.heap x dx C mA)
  (hs:W.findIn K (.ref C) "__setattr__" = some (some (.builtin "object.__setattr__"))) (hp:W.plainOver K C=true) (ht:PySem.W.takerIn K C name=some none) (hh:W.hasDictIn K C=true)
  (hw:PySem.Within mA ns) (hsz:ns.length<=sizeLine)
  (h:∀ h',ObjM h' x dx C (fun y=>if y=name then some v else mA y)->Heap.SameBut dx s.heap h'->Q () { s with heap:=h',toks:=s.toks+2 }) :
  wpAny (model prog w) A (setAttr (.ref x) name v) Q E s:=by
 obtain⟨od,J,hl⟩:=I.look
 refine PySem.W.set_plain X J hs (PySem.W.osa_open (s:={ s with toks:=s.toks+1 }) (r:=none) X J hp ht fun b=>?_)
 obtain⟨cd,hc,hd'⟩:=PySem.W.any_some hh
 have hx:s.heap.get? x=some ⟨.ref C,some dx,.plain,#[]⟩:=I.obj
 refine wpAny_bind (wpAny_pure (wpAny_bind (wpAny_bind (wpAny_loadPart hx (wpAny_bind (PySem.W.Looks.here (s:={ s with toks:=s.toks+1 }) (PySem.W.looks_clsIn X hc) ?_))))))
 rw[hd']
 refine wpAny_pure (a:=some dx) (wpAny_bind (wpAny_pure (wpAny_bind ?_)))
 refine wpAny_nsSet1 (s:={ s with toks:=s.toks+1 }) I.ns fun h' hn2 hs2=>?_
 obtain⟨oD,esD,epD,hoD,hdD,hcD⟩:=hn2.count (PySem.Within.cons name v hw)
 refine wpAny_bind (wpAny_lookBehind hoD (by rw[hdD]; exact pastItsLine_dict (Nat.le_trans hcD (by rw[sT]; omega))) ?_)
 exact wpAny_pure (h _ ⟨(hs2.2 _ (Ne.symm I.ne)).trans I.obj,hn2,I.ne⟩ hs2)
theorem nu {R:Result->Shared->Prop}{vs:List Value} (X:K.In s.heap) (hm:W.makesIn K C=true)
  (hi:W.findIn K (.ref C) "__init__" = some (some (.ref f))) (hf:PySem.W.typeIn K (.ref f)=some (.type "function"))
  (h:codeAny (model prog w) (A.under (.builtin "type.__call__" ⟨.ref C::vs,kw⟩)) (.call (.ref f) ⟨.ref (s.heap.objs.size+1)::vs,kw⟩) (PySem.W.InitBack (s.heap.objs.size+1) R)
   { s with heap:=(s.heap.push PySem.W.emptyDict).push (PySem.W.instObj C s.heap.objs.size) }) :
  codeAny (model prog w) A (.call (.ref C) ⟨vs,kw⟩) R s:=by
 obtain⟨hh,g,d,t,os⟩:=s
 exact PySem.W.make_core (PySem.W.makes_of X hm) (PySem.W.looks_findIn X hi) (fun self=>PySem.W.bind_fn X self hf) (.inl rfl) h
end
noncomputable def de (f : Str) (v : V) : List (Str×V)->List (Str×V)
  | []=>[(f, v)]
  | (g, x) :: r => if g = f then (g, v) :: r else (g, x) :: de f v r
theorem eW (f g : Str) (v : V) : ∀ fs : List (Str×V), (de f v fs).lookup g=if g=f then some v else fs.lookup g
  | []=>by
    show List.lookup g [(f, v)]=_
    by_cases h : g=f
    · have hb : (g == f)=true := beq_iff_eq.mpr h
      simp only[List.lookup, hb, if_pos h]
    · have hb : (g == f)=false := beq_eq_false_iff_ne.mpr h
      simp only[List.lookup, hb, if_neg h]
  | (k, x) :: r => by
    have ih := eW f g v r
    rw[show de f v ((k, x)::r)=(if k=f then(k, v)::r else(k, x)::de f v r) from rfl]
    by_cases hk : k=f
    · rw[if_pos hk]
      by_cases h : g=k
      · have hb : (g == k)=true := beq_iff_eq.mpr h
        simp only[List.lookup, hb, if_pos (h.trans hk)]
      · have hb : (g == k)=false := beq_eq_false_iff_ne.mpr h
        simp only[List.lookup, hb, if_neg (fun e : g=f=>h (e.trans hk.symm))]
    · rw[if_neg hk]
      by_cases h : g=k
      · have hb : (g == k)=true := beq_iff_eq.mpr h
        simp only[List.lookup, hb, if_neg (fun e : g=f=>hk (h.symm.trans e))]
      · have hb : (g == k)=false := beq_eq_false_iff_ne.mpr h
        simp only[List.lookup, hb]
        exact ih
theorem eF (f : Str) (v : V) : ∀ fs : List (Str×V), f ∈ (de f v fs).map (·.1)/\∀ g, g ∈ fs.map (·.1)->g ∈ (de f v fs).map (·.1)
  | []=>⟨by simp[de], fun g h=>by simp at h⟩
  | (k, x) :: r => by
    obtain⟨i1, i2⟩ := eF f v r
    rw[show de f v ((k, x)::r)=(if k=f then(k, v)::r else(k, x)::de f v r) from rfl]
    by_cases hk : k=f
    · rw[if_pos hk]
      subst hk
      exact⟨by simp, fun g h=>by simpa using h⟩
    · rw[if_neg hk]
      refine⟨?_, fun g h=>?_⟩
      · rw[sX]
        exact sH _ i1
      · rw[sX] at h ⊢
        rcases sR.mp h with e | e
        · exact sR.mpr (.inl e)
        · exact sH _ (i2 g e)
theorem eX (f : Str) (v : V) : ∀ fs : List (Str×V), (de f v fs).length<=fs.length+1
  | []=>by simp[de]
  | (k, x) :: r => by
    have ih := eX f v r
    rw[show de f v ((k, x)::r)=(if k=f then(k, v)::r else(k, x)::de f v r) from rfl]
    by_cases hk : k=f
    · rw[if_pos hk, sT, sT]; omega
    · rw[if_neg hk, sT, sT]; omega
theorem RelO.some_of {v:V}{o:Option Value} (r:RelO (some v) o):∃ u,o=some u/\RelV v u:=by
 cases o with
 | none=>exact(show False from r).elim
 | some u=>exact⟨u,U,r⟩
theorem RelO.none_of {o:Option Value} (r:RelO none o):o=none:=by
 cases o with
 | none=>rfl
 | some u=>exact(show False from r).elim
theorem lL {v:V} (r:RelV v u):PySem.W.handedIn u=true:=by
 cases v with
 | non=>cases (show u=Value.none from r); rfl
 | bl b=>cases (show u=Value.bool b from r); rfl
 | int i=>obtain⟨t,e⟩:=(show ∃ t,u=Value.int i t from r); cases e; rfl
 | str x=>obtain⟨t,e⟩:=(show ∃ t,u=Value.str x t from r); cases e; rfl
 | byt b=>obtain⟨t,e⟩:=(show ∃ t,u=Value.bytes b t from r); cases e; rfl
 | flt b=>obtain⟨t,e⟩:=(show ∃ t,u=Value.float b t from r); cases e; rfl
 | ref a=>cases (show u=Value.ref a from r); rfl
 | ty n=>cases (show u=Value.type n from r); rfl
section
variable {P:Program}{w:World}{H H':Hp}{h h':Heap}{a C dx:Addr}{fs fs':List (Str×V)}
theorem fu (hok:HOk P w H h) (e:H a=some (.ins C dx fs)):∃ mA,ObjM h a dx C mA/\(∀ f,RelO (fs.lookup f) (mA f))/\PySem.Within mA (fs.map (·.1))/\fs.length<=1000/\H dx=some (.own a):=by
 obtain⟨d,z,ne,ob,mA,n,r,q⟩:=(show ObjOk P w H h a (.ins C dx fs) from hok a _ e)
 exact⟨mA,⟨ob,n,ne⟩,r,q,z,d⟩
end
structure Cls (K:PySem.W.Frag) (C:Addr):Prop where
 pg:W.plainGet K C Str.empty=true
 hd:W.hasDictIn K C=true
 po:W.plainOver K C=true
 sa:W.findIn K (.ref C) "__setattr__" = some (some (.builtin "object.__setattr__"))
theorem Cls.get {C:Addr} (c:Cls K C) (f:Str):W.plainGet K C f=true:=c.pg
noncomputable def NoAttr (K:PySem.W.Frag) (C:Addr) (f:Str):Prop:=W.findIn K (.ref C) f=some none
theorem NoAttr.taker {C:Addr}{f:Str} (n:NoAttr K C f):PySem.W.takerIn K C f=some none:=by
 unfold PySem.W.takerIn
 rw[show W.findIn K (.ref C) f=some none from n]
 rfl
structure Con (K:PySem.W.Frag) (C:Addr) (f:Str) (v:V) (u:Value):Prop where
 at_:W.findIn K (.ref C) f=some (some u)
 rel:RelV v u
 get:PySem.W.specialIn K u "__get__" = some none
 cp:PySem.W.copiedNames.contains f=false
structure Meth (K:PySem.W.Frag) (C:Addr) (m:Str) (f:Addr):Prop where
 at_:W.findIn K (.ref C) m=some (some (.ref f))
 fn:W.isFn K (.ref f)=true
 kp:W.keepIn K (.ref f)=true
section
variable {X:Cx}{pins:List (Addr×Obj)}{σ:St}{H:Hp}{s:Shared}{a C dx:Addr}{fs:List (Str×V)}{f:Str}{v:V}{A:Around}{E:Value->Shared->Prop}
theorem kf {b:Bool} (I:Inv X pins σ H s) (e:H a=some (.ins C dx fs)) (c:Cls X.K C) (n:NoAttr X.K C f) (l:fs.lookup f=some v)
  (h:∀ u s',Inv X pins σ H s'->RelV v u->Q u s'):wpAny (model X.prog X.w) A (getAttr (.ref a) f b) Q E s:=by
 obtain⟨mA,O,r,_,_,_⟩:=fu I.hok e
 obtain⟨u,hu,ru⟩:=RelO.some_of (v:=v) (o:=mA f) (by rw[<- l]; exact r f)
 exact ph I.kIn O (c.get f) c.hd n hu (lL ru) (h u _ (I.tok _) ru)
theorem fZ {m:Str}{g:Addr}{Q:Value×List Value->Shared->Prop} (I:Inv X pins σ H s) (e:H a=some (.ins C dx fs)) (c:Cls X.K C) (k:Meth X.K C m g) (l:fs.lookup m=none)
  (h:Q (.ref g,[.ref a]) s):wpAny (model X.prog X.w) A (getMethod (.ref a) m pl) Q E s:=by
 obtain⟨mA,O,r,_,_,_⟩:=fu I.hok e
 have hn:mA m=none:=RelO.none_of (by rw[<- l]; exact r m)
 exact nJ I.kIn O (c.get m) k.at_ k.fn hn h
theorem jV {y:V}{Q:Unit->Shared->Prop} (I:Inv X pins σ H s) (e:H a=some (.ins C dx fs)) (c:Cls X.K C) (n:NoAttr X.K C f) (hl:fs.length<1000) (ry:RelV y u)
  (h:∀ s',Inv X pins σ (upd H a (.ins C dx (de f y fs))) s'->Q () s'):wpAny (model X.prog X.w) A (setAttr (.ref a) f u) Q E s:=by
 obtain⟨mA,O,r,wi,_,ho⟩:=fu I.hok e
 have hz:(fs.map (·.1)).length<=sizeLine:=by rw[sI,sizeLine_eq]; omega
 refine oI I.kIn O c.sa c.po n.taker c.hd wi hz fun h' O' sb=>h _ ?_
 have hd:∃ o,h'.get? dx=some o:=let ⟨o,_,_,e',_⟩:=O'.ns; ⟨o,e'⟩
 refine I.write (x:=a) (e:=dx) (by rw[e]; exact True.intro) (.inr ho) (fun b q hb z=>(sb.2 b hb).trans z) hd ?_
 refine⟨by rw[aw O.ne]; exact ho,?_,O.ne,O'.obj,_,O'.ns,fun g=>?_,fun g hg=>?_⟩
 ·have:=eX f y fs; omega
 ·show RelO ((de f y fs).lookup g) (if g=f then some u else mA g)
  rw[eW]
  by_cases q:g=f
  ·rw[if_pos q,if_pos q]; exact ry
  ·rw[if_neg q,if_neg q]; exact r g
 ·by_cases q:g=f
  ·rw[q]; exact(eF f y fs).1
  ·refine(eF f y fs).2 g (wi g fun z=>hg ?_)
   show(if g=f then some u else mA g)=none
   rw[if_neg q]; exact z
theorem Inv.made (I:Inv X pins σ H s):Inv X pins σ (upd (upd H s.heap.objs.size (.own (s.heap.objs.size+1))) (s.heap.objs.size+1) (.ins C s.heap.objs.size []))
  { s with heap:=(s.heap.push PySem.W.emptyDict).push (PySem.W.instObj C s.heap.objs.size) }:=by
 have e1:(s.heap.push PySem.W.emptyDict).get? s.heap.objs.size=some PySem.W.emptyDict:=Heap.get?_push_size s.heap rfl
 have e2:((s.heap.push PySem.W.emptyDict).push (PySem.W.instObj C s.heap.objs.size)).get? (s.heap.objs.size+1)=some (PySem.W.instObj C s.heap.objs.size):=by
  have:=Heap.get?_push_size (s.heap.push PySem.W.emptyDict) (o:=PySem.W.instObj C s.heap.objs.size) rfl
  rwa [Heap.size_push] at this
 have e3:(s.heap.push PySem.W.emptyDict).Ns s.heap.objs.size (fun _=>none):=⟨PySem.W.emptyDict,#[],_,e1,U,(fun e he=>absurd he (by simp)),fun _=>rfl⟩
 have I1:=I.laid (a:=s.heap.objs.size) (o:=.own (s.heap.objs.size+1)) (h':=s.heap.push PySem.W.emptyDict) (t':=s.toks) (fun b u q=>Heap.get?_push_of_some _ q) (Nat.le_refl _) ⟨_,e1⟩
 refine I1.laid (a:=s.heap.objs.size+1) (o:=.ins C s.heap.objs.size []) (t':=s.toks) (fun b u q=>Heap.get?_push_of_some _ q) (Nat.le_of_eq (Heap.size_push _ _)) ?_
 have ne:s.heap.objs.size≠s.heap.objs.size+1:=Nat.ne_of_lt (Nat.lt_succ_self _)
 refine⟨by rw[aw ne,bi],Nat.zero_le _,ne,e2,fun _=>none,(Heap.Ns1.of_empty e3).at fun o q=>Heap.get?_push_of_some _ q,fun _=>True.intro,fun y hy=>absurd rfl hy⟩
theorem pB {prog:Program}{w:World}{env:Env}{e:Expr}{f:Str}{s:Shared} (hb:attributeBase e f env (eval e env)=eval e env)
  (h:wpAny (model prog w) A (eval e env) (fun o s₁=>wpAny (model prog w) A (getAttr o f true) Q E s₁) E s):wpAny (model prog w) A (eval (.Attribute e f pos) env) Q E s :=
 Attribute_any_ h (by rw[arm_eval_Attribute,hb])
end
inductive TF_ (K:PySem.W.Frag) (f:Str) (Q:VK) (x:V) (H:Hp):Prop
 | mk (a C dx:Addr) (fs:List (Str×V)) (v:V) (h1:x=.ref a) (h2:H a=some (.ins C dx fs)) (h3:Cls K C) (h4:NoAttr K C f) (h5:fs.lookup f=some v) (q:Q v H):TF_ K f Q x H
noncomputable def tFld (K:PySem.W.Frag) (ta:TE) (f:Str):TE:=fun σ H Q=>ta σ H (TF_ K f Q)
noncomputable def sFld (K:PySem.W.Frag) (ta tv:TE) (f:Str):TS:=fun D σ H=>tv σ H fun y H1=>ta σ H1 fun x H2=>∃ a C dx fs,x=.ref a/\H2 a=some (.ins C dx fs)/\Cls K C/\NoAttr K C f/\fs.length<1000 /\
 D.nx σ (upd H2 a (.ins C dx (de f y fs)))
section
variable {X:Cx}{o e value:Expr}{f:Str}{pos pos' tpos:Pos}{ta tv:TE}
theorem cf (he:PE X e ta) (hb:attributeBase e f X.env (eval e X.env)=eval e X.env):PE X (.Attribute e f pos) (tFld X.K ta f):=by
 intro pins s σ H Q I h
 refine pB hb (thn (he pins s σ H _ I h) fun u s1 ⟨x,H1,I1,rx,a,C,dx,fs,v,ex,ea,c,n,l,q⟩=>?_)
 subst ex
 obtain rfl:u=Value.ref a:=rx
 exact kf I1 ea c n l fun u' s2 I2 ru=>⟨v,H1,I2,ru,q⟩
theorem jZ (ha:PE X o ta) (hv:PE X value tv) (hs:swapsWith value (some (.Attribute o f pos')) pos.line X.env=pure false):PS X (.Assign [.Attribute o f pos'] value pos) (sFld X.K ta tv f):=by
 intro pins s σ H D I h
 refine plainObj_wpAny_Assign_Attribute (thn (hv pins s σ H _ I h) fun u s1 ⟨y,H1,I1,ry,q⟩=>thn (ha pins s1 σ H1 _ I1 q) fun ov s2 ⟨x,H2,I2,rx,a,C,dx,fs,ex,ea,c,n,l,q2⟩=>?_) hs
 subst ex
 obtain rfl:ov=Value.ref a:=rx
 exact jV I2 ea c n l ry fun s3 I3=>⟨σ,_,I3,q2⟩
end
section
variable {X:Cx}{pins:List (Addr×Obj)}{σ:St}{H:Hp}{s:Shared}{A:Around}{E:Value->Shared->Prop}{Q:Value->Shared->Prop}{c:Value}{b:Bool}
inductive TyOf (K:PySem.W.Frag) (H:Hp):V->Value->Prop where
 | non:TyOf K H .non (.type "NoneType")
 | bl (x:Bool):TyOf K H (.bl x) (.type "bool")
 | int (i:Int):TyOf K H (.int i) (.type "int")
 | str (x:Str):TyOf K H (.str x) (.type "str")
 | flt (x:UInt64):TyOf K H (.flt x) (.type "float")
 | lst {a:Addr}{xs:List V} (e:H a=some (.lst xs)):TyOf K H (.ref a) (.type "list")
 | frz {a:Addr}{o:Obj}{xs:List V} (e:H a=some (.frz o (.lst xs))):TyOf K H (.ref a) (.type "list")
 | tup {a:Addr}{xs:List V} (e:H a=some (.tup xs)):TyOf K H (.ref a) (.type "tuple")
 | dK {a:Addr}{kvs:List (Key×V)} (e:H a=some (.dK kvs)):TyOf K H (.ref a) (.type "dict")
 | dT {a:Addr}{kvs:List (List Key×V)} (e:H a=some (.dT kvs)):TyOf K H (.ref a) (.type "dict")
 | ins {a C dx:Addr}{fs:List (Str×V)} (e:H a=some (.ins C dx fs)) (cl:Cls K C) (ha:W.findIn K (.ref C) "__class__" = some (some (.builtin "object.__class__")))
   (hn:PySem.W.specialIn K (.builtin "object.__class__") "__get__" = some (some (.builtin "getset_descriptor.__get__"))) (htk:PySem.W.takesIn K (.builtin "object.__class__")=some true)
   (hm:PySem.W.mroIn K C (.type "object")=some true):TyOf K H (.ref a) (.ref C)
theorem lI {x:V}{u t:Value} (I:Inv X pins σ H s) (rx:RelV x u) (ty:TyOf X.K H x t) (e:PySem.W.kitOne X.K t c=some b) (h:∀ tk,Q (.bool b) { s with toks:=tk }) :
  wpAny (model X.prog X.w) A (call (.builtin "isinstance") [u,c]) Q E s:=by
 cases ty with
 | non=>cases (show u=Value.none from rx); exact PySem.W.kia_one PySem.W.kitx_none I.kIn True.intro e (fun z=>nomatch z) h
 | bl y=>cases (show u=Value.bool y from rx); exact PySem.W.kia_one PySem.W.kitx_bool I.kIn True.intro e (fun z=>nomatch z) h
 | int i=>obtain⟨t,q⟩:=(show ∃ t,u=Value.int i t from rx); cases q; exact PySem.W.kia_one PySem.W.kitx_int I.kIn True.intro e (fun z=>nomatch z) h
 | str y=>obtain⟨t,q⟩:=(show ∃ t,u=Value.str y t from rx); cases q; exact PySem.W.kia_one PySem.W.kitx_str I.kIn True.intro e (fun z=>nomatch z) h
 | flt y=>obtain⟨t,q⟩:=(show ∃ t,u=Value.float y t from rx); cases q; exact PySem.W.kia_one PySem.W.kitx_float I.kIn True.intro e (fun z=>nomatch z) h
 | @lst a xs ea=>
  cases (show u=Value.ref a from rx)
  obtain⟨_,_,n,_,h1⟩:=(show ObjOk X.prog X.w H s.heap a (.lst xs) from I.hok a _ ea)
  exact PySem.W.kia_one PySem.W.kitx_list I.kIn ⟨_,h1,U⟩ e (fun z=>nomatch z) h
 | @frz a ob xs ea=>
  cases (show u=Value.ref a from rx)
  obtain⟨_,_,_,n,_,h1⟩:=(show ObjOk X.prog X.w H s.heap a (.frz ob (.lst xs)) from I.hok a _ ea)
  exact PySem.W.kia_one PySem.W.kitx_list I.kIn ⟨_,h1,U⟩ e (fun z=>nomatch z) h
 | @tup a xs ea=>
  cases (show u=Value.ref a from rx)
  obtain⟨_,_,_,p⟩:=(show ObjOk X.prog X.w H s.heap a (.tup xs) from I.hok a _ ea)
  obtain⟨o,h1,h2,_⟩:=p
  exact PySem.W.kia_one PySem.W.kitx_tuple I.kIn ⟨o,h1,h2⟩ e (fun z=>nomatch z) h
 | @dK a kvs ea=>
  cases (show u=Value.ref a from rx)
  obtain⟨_,_,vs,_,p⟩:=(show ObjOk X.prog X.w H s.heap a (.dK kvs) from I.hok a _ ea)
  obtain⟨o,es,ep,h1,h2,_⟩:=p
  exact PySem.W.kia_one PySem.W.kitx_dict I.kIn ⟨o,h1,h2.1⟩ e (fun z=>nomatch z) h
 | @dT a kvs ea=>
  cases (show u=Value.ref a from rx)
  obtain⟨_,_,xs,_,o,es,ep,h1,h2,_⟩:=(show ObjOk X.prog X.w H s.heap a (.dT kvs) from I.hok a _ ea)
  exact PySem.W.kia_one PySem.W.kitx_dict I.kIn ⟨o,h1,h2.1⟩ e (fun z=>nomatch z) h
 | @ins a C dx fs ea cl ha hn htk hm=>
  cases (show u=Value.ref a from rx)
  obtain⟨mA,O,_⟩:=fu I.hok ea
  obtain⟨od,J,_⟩:=O.look
  exact PySem.W.kia_one (PySem.W.kitx_own (cl.get _) cl.hd ha hn htk hm) I.kIn J e (fun z=>nomatch z) h
end
structure Room (k:Nat) (A:Around):Prop where
 hd:A.handled=none
 dp:A.depth+3*k+5<recursionLimit
 un:A.units+16*k+200<cLine
 gd:A.guards=some []
theorem Room.mono {j k:Nat} (r:Room k A) (h:j<=k):Room j A:=⟨r.hd,by have:=r.dp; omega,by have:=r.un; omega,r.gd⟩
theorem Room.deeper {k:Nat} (r:Room (k+1) A) (env:Env):Room k (A.deeper env) :=
 ⟨r.hd,by have:=r.dp; show A.depth+1+3*k+5<_; omega,by have:=r.un; show A.units+3+16*k+200<_; omega,r.gd⟩
theorem kc {C:Addr}:(A.under (.builtin "type.__call__" ⟨.ref C::us,kw⟩)).depth=A.depth+1:=by
 first | rfl | simp[Around.under,Code.weight,Code.isCreation,Code.isGuard,Code.isCaller,Code.frames,Code.isFrame,guardIds]
theorem ka {C:Addr}:(A.under (.builtin "type.__call__" ⟨.ref C::us,kw⟩)).units=A.units+1:=by
 first | rfl | simp[Around.under,Code.cUnits,Code.frames,Code.isFrame]
theorem jv {C:Addr}:(A.under (.builtin "type.__call__" ⟨.ref C::us,kw⟩)).guards=A.guards:=by
 cases h:A.guards with
 | none=>simp[Around.under,Code.guards,Code.isGuard,guardIds,pushGuards,h]
 | some l=>simp[Around.under,Code.guards,Code.isGuard,guardIds,pushGuards,h]
theorem Room.make {k:Nat} (r:Room (k+1) A) (C:Addr) (us:List Value) (kw:List (Str×Value)):Room k (A.under (.builtin "type.__call__" ⟨.ref C::us,kw⟩)) :=
 ⟨r.hd,by have:=r.dp; rw[kc]; omega,by have:=r.un; rw[ka]; omega,by rw[jv]; exact r.gd⟩
theorem Room.depth {k:Nat} (r:Room k A):A.depth<recursionLimit:=by have:=r.dp; omega
theorem Room.units {k:Nat} (r:Room k A):A.units+64<cLine:=by have:=r.un; omega
noncomputable def jR:TA:=fun _ H Q=>Q [] H
noncomputable def da (ta:TE) (tr:TA):TA:=fun σ H Q=>ta σ H fun x H1=>tr σ H1 fun xs H2=>Q (x::xs) H2
section
variable {X:Cx}{e:Expr}{es:List Expr}{te:TE}{t:TA}{pos:Pos}
theorem ad:PA X [] jR:=fun _ _ _ _ H Q I h=>Calls.spliced_nil ⟨[],H,I,.nil,h⟩
theorem aa (ha:PE X e te) (hr:PA X es t) (hs:starEach (e::es) X.env=(false,eval e X.env)::starEach es X.env:=by rfl):PA X (e::es) (da te t):=by
 intro pos pins s σ H Q I h
 rw[hs]
 show wpAny _ _ (spliced ((false,eval e X.env)::backTo pos (starEach es X.env))) _ _ s
 refine Calls.spliced_cons (thn (ha pins s σ H _ I h) fun u s1 ⟨x,H1,I1,r1,q1⟩=>?_)
 exact thn (hr pos pins s1 σ H1 _ I1 q1) fun us s2 ⟨xs,H2,I2,r2,q2⟩=>⟨x::xs,H2,I2,.cons r1 r2,q2⟩
noncomputable def qh (t:TA):TE:=fun σ H Q=>t σ H fun xs H1=>xs.length<=sizeLine/\∀ p,H1 p=none->Q (.ref p) (upd H1 p (.tup xs))
noncomputable def tLst (t:TA):TE:=fun σ H Q=>t σ H fun xs H1=>xs.length<=sizeLine/\∀ p,H1 p=none->Q (.ref p) (upd H1 p (.lst xs))
theorem aF {x1} (h:PA X es t):PE X (.Tuple es x1 pos) (qh t):=by
 intro pins s σ H Q I hq
 refine wpAny_Tuple_spliced (thn (h pos pins s σ H _ I hq) fun us s1 ⟨xs,H1,I1,r,z,q⟩=>⟨by rw[<- r.length]; exact z,?_⟩)
 have hf:H1 s1.heap.objs.size=none:=I1.hok.fresh (Nat.le_refl _)
 refine⟨.ref s1.heap.objs.size,upd H1 s1.heap.objs.size (.tup xs),I1.laid (t':=s1.toks) (fun b u e=>Heap.get?_push_of_some _ e) (Nat.le_refl _) ?_,U,q _ hf⟩
 exact⟨z,us,r,⟨_,Heap.get?_push_size _ rfl,U,_,U⟩⟩
theorem aV (h:PA X es t):PE X (.List es pos) (tLst t):=by
 intro pins s σ H Q I hq
 refine wpAny_List_spliced (thn (h pos pins s σ H _ I hq) fun us s1 ⟨xs,H1,I1,r,z,q⟩=>⟨by rw[<- r.length]; exact z,?_⟩)
 have hf:H1 s1.heap.objs.size=none:=I1.hok.fresh (Nat.le_refl _)
 refine⟨.ref s1.heap.objs.size,upd H1 s1.heap.objs.size (.lst xs),I1.laid (t':=s1.toks) (fun b u e=>Heap.get?_push_of_some _ e) (Nat.le_refl _) ?_,U,q _ hf⟩
 exact⟨z,us,0,r,Heap.get?_push_size _ rfl⟩
end
noncomputable abbrev Sp:=List V->Hp->VK->XK->Prop
noncomputable abbrev CXT:=List Env->Hp->Shared->XK->Value->Shared->Prop
structure Env0 (P:Program) (w:World) (K:PySem.W.Frag) (mg:Str->Option Value) (base:Heap) (A:Around) (outer:List Env) (s:Shared) (H:Hp):Prop where
 frames:A.frames=some outer
 mod:Mod K mg base
 bs:∀ b o,base.get? b=some o->s.heap.get? b=some o/\H b=none
 bsz:base.objs.size<=s.heap.objs.size
 funs:s.heap.FunFrames base outer
 frf:∀ b ∈ frs outer,H b=none
 hok:HOk P w H s.heap
 bare:AllBare s.gens
noncomputable def CE (outer:List Env) (P:Program) (w:World) (H:Hp) (s:Shared) (Q:VK) (u:Value) (s':Shared):Prop :=
 ∃ v H',s'.os=s.os/\AllBare s'.gens/\Un (frs outer) [] H H' s.heap s'.heap/\HOk P w H' s'.heap/\RelV v u/\Q v H'
noncomputable def CR (CX:CXT) (outer:List Env) (P:Program) (w:World) (H:Hp) (s:Shared) (Q:VK) (E:XK) (r:Result) (s':Shared):Prop :=
 match r with
 | .ok (.ret u)=>CE outer P w H s Q u s'
 | .ok _=>False
 | .error e=>CX outer H s E e s'
structure FnOk (P:Program) (w:World) (K:PySem.W.Frag) (mg:Str->Option Value) (base:Heap) (CX:CXT) (k:Nat) (f:Addr) (fd:FuncData) (ps:List Str) (sp:Sp):Prop where
 len:∀ vs H Q E,sp vs H Q E->vs.length=ps.length
 run:∀ (A:Around) (outer:List Env) (s:Shared) (H:Hp) (args:Args) (us:List Value) (vs:List V) (Q:VK) (E:XK),Room k A->Env0 P w K mg base A outer s H->BindsTo s fd args (ps.zip us)->Vals vs us->sp vs H Q E ->
  codeAny (model P w) A (.call (.ref f) args) (CR CX outer P w H s Q E) s
variable{mg:Str->Option Value}
theorem Env0.make {w:World}{base:Heap}{outer:List Env} (e:Env0 P w K mg base A outer s H) (C:Addr) (us:List Value) (kw:List (Str×Value)) :
  Env0 P w K mg base (A.under (.builtin "type.__call__" ⟨.ref C :: us,kw⟩)) outer s H:=⟨by first | exact e.frames | (simpa [Around.under,Code.envs,Code.isFrame,pushEnvs] using e.frames),e.mod,e.bs,e.bsz,e.funs,e.frf,e.hok,e.bare⟩
section
variable {X:Cx}{pins:List (Addr×Obj)}{σ:St}{H:Hp}{s s':Shared}
theorem Inv.env0 (I:Inv X pins σ H s):Env0 X.prog X.w X.K X.mg X.base X.A X.stack s H :=
 ⟨I.ok.frames,I.ok.mod,I.bs,Nat.le_trans I.ok.bsz I.sz,I.stack,I.stkFree,I.hok,I.bare⟩
theorem Inv.after {Q:VK} (I:Inv X pins σ H s) (h:CE X.stack X.prog X.w H s Q u s'):EP X pins σ Q u s':=by
 obtain⟨v,H',os,bare,un,hok,r,q⟩:=h
 obtain⟨hh,g,d,t,os'⟩:=s'
 obtain rfl:os'=s.os:=os
 exact⟨v,H',I.call (h':=hh) (g':=g) (d':=d) (t':=t) (ch:=[]) un hok bare (fun b z=>absurd z (by simp)),r,q⟩
end
noncomputable def pI (sp:Sp) (dvs:List V) (E:XK) (t:TA):TE:=fun σ H Q=>t σ H fun vs H1=>sp (vs++dvs) H1 Q E
inductive TM_ (C:Addr) (m:Str) (x:V) (H:Hp) (R:Prop):Prop
 | mk (a dx:Addr) (fs:List (Str×V)) (h1:x=.ref a) (h2:H a=some (.ins C dx fs)) (h3:fs.lookup m=none) (q:R):TM_ C m x H R
noncomputable def pH (C:Addr) (m:Str) (sp:Sp) (dvs:List V) (E:XK) (ta:TE) (t:TA):TE:=fun σ H Q=>ta σ H fun x H1=>TM_ C m x H1 (t σ H1 fun vs H2=>sp (x::(vs++dvs)) H2 Q E)
noncomputable def tMake (C:Addr) (sp:Sp) (dvs:List V) (E:XK) (t:TA):TE:=fun σ H Q=>t σ H fun vs H1=>∀ x dx,H1 x=none->H1 dx=none->dx≠x ->
 sp (.ref x::(vs++dvs)) (upd (upd H1 dx (.own x)) x (.ins C dx [])) (fun v H2=>v=.non/\Q (.ref x) H2) E
noncomputable def Binds (K:PySem.W.Frag) (fd:FuncData) (ps:List Str) (ds:List Value):Prop :=
 ∀ (s:Shared) (us:List Value),K.In s.heap->(us++ds).length=ps.length->BindsTo s fd ⟨us,[]⟩ (ps.zip (us++ds))
theorem Binds.all {fd:FuncData}{ps:List Str} (h:∀ us:List Value,us.length=ps.length->bindArgs fd ⟨us,[]⟩=pure (ps.zip us)):Binds K fd ps []:=fun s us _ hl=>by
 rw[tG] at hl ⊢
 exact .of_eq (h us hl)
noncomputable def cI (CX:CXT) (X:Cx) (E:XK):Prop:=∀ (pins:List (Addr×Obj)) (σ:St) (H:Hp) (s:Shared) (e:Value) (s':Shared),Inv X pins σ H s->CX X.stack H s E e s'->X.xe e s'
section
variable {X:Cx}{CX:CXT}{k:Nat}{f C:Addr}{fd:FuncData}{ps:List Str}{sp:Sp}{dvs:List V}{ds:List Value}{E:XK}{x m:Str}{p pos apos:Pos}{e o:Expr}{es:List Expr}{ta:TE}{t:TA}
theorem jW {Q:VK}{us:List Value}{vs:List V} (F:FnOk X.prog X.w X.K X.mg X.base CX k f fd ps sp) (hr:Room k X.A) (hb:Binds X.K fd ps ds) (hd:Vals dvs ds) (hx:cI CX X E)
  (I:Inv X pins σ H s) (r:Vals vs us) (h:sp (vs++dvs) H Q E):wpAny (model X.prog X.w) X.A (call (.ref f) us) (EP X pins σ Q) X.xe s:=by
 have r2:Vals (vs++dvs) (us++ds):=r.append hd
 have hl:(us++ds).length=ps.length:=by rw[<- r2.length]; exact F.len _ _ _ _ h
 refine wpAny_call (codeAny_mono (F.run X.A X.stack s H ⟨us,[]⟩ (us++ds) (vs++dvs) Q E hr I.env0 (hb s us I.kIn hl) r2 h) fun r s' hq=>?_)
 cases r with
 | error e=>exact hx pins σ H s e s' I hq
 | ok fl=>
  cases fl with
  | ret u=>exact I.after hq
  | next=>exact False.elim hq
  | brk=>exact False.elim hq
  | cont=>exact False.elim hq
theorem bu (F:FnOk X.prog X.w X.K X.mg X.base CX k f fd ps sp) (hr:Room k X.A) (hg:Gl X x) (hm:X.mg x=some (.ref f)) (hk:W.keepIn X.K (.ref f)=true) (hb:Binds X.K fd ps ds) (hd:Vals dvs ds) (hx:cI CX X E)
  (ha:PA X (e::es) t) (hdb:(x == ("__debug__" : Str))=false:=by decide) (he:starEach (e::es) X.env=(false,eval e X.env)::starEach es X.env:=by rfl) (hpl:(backTo pos (starEach es X.env)).any (·.1)=false:=by rfl) :
  PE X (.Call (.Name x p) (e::es) [] pos) (pI sp dvs E t):=by
 intro pins s σ H Q I h
 refine wpAny_Call_Name_kw (cV I hg hm ?_ hdb)
 refine PySem.W.callWith_K (h₀:=X.base) I.ok.mod.kin hk (thn (ha pos pins s σ H _ I h) fun us s1 ⟨vs,H1,I1,r,q⟩=>⟨I1.kIn,?_⟩) he hpl
 exact jW F hr hb hd hx I1 r q
theorem dU {nr:Nat} (he:PE X o ta) (c:Cls X.K C) (hm:Meth X.K C m f) (F:FnOk X.prog X.w X.K X.mg X.base CX k f fd ps sp) (hr:Room nr X.A) (hb:Binds X.K fd ps ds) (hd:Vals dvs ds) (hx:cI CX X E) (ha:PA X (e::es) t)
  (hst:starEach (e::es) X.env=(false,eval e X.env)::starEach es X.env:=by rfl) (hpl:(backTo pos (starEach es X.env)).any (·.1)=false:=by rfl)
  (ht:eval (.Call (.Attribute o m apos) (e::es) [] pos) X.env=(do
   let ov <- eval o X.env
   standAt apos.atName
   let (f,first) <- holding [ov] (getMethod ov m pl)
   callWith pos f first (backTo pos (starEach (e::es) X.env)) (backToKw pos (keywordEach [] X.env))):=by rfl) (hj:k<=nr:=by decide) :
  PE X (.Call (.Attribute o m apos) (e::es) [] pos) (pH C m sp dvs E ta t):=by
 intro pins s σ H Q I h
 refine PySem.W.methodCall_KW (pl:=pl) (thn (he pins s σ H _ I h) fun u s1 ⟨x,H1,I1,rx,a,dx,fs,ex,ea,l,q⟩=>?_) ht
 subst ex
 obtain rfl:u=Value.ref a:=rx
 refine fZ I1 ea c hm l ?_
 refine PySem.W.callWith_K (first:=[.ref a]) (h₀:=X.base) I.ok.mod.kin hm.kp (thn (ha pos pins s1 σ H1 _ I1 q) fun us s2 ⟨vs,H2,I2,r,q2⟩=>⟨I2.kIn,?_⟩) hst hpl
 exact jW (us:=.ref a::us) (vs:=.ref a::vs) F (hr.mono hj) hb hd hx I2 (.cons rfl r) q2
theorem bz {nr:Nat} (he:PE X o ta) (c:Cls X.K C) (hm:Meth X.K C m f) (F:FnOk X.prog X.w X.K X.mg X.base CX k f fd ps sp) (hr:Room nr X.A) (hb:Binds X.K fd ps ds) (hd:Vals dvs ds) (hx:cI CX X E)
  (ht:eval (.Call (.Attribute o m apos) [] [] pos) X.env=(do
   let ov <- eval o X.env
   standAt apos.atName
   let (f,first) <- holding [ov] (getMethod ov m pl)
   callWith pos f first (backTo pos (starEach [] X.env)) (backToKw pos (keywordEach [] X.env))):=by rfl) (hj:k<=nr:=by decide) :
  PE X (.Call (.Attribute o m apos) [] [] pos) (pH C m sp dvs E ta jR):=by
 intro pins s σ H Q I h
 refine PySem.W.methodCall_KW (pl:=pl) (thn (he pins s σ H _ I h) fun u s1 ⟨x,H1,I1,rx,a,dx,fs,ex,ea,l,q⟩=>?_) ht
 subst ex
 obtain rfl:u=Value.ref a:=rx
 refine fZ I1 ea c hm l ?_
 exact PySem.W.callWith_K0 (first:=[.ref a]) I1.kIn hm.kp (jW (us:=[.ref a]) (vs:=[.ref a]) F (hr.mono hj) hb hd hx I1 (.cons rfl .nil) q)
structure Mk (K:PySem.W.Frag) (C f:Addr):Prop where
 makes:W.makesIn K C=true
 init:W.findIn K (.ref C) "__init__" = some (some (.ref f))
 fn:W.isFn K (.ref f)=true
 kp:W.keepIn K (.ref C)=true
theorem mE {Q:VK}{vs:List V} (M:Mk X.K C f) (F:FnOk X.prog X.w X.K X.mg X.base CX k f fd ps sp) (hr:Room (k+1) X.A) (hb:Binds X.K fd ps ds) (hd:Vals dvs ds)
  (hx:cI CX X E) (I:Inv X pins σ H s) (r:Vals vs us)
  (h:∀ x dx,H x=none->H dx=none->dx≠x->sp (.ref x::(vs++dvs)) (upd (upd H dx (.own x)) x (.ins C dx [])) (fun v H2=>v=.non/\Q (.ref x) H2) E) :
  wpAny (model X.prog X.w) X.A (call (.ref C) us) (EP X pins σ Q) X.xe s:=by
 have hq:=h (s.heap.objs.size+1) s.heap.objs.size (I.hok.fresh (Nat.le_succ _)) (I.hok.fresh (Nat.le_refl _)) (Nat.ne_of_lt (Nat.lt_succ_self _))
 have I2:=Inv.made (C:=C) I
 have r2:Vals (V.ref (s.heap.objs.size+1)::(vs++dvs)) (Value.ref (s.heap.objs.size+1)::(us++ds)):=.cons rfl (r.append hd)
 have hl:(Value.ref (s.heap.objs.size+1)::us++ds).length=ps.length:=by
  have e:=r2.length
  rw[F.len _ _ _ _ hq] at e
  exact e.symm
 refine wpAny_call (nu (f:=f) I.kIn M.makes M.init (beq_iff_eq.mp M.fn) (codeAny_mono (F.run _ X.stack _ _ ⟨Value.ref (s.heap.objs.size+1)::us,[]⟩ (Value.ref (s.heap.objs.size+1)::(us++ds)) _ _ E (hr.make C us [])
  (I2.env0.make C us []) (hb _ (Value.ref (s.heap.objs.size+1)::us) I2.kIn hl) r2 hq) fun r s' hq'=>?_))
 cases r with
 | error e=>exact hx pins σ _ _ e s' I2 hq'
 | ok fl=>
  cases fl with
  | ret u=>
   obtain⟨v,H',I3,rv,ev,q3⟩:=I2.after hq'
   subst ev
   exact⟨rv,⟨V.ref (s.heap.objs.size+1),H',I3,U,q3⟩⟩
  | next=>exact False.elim hq'
  | brk=>exact False.elim hq'
  | cont=>exact False.elim hq'
theorem kK (M:Mk X.K C f) (F:FnOk X.prog X.w X.K X.mg X.base CX k f fd ps sp) (hr:Room (k+1) X.A) (hg:Gl X x) (hm:X.mg x=some (.ref C)) (hb:Binds X.K fd ps ds) (hd:Vals dvs ds) (hx:cI CX X E)
  (ha:PA X (e::es) t) (hdb:(x == ("__debug__" : Str))=false:=by decide) (he:starEach (e::es) X.env=(false,eval e X.env)::starEach es X.env:=by rfl) (hpl:(backTo pos (starEach es X.env)).any (·.1)=false:=by rfl) :
  PE X (.Call (.Name x p) (e::es) [] pos) (tMake C sp dvs E t):=by
 intro pins s σ H Q I h
 refine wpAny_Call_Name_kw (cV I hg hm ?_ hdb)
 refine PySem.W.callWith_K (h₀:=X.base) I.ok.mod.kin M.kp (thn (ha pos pins s σ H _ I h) fun us s1 ⟨vs,H1,I1,r,q⟩=>⟨I1.kIn,?_⟩) he hpl
 exact mE M F hr hb hd hx I1 r q
end
section
variable {X:Cx}{CX:CXT}{k:Nat}{f C:Addr}{fd:FuncData}{ps ks:List Str}{sp:Sp}{E:XK}{x m:Str}{p pos apos kpos:Pos}{e o:Expr}{es:List Expr}{kws:List Keyword}{te ta:TE}{t tk:TA}{nm:Option Str}
structure KBinds (K:PySem.W.Frag) (fd:FuncData) (ps ks:List Str) (g:List Value->List Value->List Value) (gV:List V->List V->List V):Prop where
 to:∀ (s:Shared) (us ws:List Value),K.In s.heap->(g us ws).length=ps.length->BindsTo s fd ⟨us,ks.zip ws⟩ (ps.zip (g us ws))
 rel:∀ {vs:List V}{us:List Value}{zs:List V}{ws:List Value},Vals vs us->Vals zs ws->Vals (gV vs zs) (g us ws)
variable {g:List Value->List Value->List Value}{gV:List V->List V->List V}
end
structure FnScope (N P:List Str) (sc:Scope):Prop where
 kind:sc.kind=.function:=by rfl
 co:sc.isCoroutine=false:=by rfl
 gen:sc.isGenerator=false:=by rfl
 nd:N.Nodup:=by decide +kernel
 pre:N.take P.length=P:=by rfl
 par:∀ x ∈ P,sc.names.lookup x=some .local∨sc.names.lookup x=some .cell:=by decide +kernel
 nofree:∀ y ∈ sc.names,y.2≠.free:=by decide +kernel
theorem hZ {kindOf : Str->Option NameKind}{x : Str} : ∀ {binds : List (Str×Value)}{m : Str->Option Value}, (∀ v, (x, v) ∉ binds)->bindL kindOf binds m x=m x
  | [], _, _=>rfl
  | (n, v) :: r, m, h => by
    unfold bindL
    rw[hZ fun w hw=>h w (sH _ hw)]
    split
    · have : x≠n := by rintro rfl; exact h v sM
      simp[this]
    · rfl
theorem ie {kindOf : Str->Option NameKind}{x : Str} : ∀ {binds : List (Str×Value)}{m : Str->Option Value}, (∀ v, (x, v) ∉ binds)->bindC kindOf binds m x=m x
  | [], _, _=>rfl
  | (n, v) :: r, m, h => by
    unfold bindC
    rw[ie fun w hw=>h w (sH _ hw)]
    split
    · rfl
    · have : x≠n := by rintro rfl; exact h v sM
      simp[this]
theorem ic {kindOf:Str->Option NameKind}{x:Str}{v:Value}:∀ {P:List Str}{vs:List Value}{i:Nat}{m:Str->Option Value},P.Nodup->P[i]?=some x->vs[i]?=some v->kindOf x=some .local ->
  bindL kindOf (P.zip vs) m x=some v
 | [],_,_,_,_,h,_,_=>by simp at h
 | _::_,[],_,_,_,_,h,_=>by simp at h
 | p::P,w::vs,0,m,nd,h1,h2,hk=>by
  simp at h1 h2; subst h1; subst h2
  show bindL kindOf ((p,w)::P.zip vs) m p=_
  unfold bindL
  rw[hZ fun v hv=>(List.nodup_cons.mp nd).1 (List.of_mem_zip hv).1,if_pos hk]
  simp
 | p::P,w::vs,i+1,m,nd,h1,h2,hk=>by
  show bindL kindOf ((p,w)::P.zip vs) m x=_
  unfold bindL
  exact ic (i:=i) (List.nodup_cons.mp nd).2 (by simpa using h1) (by simpa using h2) hk
theorem ig {kindOf:Str->Option NameKind}{x:Str}{v:Value}:∀ {P:List Str}{vs:List Value}{i:Nat}{m:Str->Option Value},P.Nodup->P[i]?=some x->vs[i]?=some v->kindOf x≠some .local ->
  bindC kindOf (P.zip vs) m x=some v
 | [],_,_,_,_,h,_,_=>by simp at h
 | _::_,[],_,_,_,_,h,_=>by simp at h
 | p::P,w::vs,0,m,nd,h1,h2,hk=>by
  simp at h1 h2; subst h1; subst h2
  show bindC kindOf ((p,w)::P.zip vs) m p=_
  unfold bindC
  rw[ie fun v hv=>(List.nodup_cons.mp nd).1 (List.of_mem_zip hv).1,if_neg hk]
  simp
 | p::P,w::vs,i+1,m,nd,h1,h2,hk=>by
  show bindC kindOf ((p,w)::P.zip vs) m x=_
  unfold bindC
  exact ig (i:=i) (List.nodup_cons.mp nd).2 (by simpa using h1) (by simpa using h2) hk
noncomputable def start (N:List Str) (vs:List V):St:=vs.map some++List.replicate (N.length - vs.length) none
noncomputable def cP (CX:CXT) (P:Program) (w:World) (K:PySem.W.Frag) (mg:Str->Option Value) (base:Heap) (N:List Str) (qual:Str) (scope:Scope) (f:Addr) (cd:Value) (A:Around) (outer:List Env) (s:Shared) (H:Hp) (E:XK):Cx where
 prog:=P
 w:=w
 K:=K
 mg:=mg
 base:=base
 A:=A.deeper (envOfC qual scope s.heap.objs.size f cd)
 N:=N
 s₀:=s
 H₀:=H
 env:=envOfC qual scope s.heap.objs.size f cd
 outer:=outer
 stack:=envOfC qual scope s.heap.objs.size f cd::outer
 ex:=[]
 calm:=true
 fn:=fun _=>true
 pn:=[]
 xe:=fun e s'=>wpAny (model P w) (A.deeper (envOfC qual scope s.heap.objs.size f cd)) (leaving (envOfC qual scope s.heap.objs.size f cd) e) (fun _ s''=>CX outer H s E e s'') (fun e' s''=>CX outer H s E e' s'') s'
theorem jH {sc:Scope}{n:Nat}{x:Str} (h:sc.names.lookup x=some .cell):∃ c,(cellsFrom n sc.names []).lookup x=some c:=by
 have q:=PySem.W.cellsFrom_some sc.names n [] (.inl h)
 exact Option.isSome_iff_exists.mp q
theorem eI {CX:CXT}{w:World}{base:Heap}{N ps:List Str}{qual:Str}{scope:Scope}{f:Addr}{cd:Value}{outer:List Env}{s s1:Shared}{E:XK}{vs:List V}
  (S:FnScope N ps scope) (hd:A.handled=none) (e0:Env0 P w K mg base A outer s H) (hl:vs.length=ps.length) (r:Vals vs us)
  (x:InCallC s s.heap.objs.size (bindL (envOfC qual scope s.heap.objs.size f cd).kindOf (ps.zip us) fun _=>none) (cellsFrom (s.heap.objs.size+1) scope.names []) (bindC (envOfC qual scope s.heap.objs.size f cd).kindOf (ps.zip us) fun _=>none) s1) :
  Inv (cP CX P w K mg base N qual scope f cd A outer s H E) [] (start N vs) H s1:=by
 have hpl:ps.length<=N.length:=by have:=congrArg List.length S.pre; rw[tx] at this; omega
 obtain⟨h1,tk,rfl,hk⟩:=x.done
 have noA:∀ b:Addr,b ∉ (cP CX P w K mg base N qual scope f cd A outer s H E).ex:=fun b z=>absurd (show b ∈ ([]:List Addr) from z) (by simp)
 refine⟨⟨e0.mod,S.kind,U,U,Nat.le_refl _,fun y z c h1 h2=>?_,fun y hy=>?_,fun y c _ h=>?_,fun _=>hd,Around.frames_deeper e0.frames,.inr ⟨U,U⟩,fun b z=>absurd z (noA b),e0.bs,e0.bsz,fun b _ _=>noA b,fun b z=>absurd z (noA b),e0.funs,e0.frf⟩,
  rfl,e0.bare,Un.kept hk,⟨_,x.toInCall.ns,fun i y v h1 h2 h3=>?_⟩,fun y c h=>⟨_,x.cell y c h⟩,e0.hok.fresh (Nat.le_refl _),fun y c h=>?_,fun p hp=>absurd (show p ∈ ([]:List (Addr×Obj)) from hp) (by simp),e0.hok.kept hk,?_⟩
 ·exact name_of_addr x.apart (PySem.mem_of_lookup h1) (PySem.mem_of_lookup h2)
 ·have hy:scope.names.lookup y=some .cell∨scope.names.lookup y=some .free:=hy
  rcases hy with hy | hy
  ·exact jH hy
  ·exact absurd rfl (S.nofree _ (PySem.mem_of_lookup hy))
 ·exact Nat.le_of_lt (x.above y c (PySem.mem_of_lookup h))
 ·have hi:i<vs.length:=by
   unfold start at h2
   by_cases hi:i<vs.length
   ·exact hi
   ·rw[tf (by simpa using hi)] at h2
    rw[List.getElem?_replicate] at h2
    split at h2 <;> cases h2
  have ha:vs[i]?=some v:=by
   unfold start at h2
   rw[tm (by simpa using hi),sN] at h2
   cases e:vs[i]? with
   | none=>rw[e] at h2; cases h2
   | some a=>rw[e] at h2; cases h2; rfl
  obtain⟨u,hu,rv⟩:=r.get ha
  have hp:ps[i]?=some y:=by
   rw[<- S.pre,List.getElem?_take_of_lt (by omega)]; exact h1
  have ndP:ps.Nodup:=by rw[<- S.pre]; exact S.nd.sublist (List.take_sublist _ _)
  refine⟨u,rv,?_⟩
  rcases S.par y (sL hp) with k | k
  ·exact .inl ⟨k,ic ndP hp hu k⟩
  ·obtain⟨c,e⟩:=jH (n:=s.heap.objs.size+1) k
   refine .inr ⟨.inl k,c,e,?_⟩
   have q:=x.cell y c e
   rw[ig ndP hp hu (by show scope.names.lookup y≠_; rw[k]; decide)] at q
   exact q
 ·exact e0.hok.fresh (Nat.le_of_lt (x.above y c (PySem.mem_of_lookup h)))
 ·unfold start
  show _=N.length
  rw[sW,sI,sQ]
  omega
theorem nL {CX:CXT}{w:World}{base:Heap}{k:Nat}{f:Addr}{name qual:Str}{params:Arguments}{body:List Stmt}{scope:Scope}{dV kV doc pm cdv ct oc:Value}{an od:Option Addr}
  {osl:Array (Option Value)}{N ps:List Str}{sp:Sp} (lk:K.lookup f=some ⟨oc,od,.func (W.fnOf name qual params body scope dV kV doc pm an cdv ct),osl⟩) (hcd:W.codeIn K cdv qual=true) (S:FnScope N ps scope)
  (len:∀ vs H Q E,sp vs H Q E->vs.length=ps.length)
  (hbody:∀ (A:Around) (outer:List Env) (s:Shared) (H:Hp) (vs:List V) (Q:VK) (E:XK),Room k (A.deeper (envOfC qual scope s.heap.objs.size f cdv))->sp vs H Q E ->
   ∃ t,PSs (cP CX P w K mg base N qual scope f cdv A outer s H E) body t/\t { nx:=fun _ H'=>Q .non H',rt:=Q } (start N vs) H) :
  FnOk P w K mg base CX (k+1) f (W.fnOf name qual params body scope dV kV doc pm an cdv ct) ps sp:=by
 refine⟨len,fun A outer s H args us vs Q E hr e0 hb r hsp=>?_⟩
 have hl:=len _ _ _ _ hsp
 have KX:K.In s.heap:=e0.mod.kin.keeps fun b o e=>(e0.bs b o e).1
 have lim:s.heap.NoLimit:=e0.mod.nolimit.keeps fun b o e=>(e0.bs b o e).1
 have hkind:∀ y ∈ ps.zip us,scope.names.lookup y.1=some .local∨(scope.names.lookup y.1=some .cell/\((cellsFrom (s.heap.objs.size+1) scope.names []).lookup y.1).isSome=true):=fun⟨n,v⟩ hy=>by
  rcases S.par n (List.of_mem_zip hy).1 with q | q
  ·exact .inl q
  ·exact .inr ⟨q,PySem.W.cellsFrom_some _ _ _ (.inl q)⟩
 refine codeAny_call_function hr.depth (KX _ _ lk) rfl S.co S.gen rfl (PySem.W.codeRec_of KX hcd) (hb _ _ _ _ ?_)
 refine wpAny_newFunctionEnv_cells S.kind hkind fun env he s1 x=>?_
 subst he
 refine⟨lim.keeps x.toInCall.keep,codeAny_func ?_⟩
 obtain⟨t,ht,hq⟩:=hbody A outer s H vs Q E (hr.deeper _) hsp
 have I:Inv (cP CX P w K mg base N qual scope f cdv A outer s H E) [] (start N vs) H s1:=eI S hr.hd e0 hl r x
 refine wpAny_mono (ht [] s1 (start N vs) H _ I hq) (fun fl s' hs=>?_) fun e s' hs=>hs
 have fin:∀ {σ':St}{H':Hp}{v:V}{u:Value},Inv (cP CX P w K mg base N qual scope f cdv A outer s H E) [] σ' H' s'->RelV v u->Q v H'->CE outer P w H s Q u s' :=
  fun {σ' H' v u} J rv q=>⟨v,H',J.os,J.bare,J.base,J.hok,rv,q⟩
 cases fl with
 | ret u=>
  obtain⟨v,σ',H',J,rv,q⟩:=hs
  exact fin J rv q
 | next=>
  obtain⟨σ',H',J,q⟩:=hs
  exact fin (v:=V.non) (u:=Value.none) J rfl q
 | brk=>
  obtain⟨_,_,_,q⟩:=hs
  exact False.elim q
 | cont=>
  obtain⟨_,_,_,q⟩:=hs
  exact False.elim q
section
variable {X:Cx}{x:Str}{p pos:Pos}{e:Expr}{es:List Expr}{t:TA}{id T:String}{r:List V->Hp->VK->Prop}
noncomputable def tCB (r:List V->Hp->VK->Prop) (t:TA):TE:=fun σ H Q=>t σ H fun vs H1=>r vs H1 Q
theorem aq (hc:cq X (.builtin id) r) (hg:Gl X x) (hm:X.mg x=none) (hv:bootBuiltins x=some (.builtin id)) (ha:PA X (e::es) t) (hn:x ≠ "__name__":=by decide) (hdb:(x == ("__debug__" : Str))=false:=by decide)
  (he:starEach (e::es) X.env=(false,eval e X.env)::starEach es X.env:=by rfl) (hpl:(backTo pos (starEach es X.env)).any (·.1)=false:=by rfl):PE X (.Call (.Name x p) (e::es) [] pos) (tCB r t):=by
 intro pins s σ H Q I h
 refine wpAny_Call_Name_kw (dJ I hg hm hv ?_ hn hdb)
 exact PyProof.Rows.callWith_builtin1 (thn (ha pos pins s σ H _ I h) fun us s1 ⟨vs,H1,I1,r1,q1⟩=>hc pins s1 σ H1 vs us Q I1 r1 q1) he hpl
theorem aO (hc:cq X (.type T) r) (hg:Gl X x) (hm:X.mg x=none) (hv:bootBuiltins x=some (.type T)) (ha:PA X (e::es) t) (hn:x ≠ "__name__":=by decide) (hdb:(x == ("__debug__" : Str))=false:=by decide)
  (he:starEach (e::es) X.env=(false,eval e X.env)::starEach es X.env:=by rfl) (hpl:(backTo pos (starEach es X.env)).any (·.1)=false:=by rfl):PE X (.Call (.Name x p) (e::es) [] pos) (tCB r t):=by
 intro pins s σ H Q I h
 refine wpAny_Call_Name_kw (dJ I hg hm hv ?_ hn hdb)
 exact PyProof.Rows.callWith_type1 (thn (ha pos pins s σ H _ I h) fun us s1 ⟨vs,H1,I1,r1,q1⟩=>hc pins s1 σ H1 vs us Q I1 r1 q1) he hpl
end
end L2
namespace L2
open PySem PySem.Spec PyProof.Rows
section
variable {κ:Type} [DecidableEq κ]
noncomputable def qc (kvs:List (κ×V)) (k:κ):Option V:=(kvs.find? fun kv=>decide (kv.1=k)).map (·.2)
noncomputable def qA (kvs:List (κ×V)) (k:κ) (v:V):List (κ×V) :=
 if (kvs.any fun kv=>decide (kv.1=k))=true then kvs.map (fun kv=>if kv.1=k then(kv.1,v) else kv) else kvs++[(k,v)]
noncomputable def dropK (kvs:List (κ×V)) (k:κ):List (κ×V):=kvs.filter fun kv=>decide (kv.1≠k)
end
noncomputable abbrev KT (H:Hp):List (List Key×V)->List (List Key×Addr×Value)->Prop:=Paired fun p q=>p.1=q.1/\H q.2.1=some (.tup (p.1.map kV))/\RelV p.2 q.2.2
noncomputable def DGet (H:Hp) (a:Addr) (y:V) (r:Option V):Prop :=
 (∃ kvs k,Rd H a (.dK kvs)/\y=kV k/\r=qc kvs k)∨∃ kvs k b,Rd H a (.dT kvs)/\y=.ref b/\H b=some (.tup (k.map kV))/\r=qc kvs k
noncomputable def DPut (H:Hp) (a:Addr) (y v:V) (H':Hp):Prop :=
 (∃ kvs k,H a=some (.dK kvs)/\y=kV k/\kvs.length<sizeLine/\H'=upd H a (.dK (qA kvs k v))) ∨
 ∃ kvs k b,H a=some (.dT kvs)/\y=.ref b/\H b=some (.tup (k.map kV))/\kvs.length<sizeLine/\H'=upd H a (.dT (qA kvs k v))
theorem DGet.k {H:Hp}{a:Addr}{kvs:List (Key×V)}{k:Key} (e:H a=some (.dK kvs)):DGet H a (kV k) (qc kvs k):=.inl ⟨kvs,k,.inl e,U,U⟩
theorem DPut.k {H:Hp}{a:Addr}{kvs:List (Key×V)}{k:Key}{v:V} (e:H a=some (.dK kvs)) (hl:kvs.length<sizeLine):DPut H a (kV k) v (upd H a (.dK (qA kvs k v))):=.inl ⟨kvs,k,e,U,hl,U⟩
noncomputable def sE (i:Expr):Prop:=∀ ov iv,subscripted i false ov iv=operate [ov,iv] (getItem ov iv)
theorem ow {prog:Program}{w:World}{A:Around}{E:Value->Shared->Prop}{s:Shared}{env:Env}{value slice:Expr}{pos:Pos}{T id:String}{Q:Value->Shared->Prop}
  (hl:typeLookup (.type T) "__getitem__" = pure (some (.builtin id))) (hs:sE slice)
  (h:wpAny (model prog w) A (eval value env) (fun o s₁=>wpAny (model prog w) A (eval slice env) (fun i s₂=>s₂.TypeIs o T/\wpAny (model prog w) A (getItem o i) Q E s₂) E s₁) E s) :
  wpAny (model prog w) A (eval (.Subscript value slice pos) env) Q E s:=by
 refine Subscript_ (wpAny_mono h (fun o s₁ h₁=>wpAny_mono h₁ (fun i s₂ h₂=>?_) fun _ _ x=>x) fun _ _ x=>x)
 obtain⟨hT,h₂⟩:=h₂
 unfold subscriptTail
 refine wpAny_bind ?_
 rw[getitemInPython_of_ne hT.not_modules]
 refine wpAny_bind (wpAny_specialOf hT hl ?_)
 have fin:wpAny (model prog w) A (subscripted slice false o i) (fun r s₃=>wpAny (model prog w) A (letTemporaryGo value o r >>= fun _=>pure r) Q E s₃) E s₂:=by
  rw[hs o i]
  exact wpAny_operating (wpAny_mono h₂ (fun r s₃ h₃=>wpAny_bind (wpAny_letTemporaryGo (wpAny_pure h₃))) fun _ _ x=>x)
 first
  | exact wpAny_pure (wpAny_bind fin)
  | exact wpAny_bind (wpAny_pure (wpAny_bind fin))
  | exact wpAny_bind fin
inductive TD_ (x y:V) (H:Hp) (Q:VK):Prop
 | mk (a:Addr) (v:V) (h1:x=.ref a) (h2:DGet H a y (some v)) (q:Q v H):TD_ x y H Q
structure M1 (X:Cx) (o:Expr) (m:Str) (apos:Pos) (e:Expr) (cpos:Pos):Prop where
 base:attributeBase o m X.env (eval o X.env)=eval o X.env
 few:((backTo cpos (starEach [e] X.env)).all (fun x=>!x.1) && (backToKw cpos (keywordEach [] X.env)).all (fun x=>x.1.isSome)
  && decide (([e]:List Expr).length+([]:List Keyword).length+(if ([]:List Keyword).isEmpty then 0 else 1)<30))=true
 line:(apos.endLine == cpos.line)=true
 trees:backTo cpos (starEach [e] X.env)=[(false,eval e X.env)]
structure M2 (X:Cx) (o:Expr) (m:Str) (apos:Pos) (e f:Expr) (cpos:Pos):Prop where
 base:attributeBase o m X.env (eval o X.env)=eval o X.env
 few:((backTo cpos (starEach [e,f] X.env)).all (fun x=>!x.1) && (backToKw cpos (keywordEach [] X.env)).all (fun x=>x.1.isSome)
  && decide (([e,f]:List Expr).length+([]:List Keyword).length+(if ([]:List Keyword).isEmpty then 0 else 1)<30))=true
 line:(apos.endLine == cpos.line)=true
 trees:backTo cpos (starEach [e,f] X.env)=[(false,eval e X.env),(false,eval f X.env)]
end L2
namespace HT
open PySem PyProof.Rows
section
open PySem.SeqAt
open PySem.AutoSeq1 (wpAny_loadPart')
open PySem.MeetsSeq PySem.MeetsSeq2 PySem.MeetsSeq3
end
section
variable {prog:Program}{w:World}{A:Around}{E:Value->Shared->Prop}{s:Shared}
noncomputable def sIx (n d:Nat):Option Int->Nat
 | none=>d
 | some v=>if v<0 then(v+(n:Int)).toNat else min v.toNat n
theorem qq (n d:Nat) (hd:d<=n) (o:Option Int):sIx n d o<=n:=by
 cases o with
 | none=>exact hd
 | some v=>
  show(if v<0 then(v+(n:Int)).toNat else min v.toNat n)<=n
  by_cases hv:v<0
  ·rw[if_pos hv]; omega
  ·rw[if_neg hv]; exact Nat.min_le_right _ _
theorem kZ (v:Int) (n d:Nat):(if v<0 then max (v+(n:Int)) 0 else min v (n:Int))=((sIx n d (some v):Nat):Int):=by
 show(if v<0 then max (v+(n:Int)) 0 else min v (n:Int))=(((if v<0 then(v+(n:Int)).toNat else min v.toNat n):Nat):Int)
 by_cases hv:v<0
 ·simp only[if_pos hv]; omega
 ·simp only[if_neg hv]; omega
theorem kn (lo hi:Option Int) (n:Nat):Builtin.Slice.sliceAdjust lo hi 1 (n:Int)=(((sIx n 0 lo:Nat):Int),((sIx n n hi:Nat):Int)):=by
 have h1:¬ ((1:Int)<0):=by omega
 unfold Builtin.Slice.sliceAdjust
 simp only[h1,if_false]
 refine Prod.ext ?_ ?_
 ·cases lo with
  | none=>rfl
  | some v=>exact kZ v n 0
 ·cases hi with
  | none=>rfl
  | some v=>exact kZ v n n
theorem j0 (i j:Nat):Builtin.Slice.slicePlaces (i:Int) (j:Int) 1=j - i:=by
 unfold Builtin.Slice.slicePlaces
 have h1:(1:Int) > 0:=by omega
 simp only[h1,if_true,Int.ediv_one]
 split <;> omega
theorem fK {v:Value}{o:Option Int}{Q:Option Int->Shared->Prop} (p:IsPart v o) (h:Q o s):wpAny (model prog w) A (Builtin.Slice.slicePartIndex v) Q E s:=by
 cases p with
 | none=>exact slicePart_none h
 | int i t=>exact slicePart_int h
theorem d9 {sl:Addr}{vl vu:Value}{lo hi:Option Int}{n:Nat}{Q:Int×Int×Nat->Shared->Prop} (hs:s.heap.IsSliceOf sl vl vu .none) (pl:IsPart vl lo) (pu:IsPart vu hi)
  (h:Q (((sIx n 0 lo:Nat):Int),1,sIx n n hi - sIx n 0 lo) s):wpAny (model prog w) A (Builtin.Slice.sliceApplied (.ref sl) (pure (n:Int))) Q E s:=by
 obtain⟨os,hos,hcs,hds⟩:=id hs
 unfold Builtin.Slice.sliceApplied Builtin.Slice.sliceFields
 refine wpAny_bind (wpAny_bind (wpAny_field hos hds (x:=vl) rfl (wpAny_bind (wpAny_field hos hds (x:=vu) rfl (wpAny_bind (wpAny_field hos hds (x:=.none) rfl (wpAny_pure ?_)))))))
 refine wpAny_bind (slicePart_none ?_)
 show wpAny _ _ (if ((1:Int) == 0)=true then _ else _) _ _ s
 rw[if_neg (by decide)]
 refine wpAny_bind (fK pl (wpAny_bind (fK pu (wpAny_bind (wpAny_pure ?_)))))
 show wpAny _ _ (match Builtin.Slice.sliceAdjust lo hi 1 (n:Int) with | (lo,hi) => pure (lo,(1:Int),Builtin.Slice.slicePlaces lo hi 1)) _ _ s
 rw[kn lo hi n]
 show wpAny _ _ (pure (((sIx n 0 lo:Nat):Int),(1:Int),Builtin.Slice.slicePlaces ((sIx n 0 lo:Nat):Int) ((sIx n n hi:Nat):Int) 1)) _ _ s
 rw[j0]
 exact wpAny_pure h
theorem mM (xs:Array Value) (i k:Nat):((List.range k).filterMap fun(m:Nat)=>xs[((i:Int)+(m:Int)*1).toNat]?).toArray=((xs.toList.drop i).take k).toArray:=by
 have e:(fun(m:Nat)=>xs[((i:Int)+(m:Int)*1).toNat]?)=fun m=>xs[i+m]?:=by
  funext m
  have:((i:Int)+(m:Int)*1).toNat=i+m:=by omega
  rw[this]
 rw[e]
 have:=pick_run xs i k
 rw[List.filterMap_map] at this
 have e2:((fun x=>xs[x]?) ∘ fun x=>i+x)=fun m=>xs[i+m]?:=rfl
 rw[e2] at this
 rw[this]
theorem getItem_tuple_cut {t sl:Addr}{items:Array Value}{vl vu:Value}{lo hi:Option Int}{Q:Value->Shared->Prop} (ht:IsTup s.heap t items) (hs:s.heap.IsSliceOf sl vl vu .none) (pl:IsPart vl lo) (pu:IsPart vu hi)
  (hw:¬ (sIx items.size 0 lo=0/\sIx items.size items.size hi=items.size))
  (h:Q (.ref s.heap.objs.size) { s with heap:=s.heap.push { cls:=.type "tuple",data:=.seq ((items.toList.drop (sIx items.size 0 lo)).take (sIx items.size items.size hi - sIx items.size 0 lo)).toArray } })
  (hsz:items.size<=sizeLine):wpAny (model prog w) A (getItem (.ref t) (.ref sl)) Q E s:=by
 have htake:sizeOk (.seq ((items.toList.drop (sIx items.size 0 lo)).take (sIx items.size items.size hi - sIx items.size 0 lo)).toArray):=by
  show((items.toList.drop (sIx items.size 0 lo)).take (sIx items.size items.size hi - sIx items.size 0 lo)).toArray.size<=sizeLine
  rw[sU,tx,List.length_drop,Array.length_toList]
  omega
 have hj:sIx items.size items.size hi<=items.size:=qq _ _ (Nat.le_refl _) hi
 obtain⟨os,hos,hcs,hds⟩:=id hs
 have hTs:s.TypeIs (.ref sl) "slice":=⟨os,hos,hcs⟩
 unfold getItem
 try with_reducible refine wpAny_holding ?_
 first | refine wpAny_bind (wpAny_pure ?_) | skip
 refine wpAny_bind (wpAny_sequenceKey ht.typeIs (by decide) ?_)
 refine wpAny_bind (wpAny_callSpecial?_slot (name:=Str.ofString "__getitem__") ht.typeIs PyProof.Rows.slot_tuple_getitem
  (wpAny_call_entry PyProof.Rows.slot_tuple_getitem ht.typeIs entry_tuple_getitem ?_ (args_tuple_getitem _ _)))
 show wpAny _ _ (Builtin.Tuple.tupleItemsOf (.ref t) >>= _) _ _ s
 refine wpAny_bind (tupleItemsOf_ ht ?_)
 refine wpAny_bind (wpAny_typeOf hTs ?_)
 rw[if_pos (by decide)]
 refine wpAny_bind (d9 hs pl pu ?_)
 have hno:¬ ((((sIx items.size 0 lo:Nat):Int) == 0 && (1:Int) == 1 && (sIx items.size items.size hi - sIx items.size 0 lo) == items.size)=true):=by
  intro q
  rw[Bool.and_eq_true,Bool.and_eq_true] at q
  have q1:((sIx items.size 0 lo:Nat):Int)=0:=eq_of_beq q.1.1
  have q2:sIx items.size items.size hi - sIx items.size 0 lo=items.size:=eq_of_beq q.2
  exact hw ⟨by omega,by omega⟩
 show wpAny _ _ (if (((sIx items.size 0 lo:Nat):Int) == 0 && (1:Int) == 1 && (sIx items.size items.size hi - sIx items.size 0 lo) == items.size)=true then _ else _) _ _ s
 rw[if_neg hno,mM]
 first
  | exact wpAny_bind (m:=Builtin.Tuple.tupleExact _) (wpAny_newObj_type (wpAny_pure ⟨_,rfl,wpAny_pure h⟩) htake)
  | exact wpAny_bind (m:=Builtin.Tuple.tupleExact _) (wpAny_newObj_type (wpAny_bind (wpAny_pure (wpAny_pure ⟨_,rfl,wpAny_pure h⟩))) htake)
  | exact wpAny_bind (wpAny_bind (m:=Builtin.Tuple.tupleExact _) (wpAny_newObj_type (wpAny_pure (wpAny_pure ⟨_,rfl,wpAny_pure h⟩)) htake))
  | exact wpAny_bind (wpAny_bind (m:=Builtin.Tuple.tupleExact _) (wpAny_newObj_type (wpAny_pure ⟨_,rfl,wpAny_pure h⟩) htake))
end
end HT
namespace L2
open PySem PySem.Spec PyProof.Rows
noncomputable abbrev TO:=St->Hp->(Option Int->Hp->Prop)->Prop
noncomputable def PO (X:Cx) (e:Option Expr) (t:TO):Prop :=
 ∀ (pins:List (Addr×Obj)) (s:Shared) (σ:St) (H:Hp) (Q:Option Int->Hp->Prop),Inv X pins σ H s->t σ H Q ->
  wpAny (model X.prog X.w) X.A (evalPart e X.env) (fun u s'=>∃ o H',Inv X pins σ H' s'/\IsPart u o/\Q o H') X.xe s
noncomputable def ot:TO:=fun _ H Q=>Q none H
noncomputable def tPart (t:TE):TO:=fun σ H Q=>t σ H fun x H1=>∃ i,x=.int i/\Q (some i) H1
section
variable {X:Cx}{e:Expr}{te:TE}{lo hi:Option Expr}{tl th:TO}{pos p2:Pos}
theorem bY:PO X none ot:=by
 intro pins s σ H Q I h
 rw[evalPart_none]
 exact wpAny_pure ⟨none,H,I,.none,h⟩
theorem bX (h:PE X e te):PO X (some e) (tPart te):=by
 intro pins s σ H Q I hw
 rw[evalPart_some]
 refine thn (h pins s σ H _ I hw) fun u s1 ⟨x,H1,I1,r1,q1⟩=>?_
 obtain⟨i,rfl,q⟩:=q1
 obtain⟨t,rfl⟩:=r1
 exact⟨some i,H1,I1,.int i t,q⟩
noncomputable def SlR (X:Cx) (r:V->Option Int->Option Int->Hp->VK->Prop):Prop :=
 ∀ (pins:List (Addr×Obj)) (s:Shared) (σ:St) (H:Hp) (x:V) (v vl vu:Value) (lo hi:Option Int) (sl:Addr) (Q:VK),Inv X pins σ H s->RelV x v->s.heap.IsSliceOf sl vl vu .none->IsPart vl lo->IsPart vu hi->r x lo hi H Q ->
  ∃ T id,typeLookup (.type T) "__getitem__" = pure (some (.builtin id))/\s.TypeIs v T/\wpAny (model X.prog X.w) X.A (getItem v (.ref sl)) (EP X pins σ Q) X.xe s
noncomputable def tSl (r:V->Option Int->Option Int->Hp->VK->Prop) (te:TE) (tl th:TO):TE:=fun σ H Q=>te σ H fun x H1=>tl σ H1 fun l H2=>th σ H2 fun u H3=>r x l u H3 Q
theorem bG {r:V->Option Int->Option Int->Hp->VK->Prop} (hr:SlR X r) (he:PE X e te) (hl:PO X lo tl) (hu:PO X hi th):PE X (.Subscript e (.Slice lo hi none p2) pos) (tSl r te tl th):=by
 intro pins s σ H Q I h
 refine Subscript_ (thn (he pins s σ H _ I h) fun v s1 ⟨x,H1,I1,r1,q1⟩=>?_)
 refine wpAny_Slice (thn (hl pins s1 σ H1 _ I1 q1) fun vl s2 ⟨l,H2,I2,pl,q2⟩=>thn (hu pins s2 σ H2 _ I2 q2) fun vu s3 ⟨u,H3,I3,pu,q3⟩=>?_)
 rw[evalPart_none]
 refine wpAny_pure ?_
 have I4:Inv X pins σ H3 { s3 with heap:=s3.heap.push { cls:=.type "slice",data:=.fields #[vl,vu,.none] } }:=I3.kept (t':=s3.toks) fun b ob q=>Heap.get?_push_of_some _ q
 obtain⟨T,id,hT,ht,hg⟩:=hr pins { s3 with heap:=s3.heap.push { cls:=.type "slice",data:=.fields #[vl,vu,.none] } } σ H3 x v vl vu l u s3.heap.objs.size Q I4 r1 (Heap.IsSliceOf.new ..) pl pu q3
 show wpAny (model X.prog X.w) X.A (subscriptTail e (.Slice lo hi none p2) v (.ref s3.heap.objs.size)) (EP X pins σ Q) X.xe { s3 with heap:=s3.heap.push { cls:=.type "slice",data:=.fields #[vl,vu,.none] } }
 exact tail_any (ops:=[.ref s3.heap.objs.size,v]) ht hT hg (by with_unfolding_all rfl)
noncomputable def bQ (xs:List V) (lo hi:Option Int):List V:=(xs.drop (HT.sIx xs.length 0 lo)).take (HT.sIx xs.length xs.length hi - HT.sIx xs.length 0 lo)
theorem fc (xs:List V) (lo hi:Option Int):(bQ xs lo hi).length<=xs.length:=by
 unfold bQ
 rw[tx,List.length_drop]
 omega
noncomputable def rSlT (K:PySem.W.Frag):V->Option Int->Option Int->Hp->VK->Prop:=fun x lo hi H Q=>∃ a xs,x=.ref a/\SqT K H a xs /\
 ¬ (HT.sIx xs.length 0 lo=0/\HT.sIx xs.length xs.length hi=xs.length)/\∀ p,H p=none->Q (.ref p) (upd H p (.tup (bQ xs lo hi)))
theorem jU:SlR X (rSlT X.K):=by
 intro pins s σ H x v vl vu lo hi sl Q I rx hs pl pu h
 obtain⟨a,xs,rfl,hx,hw,q⟩:=h
 cases rx
 obtain⟨its,r,ht,hz⟩:=I.tuple hx
 have hlen:its.toArray.size=xs.length:=by rw[sU]; exact r.length.symm
 refine⟨"tuple",_,PyProof.Rows.slot_tuple_getitem.lookup,ht.typeIs,?_⟩
 refine HT.getItem_tuple_cut ht hs pl pu (by rw[hlen]; exact hw) ?_ (by rw[hlen]; exact hz)
 rw[hlen]
 refine⟨.ref s.heap.objs.size,_,I.laid (t':=s.toks) (o:=.tup (bQ xs lo hi)) (fun b ob q=>Heap.get?_push_of_some _ q) (Nat.le_refl _) ?_,U,q _ (I.hok.fresh (Nat.le_refl _))⟩
 exact⟨Nat.le_trans (fc xs lo hi) hz,_,(r.drop (HT.sIx xs.length 0 lo)).take (HT.sIx xs.length xs.length hi - HT.sIx xs.length 0 lo),IsTup.new _ _⟩
end
noncomputable def ixN (n:Nat) (i:Int):Option Nat:=if 0<=i then(if i<n then some i.toNat else none) else if -(n:Int)<=i then some (i+n).toNat else none
noncomputable def atI {α:Type} (xs:List α) (i:Int):Option α:=(ixN xs.length i).bind fun j=>xs[j]?
theorem kR {n:Nat}{i:Int}{j:Nat} (h:ixN n i=some j):seqIndex? i n=some j/\j<n/\-(n:Int)<=i/\i<n:=by
 unfold ixN at h
 by_cases h0:0<=i
 ·rw[if_pos h0] at h
  by_cases h1:i<n
  ·rw[if_pos h1] at h
   have e:i.toNat=j:=Option.some.inj h
   exact⟨by rw[seqIndex_of h0 h1,e],by omega,by omega,h1⟩
  ·rw[if_neg h1] at h; cases h
 ·rw[if_neg h0] at h
  by_cases h1:-(n:Int)<=i
  ·rw[if_pos h1] at h
   have e:(i+n).toNat=j:=Option.some.inj h
   exact⟨by rw[seqIndex_neg (by omega) h1,e],by omega,h1,by omega⟩
  ·rw[if_neg h1] at h; cases h
theorem iL {α:Type}{xs:List α}{i:Int}{v:α} (h:atI xs i=some v):∃ j,seqIndex? i xs.length=some j/\xs[j]?=some v/\j<xs.length/\-(xs.length:Int)<=i/\i<xs.length:=by
 unfold atI at h
 cases e:ixN xs.length i with
 | none=>rw[e] at h; cases h
 | some j=>
  rw[e] at h
  obtain⟨h1,h2,h3,h4⟩:=kR e
  exact⟨j,h1,h,h2,h3,h4⟩
theorem aH {α:Type}{xs:List α}{j:Nat}{v:α} (h:xs[j]?=some v):atI xs (j:Int)=some v:=by
 have hj:j<xs.length:=(List.getElem?_eq_some_iff.mp h).1
 have e:ixN xs.length (j:Int)=some j:=by
  unfold ixN
  rw[if_pos (by omega),if_pos (by omega)]; simp
 unfold atI; rw[e]; exact h
theorem gw {α:Type} (xs:List α) (v:α):atI (xs++[v]) (-1)=some v:=by
 have hl:(xs++[v]).length=xs.length+1:=by simp
 have e:ixN (xs++[v]).length (-1)=some xs.length:=by
  unfold ixN
  rw[hl,if_neg (by decide),if_pos (by omega)]
  congr 1
  omega
 unfold atI
 rw[e]
 show(xs++[v])[xs.length]?=some v
 simp
noncomputable def pD (b:Expr):Prop:=∀ o i,subscripted b false o i=operate [o,i] (getItem o i)
noncomputable def IxR (X:Cx) (r:R2):Prop :=
 ∀ (value slice:Expr) (pins:List (Addr×Obj)) (s:Shared) (σ:St) (H:Hp) (x y:V) (v u:Value) (Q:VK),Inv X pins σ H s->RelV x v->RelV y u->r x y H Q ->
  subscripted slice false v u=operate [v,u] (getItem v u)->wpAny (model X.prog X.w) X.A (subscriptTail value slice v u) (EP X pins σ Q) X.xe s
noncomputable def MtR (X:Cx) (id:String) (r:V->List V->Hp->VK->Prop):Prop :=
 ∀ (pins:List (Addr×Obj)) (s:Shared) (σ:St) (H:Hp) (x:V) (xs:List V) (v:Value) (us:List Value) (Q:VK),Inv X pins σ H s->RelV x v->Vals xs us->r x xs H Q ->
  wpAny (model X.prog X.w) X.A (call (.builtin id) (v::us)) (EP X pins σ Q) X.xe s
section
variable {X:Cx}{a b:Expr}{ta tb:TE}{pos:Pos}
theorem aA {r:R2} (hr:IxR X r) (ha:PE X a ta) (hb:PE X b tb) (hs:pD b:=by exact fun _ _=>rfl):PE X (.Subscript a b pos) (tOp r ta tb):=by
 intro pins s σ H Q I h
 exact Subscript_ (rK ha hb I h fun v u s2 x y H2 I2 rx ry q=>hr a b pins s2 σ H2 x y v u Q I2 rx ry q (hs _ _))
inductive RL_ (K:PySem.W.Frag) (x y:V) (H:Hp) (Q:VK):Prop
 | mk (p:Addr) (xs:List V) (i:Int) (v:V) (h1:x=.ref p) (h2:y=.int i) (h3:SqL K H p xs) (h4:atI xs i=some v) (q:Q v H):RL_ K x y H Q
noncomputable def rY (K:PySem.W.Frag):R2:=fun x y H Q=>RL_ K x y H Q
inductive RT_ (K:PySem.W.Frag) (x y:V) (H:Hp) (Q:VK):Prop
 | mk (p:Addr) (xs:List V) (i:Int) (v:V) (h1:x=.ref p) (h2:y=.int i) (h3:SqT K H p xs) (h4:atI xs i=some v) (q:Q v H):RT_ K x y H Q
noncomputable def rIxT (K:PySem.W.Frag):R2:=fun x y H Q=>RT_ K x y H Q
noncomputable def rIxS:R2:=fun x y H Q=>∃ z i c,x=.str z/\y=.int i/\z.length<=sizeLine/\atI z.cps.toList i=some c/\Q (.str ⟨#[c]⟩) H
theorem au:IxR X (rY X.K):=by
 intro value slice pins s σ H x y v u Q I rx ry h hs
 obtain⟨p,xs,i,z,rfl,rfl,hq,he,q⟩:=h
 cases rx
 obtain⟨t,rfl⟩:=ry
 obtain⟨its,r,pl,hz⟩:=I.list hq
 obtain⟨j,h1,h2,h3,h4,h5⟩:=iL he
 obtain⟨w,ew,rw'⟩:=r.get h2
 have hl:=r.length
 have hn:=eB
 have fin:EP X pins σ Q w s:=⟨z,H,I,rw',q⟩
 by_cases h0:0<=i
 ·have hj:i.toNat=j:=by
   rw[seqIndex_of h0 h5] at h1
   exact Option.some.inj h1
  exact item_listR pl.isList h0 (by omega) (by rw[hj]; simpa using ew) fin hs
 ·have hj:(i+(its.toArray.size:Int)).toNat=j:=by
   rw[seqIndex_neg (by omega) h4] at h1
   rw[sU,<- hl]
   exact Option.some.inj h1
  exact subscriptTail_builtinR (x:=w) pl.isList.typeIs slot_list_getitem.lookup
   (wpAny_getItem_list_neg (Q:=fun r s'=>r=w/\EP X pins σ Q r s') pl.isList (by omega) (by rw[sU] <;> omega) (by omega) (by rw[hj]; simpa using ew) ⟨U,fin⟩) hs
theorem dL:IxR X (rIxT X.K):=by
 intro value slice pins s σ H x y v u Q I rx ry h hs
 obtain⟨p,xs,i,z,rfl,rfl,hq,he,q⟩:=h
 cases rx
 obtain⟨t,rfl⟩:=ry
 obtain⟨its,r,pl,hz⟩:=I.tuple hq
 obtain⟨j,h1,h2,h3,h4,h5⟩:=iL he
 obtain⟨w,ew,rw'⟩:=r.get h2
 have hl:=r.length
 have hn:=eB
 have fin:EP X pins σ Q w s:=⟨z,H,I,rw',q⟩
 exact subscriptTail_builtinR (x:=w) pl.typeIs slot_tuple_getitem.lookup
  (getItem_tuple (j:=j) (Q:=fun r s'=>r=w/\EP X pins σ Q r s') pl (by omega) (by omega) (by rw[sU,<- hl]; exact h1) (by simpa using ew) ⟨U,fin⟩) hs
theorem rz:IxR X rIxS:=by
 intro value slice pins s σ H x y v u Q I rx ry h hs
 obtain⟨z,i,c,rfl,rfl,hz,he,q⟩:=h
 obtain⟨t,rfl⟩:=rx
 obtain⟨t',rfl⟩:=ry
 obtain⟨j,h1,h2,h3,h4,h5⟩:=iL he
 have hl:z.cps.toList.length=z.length:=by simp[Str.length]
 rw[hl] at h1 h4 h5
 have hn:=eB
 exact tail_any (typeIs_str s z t) slot_str_getitem.lookup (getItem_str (c:=c) (by
  have e1:decide (i < -(2 ^ 63:Int))=false:=decide_eq_false (by omega)
  have e2:decide (i ≥ 2 ^ 63)=false:=decide_eq_false (by omega)
  rw[e1,e2,Bool.or_false]) (by rw[h1]; simpa using h2) ⟨.str ⟨#[c]⟩,H,I.tok _,⟨_,U⟩,q⟩) hs
theorem j9 (its:List Value) (n j:Nat) (u:Value):Obj.mapSeq (·.setIfInBounds j u) { cls:=.type "list",data:=.seq its.toArray n }={ cls:=.type "list",data:=.seq (its.set j u).toArray n }:=by
 simp[Obj.mapSeq]
theorem Inv.lst {pins:List (Addr×Obj)}{σ:St}{H:Hp}{s:Shared}{p:Addr}{xs:List V} (I:Inv X pins σ H s) (h:H p=some (.lst xs)) :
  ∃ (its:List Value) (n:Nat),Vals xs its/\s.heap.get? p=some { cls:=.type "list",data:=.seq its.toArray n }/\xs.length<=sizeLine:=by
 obtain⟨z,its,n,r,e⟩:=I.hok p _ h
 exact⟨its,n,r,e,z⟩
theorem Inv.lstUpd {pins:List (Addr×Obj)}{σ:St}{H:Hp}{s:Shared}{p:Addr}{xs ys:List V}{its its':List Value}{n n':Nat}{f:Obj->Obj} (I:Inv X pins σ H s) (h:H p=some (.lst xs))
  (ho:s.heap.get? p=some { cls:=.type "list",data:=.seq its.toArray n }) (hf:f { cls:=.type "list",data:=.seq its.toArray n }={ cls:=.type "list",data:=.seq its'.toArray n' }) (r:Vals ys its') (hz:ys.length<=sizeLine) (t:Nat) :
  Inv X pins σ (upd H p (.lst ys)) { s with heap:=s.heap.update p f,toks:=t }:=by
 have e:(s.heap.update p f).get? p=some { cls:=.type "list",data:=.seq its'.toArray n' }:=by
  rw[Heap.get?_update_self f ho (by rw[hf] <;> rfl),hf]
 refine I.write (x:=p) (e:=p) (by rw[h]; trivial) (.inl rfl) (fun b u hb q=>(Heap.get?_update_other _ _ (Ne.symm hb)).trans q) ⟨_,e⟩ ?_
 exact⟨hz,its',n',r,e⟩
noncomputable def rSetL:V->V->V->Hp->(Hp->Prop)->Prop:=fun o i v H Q=>∃ p xs k j,o=.ref p/\i=.int k/\H p=some (.lst xs)/\ixN xs.length k=some j/\Q (upd H p (.lst (xs.set j v)))
theorem bx:sD X rSetL:=by
 intro pins s σ H o i v ov iv u Q I ro ri rv h
 obtain⟨p,xs,k,j,rfl,rfl,hp,hj,q⟩:=h
 cases ro
 obtain⟨t,rfl⟩:=ri
 obtain⟨its,n,r,ho,hz⟩:=I.lst hp
 obtain⟨h1,h2,h3,h4⟩:=kR hj
 have hl:=r.length
 have hn:=eB
 have I':Inv X pins σ (upd H p (.lst (xs.set j v))) { s with heap:=s.heap.update p (Obj.mapSeq (·.setIfInBounds j u)) } :=
  I.lstUpd hp ho (j9 its n j u) (r.set rv j) (by rw[List.length_set]; exact hz) s.toks
 by_cases h0:0<=k
 ·have hk:k.toNat=j:=by
   rw[seqIndex_of h0 h4] at h1
   exact Option.some.inj h1
  exact PySem.W.ki_setAt ho h0 (by omega) (by rw[sU,<- hl]; exact h4) (by rw[hk]; exact⟨_,I',q⟩)
 ·have hk:(k+(its.toArray.size:Int)).toNat=j:=by
   rw[seqIndex_neg (by omega) h3] at h1
   rw[sU,<- hl]
   exact Option.some.inj h1
  exact PySem.W.ki_setBack ho (by omega) (by rw[sU,<- hl]; exact h3) (by omega) (by rw[hk]; exact⟨_,I',q⟩)
theorem ij (lo hi:Option Int) (n:Nat):(sliceBounds lo hi none n).1=((HT.sIx n 0 lo:Nat):Int)/\(sliceBounds lo hi none n).2.1=((HT.sIx n n hi:Nat):Int)/\(sliceBounds lo hi none n).2.2=1:=by
 refine⟨?_,?_,U⟩
 ·cases lo with
  | none=>simp[sliceBounds,HT.sIx]
  | some i=>
   simp only[sliceBounds,HT.sIx,Option.getD_none,show(1:Int) > 0 by decide,if_true]
   by_cases h:i<0
   ·simp only[h,if_true] <;> omega
   ·simp only[h,if_false] <;> omega
 ·cases hi with
  | none=>simp[sliceBounds,HT.sIx]
  | some i=>
   simp only[sliceBounds,HT.sIx,Option.getD_none,show(1:Int) > 0 by decide,if_true]
   by_cases h:i<0
   ·simp only[h,if_true] <;> omega
   ·simp only[h,if_false] <;> omega
theorem gF (its:List Value) (lo hi:Option Int):slicePick its.toArray lo hi none=((its.drop (HT.sIx its.length 0 lo)).take (HT.sIx its.length its.length hi - HT.sIx its.length 0 lo)).toArray:=by
 obtain⟨h1,h2,h3⟩:=ij lo hi its.toArray.size
 unfold slicePick
 rw[h1,h2,h3]
 simp only[sliceRange_one,pick_run,sU] <;> rfl
noncomputable def rSlL (K:PySem.W.Frag):V->Option Int->Option Int->Hp->VK->Prop:=fun x lo hi H Q=>∃ a xs,x=.ref a/\SqL K H a xs/\∀ p,H p=none->Q (.ref p) (upd H p (.lst (bQ xs lo hi)))
theorem dq:SlR X (rSlL X.K):=by
 intro pins s σ H x v vl vu lo hi sl Q I rx hs pl pu h
 obtain⟨a,xs,rfl,hx,q⟩:=h
 cases rx
 obtain⟨its,r,ht,hz⟩:=I.list hx
 have hlen:=r.length
 refine⟨"list",_,slot_list_getitem.lookup,ht.isList.typeIs,?_⟩
 refine wpAny_getItem_list_slice ht.isList hs pl pu .none (by simp) ?_ (by rw[sU] <;> omega)
 rw[gF,<- hlen]
 refine⟨.ref s.heap.objs.size,_,I.laid (t':=s.toks) (o:=.lst (bQ xs lo hi)) (fun b ob q=>Heap.get?_push_of_some _ q) (Nat.le_refl _) ?_,U,q _ (I.hok.fresh (Nat.le_refl _))⟩
 exact⟨Nat.le_trans (fc xs lo hi) hz,_,0,(r.drop (HT.sIx xs.length 0 lo)).take (HT.sIx xs.length xs.length hi - HT.sIx xs.length 0 lo),Heap.get?_push_size _ rfl⟩
noncomputable def fb:V->Bool
 | .non=>true
 | .bl _=>true
 | .int _=>true
 | .str _=>true
 | _=>false
noncomputable def eqV:V->V->Bool
 | .non,.non=>true
 | .bl a,.bl b=>a == b
 | .bl a,.int b=>(if a then 1 else 0) == b
 | .int a,.bl b=>a == (if b then 1 else 0)
 | .int a,.int b=>a == b
 | .str a,.str b=>a == b
 | _,_=>false
theorem rH {A:Around}{s:Shared}{y x:V}{u v:Value} (ry:RelV y u) (rx:RelV x v) (fy:fb y=true) (fx:fb x=true):SeqAt.EqAt A s u v (eqV y x):=by
 cases y with
 | non=>
  cases ry
  cases x with
  | non=>cases rx; exact SeqAt.EqAt.same _
  | bl b=>cases rx; exact SeqAt.EqAt.none_bool b
  | int b=>obtain⟨t,rfl⟩:=rx; exact SeqAt.EqAt.none_int b t
  | str b=>obtain⟨t,rfl⟩:=rx; exact SeqAt.EqAt.none_str b t
  | _=>exact absurd (show false=true from fx) Bool.false_ne_true
 | bl a=>
  cases ry
  cases x with
  | non=>cases rx; exact SeqAt.EqAt.bool_none a
  | bl b=>cases rx; exact SeqAt.EqAt.bool_bool a b
  | int b=>obtain⟨t,rfl⟩:=rx; exact SeqAt.EqAt.bool_int a b t
  | str b=>obtain⟨t,rfl⟩:=rx; exact SeqAt.EqAt.bool_str a b t
  | _=>exact absurd (show false=true from fx) Bool.false_ne_true
 | int a=>
  obtain⟨t',rfl⟩:=ry
  cases x with
  | non=>cases rx; exact SeqAt.EqAt.int_none a t'
  | bl b=>cases rx; exact SeqAt.EqAt.int_bool a t' b
  | int b=>obtain⟨t,rfl⟩:=rx; exact SeqAt.EqAt.int_int a t' b t
  | str b=>obtain⟨t,rfl⟩:=rx; exact SeqAt.EqAt.int_str a t' b t
  | _=>exact absurd (show false=true from fx) Bool.false_ne_true
 | str a=>
  obtain⟨t',rfl⟩:=ry
  cases x with
  | non=>cases rx; exact SeqAt.EqAt.str_none a t'
  | bl b=>cases rx; exact SeqAt.EqAt.str_bool a t' b
  | int b=>obtain⟨t,rfl⟩:=rx; exact SeqAt.EqAt.str_int a t' b t
  | str b=>obtain⟨t,rfl⟩:=rx; exact SeqAt.EqAt.str_str a t' b t
  | _=>exact absurd (show false=true from fx) Bool.false_ne_true
 | _=>exact absurd (show false=true from fy) Bool.false_ne_true
noncomputable def eqU (x:V) (u:Value):Bool:=match u with
 | .none=>eqV .non x
 | .bool b=>eqV (.bl b) x
 | .int i _=>eqV (.int i) x
 | .str z _=>eqV (.str z) x
 | _=>false
theorem nR {x y:V}{u:Value} (r:RelV y u) (f:fb y=true):eqU x u=eqV y x:=by
 cases y with
 | non=>cases r; rfl
 | bl b=>cases r; rfl
 | int i=>obtain⟨t,rfl⟩:=r; rfl
 | str z=>obtain⟨t,rfl⟩:=r; rfl
 | _=>exact absurd (show false=true from f) Bool.false_ne_true
theorem iM {x:V}:∀ {xs:List V}{us:List Value},Vals xs us->xs.all fb=true->us.any (eqU x)=xs.any fun y=>eqV y x
 | _,_,.nil,_=>rfl
 | y::xs,u::us,.cons r t,f=>by
  rw[List.all_cons,Bool.and_eq_true] at f
  rw[List.any_cons,List.any_cons,nR r f.1,iM t f.2]
theorem fV {A:Around}{s:Shared}{x:V}{v:Value} (rx:RelV x v) (fx:fb x=true):∀ {xs:List V}{us:List Value},Vals xs us->xs.all fb=true->∀ u ∈ us,SeqAt.EqAt A s u v (eqU x u)
 | _,_,.nil,_=>fun u hu=>by cases hu
 | y::xs,u::us,.cons r t,f=>fun u' hu=>by
  rw[List.all_cons,Bool.and_eq_true] at f
  rcases sR.mp hu with rfl | hu
  ·rw[nR r f.1]; exact rH r rx f.1 fx
  ·exact fV rx fx t f.2 u' hu
noncomputable def inV (x:V) (xs:List V):Bool:=xs.any fun y=>eqV y x
noncomputable def rIn (K:PySem.W.Frag) (neg:Bool):R2:=fun x y H Q=>∃ p xs,y=.ref p/\(SqL K H p xs∨SqT K H p xs)/\fb x=true/\xs.all fb=true/\Q (.bl (if neg then !inV x xs else inV x xs)) H
theorem dX:OpR X (compareOp .NotIn) (rIn X.K true):=by
 intro pins s σ H x y v u Q I rx ry h
 obtain⟨p,xs,rfl,hq,fx,fs,q⟩:=h
 cases ry
 rcases hq with hq | hq
 ·obtain⟨its,r,pl,hz⟩:=I.list hq
  refine SeqAt.notIn_listAt (eqU x) pl.isList (fun w hw=>fV rx fx r fs w (by simpa using hw)) ⟨.bl _,H,I,U,?_⟩
  rw[show its.toArray.any (eqU x)=its.any (eqU x) by simp,iM r fs]
  exact q
 ·obtain⟨its,r,pl,hz⟩:=I.tuple hq
  refine SeqAt.notIn_tupleAt (eqU x) pl (fun w hw=>fV rx fx r fs w (by simpa using hw)) ⟨.bl _,H,I,U,?_⟩
  rw[show its.toArray.any (eqU x)=its.any (eqU x) by simp,iM r fs]
  exact q
theorem dW:OpR X (compareOp .NotIn) (fun x y H Q=>∃ i j,x=.str i/\y=.str j/\Q (.bl (!(!(Builtin.Str.occurrences j i 0 j.length 1).isEmpty))) H):=by
 intro pins s σ H x y v u Q I rx ry h
 obtain⟨i,j,rfl,rfl,q⟩:=h
 obtain⟨t,rfl⟩:=rx
 obtain⟨t',rfl⟩:=ry
 exact notIn_str ⟨.bl _,H,I,U,q⟩
theorem av:cq X (.builtin "len") (fun xs H Q=>∃ p ys,xs=[.ref p]/\(SqL X.K H p ys∨SqT X.K H p ys)/\Q (.int ys.length) H):=by
 intro pins s σ H xs us Q I r h
 obtain⟨p,ys,rfl,hq,q⟩:=h
 obtain⟨u,rfl,rx⟩:=c8 r
 cases rx
 have hn:=eB
 rcases hq with hq | hq
 ·obtain⟨its,r',pl,hz⟩:=I.list hq
  have hlen:=r'.length
  exact Calls.call_len_list pl.isList (by simp only[sU] <;> omega) ⟨.int ys.length,H,I.tok _,⟨s.toks+1,by rw[sU,hlen]⟩,q⟩
 ·obtain⟨its,r',pl,hz⟩:=I.tuple hq
  have hlen:=r'.length
  exact len_tuple pl (by simp only[sU] <;> omega) ⟨.int ys.length,H,I.tok _,⟨s.toks+1,by rw[sU,hlen]⟩,q⟩
theorem bp:cq X (.type "list") (fun xs H Q=>∃ p ys,xs=[.ref p]/\(SqL X.K H p ys∨SqT X.K H p ys)/\∀ l,H l=none->Q (.ref l) (upd H l (.lst ys))):=by
 intro pins s σ H xs us Q I r h
 obtain⟨p,ys,rfl,hq,q⟩:=h
 obtain⟨u,rfl,rx⟩:=c8 r
 cases rx
 have fin:∀ (its:List Value),Vals ys its->ys.length<=sizeLine->∀ (h':Heap) (c':Nat),(∀ b o',s.heap.get? b=some o'->h'.get? b=some o') ->
   h'.get? s.heap.objs.size=some { cls:=.type "list",dict:=none,data:=.seq its.toArray c',slots:=#[] }->EP X pins σ Q (.ref s.heap.objs.size) { s with heap:=h' }:=fun its r' hz h' c' kp e=>
  ⟨.ref s.heap.objs.size,_,I.laid (t':=s.toks) kp (Nat.le_refl _) (show ObjOk X.prog X.w _ h' _ (.lst ys) from⟨hz,its,c',r',e⟩),U,q _ (I.hok.fresh (Nat.le_refl _))⟩
 rcases hq with hq | hq
 ·obtain⟨its,r',pl,hz⟩:=I.list hq
  have hlen:=r'.length
  obtain⟨o,ho,hc,n,hd⟩:=pl.isList
  exact call_list_seq p (.inl rfl) ho hc hd (fun h' c' kp e=>fin its r' hz h' c' kp e) (by simp only[sU] <;> omega)
 ·obtain⟨its,r',pl,hz⟩:=I.tuple hq
  have hlen:=r'.length
  obtain⟨o,ho,hc,n,hd⟩:=pl
  exact call_list_seq p (.inr rfl) ho hc hd (fun h' c' kp e=>fin its r' hz h' c' kp e) (by simp only[sU] <;> omega)
theorem dG:cq X (.type "tuple") (fun xs H Q=>∃ p ys,xs=[.ref p]/\((SqL X.K H p ys/\∀ l,H l=none->Q (.ref l) (upd H l (.tup ys)))∨(SqT X.K H p ys/\Q (.ref p) H))):=by
 intro pins s σ H xs us Q I r h
 obtain⟨p,ys,rfl,h⟩:=h
 obtain⟨u,rfl,rx⟩:=c8 r
 cases rx
 rcases h with ⟨hq,q⟩ | ⟨hq,q⟩
 ·obtain⟨its,r',pl,hz⟩:=I.list hq
  have hlen:=r'.length
  refine call_tuple_list pl.isList (fun h' kp=>?_) (by simp only[sU] <;> omega)
  have I1:Inv X pins σ H { s with heap:=h' }:=I.kept (t':=s.toks) kp
  have I2:Inv X pins σ (upd H h'.objs.size (.tup ys)) { s with heap:=h'.push { cls:=.type "tuple",data:=.seq its.toArray } } :=
   I1.laid (t':=s.toks) (fun b o e=>Heap.get?_push_of_some _ e) (Nat.le_refl _) (show ObjOk X.prog X.w _ _ _ (.tup ys) from⟨hz,its,r',IsTup.new _ _⟩)
  exact⟨.ref h'.objs.size,_,I2,U,q _ (I1.hok.fresh (Nat.le_refl _))⟩
 ·obtain⟨its,r',pl,hz⟩:=I.tuple hq
  exact call_tuple_same pl ⟨.ref p,H,I,U,q⟩
noncomputable def tyV (K:PySem.W.Frag) (T:String) (x:V) (H:Hp):Prop:=match x with
 | .str _=>T = "str"
 | .int _=>T = "int"
 | .ref p=>(T = "list" /\ ∃ xs,SqL K H p xs)∨(T = "tuple" /\ ∃ o,K.lookup p=some o/\o.cls=.type "tuple" /\ o.dict=none) ∨
   (T = "dict" /\ ((∃ kvs,H p=some (.dK kvs))∨∃ kvs,H p=some (.dT kvs)))∨(T = "set" /\ ∃ S n,H p=some (.set S n))
 | _=>False
theorem lZ {pins:List (Addr×Obj)}{σ:St}{H:Hp}{s:Shared}{T:String}{x:V}{v:Value} (I:Inv X pins σ H s) (r:RelV x v) (ty:tyV X.K T x H) :
  s.TypeIs v T/\∀ a,v=.ref a->∃ ob,s.heap.get? a=some ob/\ob.dict=none:=by
 cases x with
 | str z=>
  obtain⟨t,rfl⟩:=r
  cases (show T = "str" from ty)
  exact⟨typeIs_str s z t,fun _ e=>nomatch e⟩
 | int i=>
  obtain⟨t,rfl⟩:=r
  cases (show T = "int" from ty)
  exact⟨typeIs_int s i t,fun _ e=>nomatch e⟩
 | ref p=>
  cases r
  rcases ty with ⟨rfl,xs,hq⟩ | ⟨rfl,o,hk,hc,hd⟩ | ⟨rfl,hk⟩ | ⟨rfl,S,n,hk⟩
  ·obtain⟨its,_,pl,_⟩:=I.list hq
   refine⟨pl.isList.typeIs,fun a e=>?_⟩
   cases e
   obtain⟨o,n,e,c,hd,_⟩:=pl
   exact⟨o,e,hd⟩
  ·refine⟨⟨o,I.kIn p o hk,hc⟩,fun a e=>?_⟩
   cases e
   exact⟨o,I.kIn _ o hk,hd⟩
  ·have z:∃ o,s.heap.get? p=some o/\o.ExactDict:=by
    rcases hk with ⟨kvs,hk⟩ | ⟨kvs,hk⟩
    ·obtain⟨_,_,_,_,o,_,_,e,ex,_⟩:=I.hok p _ hk
     exact⟨o,e,ex⟩
    ·obtain⟨_,_,_,_,o,_,_,e,ex,_⟩:=I.hok p _ hk
     exact⟨o,e,ex⟩
   obtain⟨o,e,ex⟩:=z
   refine⟨⟨o,e,ex.1⟩,fun a e2=>?_⟩
   cases e2
   exact⟨o,e,ex.2.1⟩
  ·obtain⟨o,_,_,_,e,ex,_⟩:=I.hok p _ hk
   refine⟨⟨o,e,ex.1⟩,fun a e2=>?_⟩
   cases e2
   exact⟨o,e,ex.2.1⟩
 | _=>exact False.elim ty
noncomputable def tBM0 (K:PySem.W.Frag) (T:String) (r:V->List V->Hp->VK->Prop) (to:TE):TE:=fun σ H Q=>to σ H fun x H1=>tyV K T x H1/\r x [] H1 Q
noncomputable def tBM (K:PySem.W.Frag) (T:String) (r:V->List V->Hp->VK->Prop) (to:TE) (t:TA):TE:=fun σ H Q=>to σ H fun x H1=>tyV K T x H1/\t σ H1 fun xs H2=>r x xs H2 Q
variable {o e:Expr}{es:List Expr}{to:TE}{t:TA}{name:Str}{apos cpos:Pos}{T id:String}{r:V->List V->Hp->VK->Prop}
theorem j4 (pa:PlainAttrs T) (slot:Slot T name id) (hty:typeOf (.builtin id)=pure (.type "method_descriptor")) (hm:MtR X id r) (ho:PE X o to)
  (hbase:attributeBase o name X.env (eval o X.env)=eval o X.env:=by rfl) (hline:(apos.endLine == cpos.line)=true:=by rfl):PE X (.Call (.Attribute o name apos) [] [] cpos) (tBM0 X.K T r to):=by
 intro pins s σ H Q I h
 refine wpAny_Call_method0_late hbase hline (thn (ho pins s σ H _ I h) fun v s1 ⟨x,H1,I1,r1,ty,q1⟩=>?_)
 obtain⟨h1,h2⟩:=lZ I1 r1 ty
 exact⟨T,id,pa,slot,hty,h1,h2,Calls.callWith_builtin rfl (PySem.evalArgs_none (hm pins s1 σ H1 x [] v [] Q I1 r1 .nil q1))⟩
theorem bf (pa:PlainAttrs T) (slot:Slot T name id) (hty:typeOf (.builtin id)=pure (.type "method_descriptor")) (hm:MtR X id r) (ho:PE X o to) (ha:PA X (e::es) t)
  (hbase:attributeBase o name X.env (eval o X.env)=eval o X.env:=by rfl)
  (hfew:((backTo cpos (starEach (e::es) X.env)).all (fun x=>!x.1) && (backToKw cpos (keywordEach [] X.env)).all (fun x=>x.1.isSome)
   && decide ((e::es).length+([]:List Keyword).length+(if ([]:List Keyword).isEmpty then 0 else 1)<30))=true:=by rfl)
  (hline:(apos.endLine == cpos.line)=true:=by rfl) (hs:starEach (e::es) X.env=(false,eval e X.env)::starEach es X.env:=by rfl) (hplain:(backTo cpos (starEach es X.env)).any (·.1)=false:=by rfl) :
  PE X (.Call (.Attribute o name apos) (e::es) [] cpos) (tBM X.K T r to t):=by
 intro pins s σ H Q I h
 refine wpAny_Call_method_late hbase hfew hline rfl (thn (ho pins s σ H _ I h) fun v s1 ⟨x,H1,I1,r1,ty,q1⟩=>?_)
 obtain⟨h1,h2⟩:=lZ I1 r1 ty
 refine⟨T,id,pa,slot,hty,h1,h2,?_⟩
 have hA:=ha cpos pins s1 σ H1 _ I1 q1
 rw[hs] at hA ⊢
 refine Calls.callWith_builtin (by show (false || (backTo cpos (starEach es X.env)).any (·.1)) = false; rw [hplain] <;> rfl) (Calls.evalArgs_plain ?_)
 exact thn hA fun us s2 ⟨vs,H2,I2,r2,q2⟩=>hm pins s2 σ H2 x vs v us Q I2 r1 r2 q2
/- xs.append(e),list.index on a module's tuple .. are MtR facts of 06m -/
end
end L2
namespace L2
open PySem PySem.Spec PyProof.Rows
noncomputable def MtM (X:Cx) (id:String) (r:V->List V->Hp->VK->Prop):Prop :=
 ∀ (pins:List (Addr×Obj)) (s:Shared) (σ:St) (H:Hp) (x:V) (xs:List V) (v:Value) (us:List Value) (Q:VK),Inv X pins σ H s->RelV x v->Vals xs us->r x xs H Q ->
  wpAny (model X.prog X.w) X.A (call (.builtin id) (v::us)) (EP X pins σ Q) X.xe s
theorem Vals.one {x:V}{us:List Value} (h:Vals [x] us):∃ u,us=[u]/\RelV x u:=by
 cases h with
 | cons r s=>cases s; exact⟨_,U,r⟩
theorem Vals.zero:∀ {us:List Value},Vals [] us->us=[]
 | _,.nil=>rfl
theorem Vals.dropLast {xs:List V}{us:List Value} (h:Vals xs us):Vals xs.dropLast us.dropLast:=by
 induction h with
 | nil=>exact .nil
 | cons r t ih=>
  cases t with
  | nil=>exact .nil
  | cons q t'=>exact .cons r ih
theorem Vals.eraseIdx:∀ {xs:List V}{us:List Value} (i:Nat),Vals xs us->Vals (xs.eraseIdx i) (us.eraseIdx i)
 | _,_,_,.nil=>.nil
 | _,_,0,.cons _ t=>t
 | _,_,i+1,.cons r t=>.cons r (Vals.eraseIdx i t)
theorem Vals.rep {xs:List V}{us:List Value} (h:Vals xs us):∀ k:Nat,Vals (List.replicate k xs).flatten (List.replicate k us).flatten
 | 0=>.nil
 | k+1=>by
  rw[List.replicate_succ,List.replicate_succ,List.flatten_cons,List.flatten_cons]
  exact Vals.append h (Vals.rep h k)
theorem kj {α:Type} (l:List α):l.eraseIdx (l.length - 1)=l.dropLast:=by
 induction l with
 | nil=>rfl
 | cons a r ih=>
  cases r with
  | nil=>rfl
  | cons b r=>
   have e:(a::b::r).length - 1=((b::r).length - 1)+1:=by
    have h1:(a::b::r).length=r.length+2:=rfl
    have h2:(b::r).length=r.length+1:=rfl
    omega
   rw[e,List.eraseIdx_cons_succ,ih]
   all_goals rfl
theorem gT {α:Type}:∀ (l:List α) (i:Nat),(l.eraseIdx i).length<=l.length
 | [],_=>Nat.le_refl _
 | _::_,0=>Nat.le_succ _
 | _::r,i+1=>Nat.succ_le_succ (gT r i)
theorem gX (its:List Value):∀ (k:Nat) (acc:List Value),
  List.foldl (fun x1 x2=>x1++x2) acc.toArray (List.replicate k its.toArray)=(acc++(List.replicate k its).flatten).toArray
 | 0,acc=>by simp
 | k+1,acc=>by
  have e:acc.toArray++its.toArray=(acc++its).toArray:=by simp
  have e2:(acc++its)++(List.replicate k its).flatten=acc++(List.replicate (k+1) its).flatten:=by
   rw[List.replicate_succ,List.flatten_cons,tj]
  rw[<- e2,<- gX its k (acc++its),<- e,List.replicate_succ,List.foldl_cons]
section
variable {X:Cx}{pins:List (Addr×Obj)}{σ:St}{H:Hp}{s:Shared}{l b:Addr}{xs ys zs:List V}
theorem Inv.lset {its its':List Value}{n:Nat}{f:Array Value->Array Value}{t':Nat} (I:Inv X pins σ H s) (hH:H l=some (.lst xs))
  (e:s.heap.get? l=some { cls:=.type "list",data:=.seq its.toArray n }) (hf:f its.toArray=its'.toArray) (hv:Vals ys its') (hz:ys.length<=sizeLine) :
  Inv X pins σ (upd H l (.lst ys)) { s with heap:=s.heap.update l (Obj.mapSeq f),toks:=t' }:=by
 have q:=PySem.IsL.update e f
 rw[hf] at q
 refine I.write (x:=l) (e:=l) (by rw[hH]; exact trivial) (.inl rfl) (fun b' u hb hu=>(Heap.get?_update_other s.heap (Obj.mapSeq f) (Ne.symm hb)).trans hu) ⟨_,q⟩ ?_
 exact⟨hz,its',_,hv,q⟩
theorem Inv.lnew {its:List Value}{t':Nat} (I:Inv X pins σ H s) (hv:Vals ys its) (hz:ys.length<=sizeLine) :
  Inv X pins σ (upd H s.heap.objs.size (.lst ys)) { s with heap:=s.heap.push { cls:=.type "list",data:=.seq its.toArray },toks:=t' } :=
 I.laid (fun _ _ q=>Heap.get?_push_of_some _ q) (Nat.le_refl _) ⟨hz,its,0,hv,Heap.get?_push_size _ rfl⟩
theorem Inv.fresh (I:Inv X pins σ H s):H s.heap.objs.size=none:=I.hok.fresh (Nat.le_refl _)
theorem Inv.lstM (I:Inv X pins σ H s) (hH:H l=some (.lst xs)):xs.length<=sizeLine/\∃ (its:List Value) (n:Nat),Vals xs its/\xs.length=its.length/\s.heap.get? l=some { cls:=.type "list",data:=.seq its.toArray n }:=by
 obtain⟨z,its,n,r,e⟩:=I.hok l _ hH
 exact⟨z,its,n,r,r.length,e⟩
theorem ni {n:Nat} (h:n<=sizeLine):Builtin.List.listTooLong n=false:=by
 unfold Builtin.List.listTooLong
 exact decide_eq_false (by omega)
end
section
variable {X:Cx}
noncomputable def oN:V->List V->Hp->VK->Prop:=fun x vs H Q=>∃ l xs y,x=.ref l/\vs=[y]/\H l=some (.lst xs)/\xs.length<sizeLine/\Q .non (upd H l (.lst (xs++[y])))
theorem aR:MtM X "list.append" oN:=by
 intro pins s σ H x vs v us Q I rx rv h
 obtain⟨l,xs,y,rfl,rfl,hH,hz,q⟩:=h
 cases rx
 obtain⟨u,rfl,ru⟩:=rv.one
 obtain⟨z,its,n,r,hl,e⟩:=I.lstM hH
 refine call_meets F.slot_list_append ⟨_,e,U⟩ F.entry_list_append (F.args_list_append_2 _ _) (PySem.list_append l its.toArray n u (by rw[sU]; omega)) ⟨e,?_⟩
 refine⟨.non,_,I.lset (its':=its++[u]) hH e (by simp) (r.append (.cons ru .nil)) ?_,U,q⟩
 rw[sW,tE]
 omega
noncomputable def rPop:V->List V->Hp->VK->Prop:=fun x vs H Q=>∃ l xs y,x=.ref l/\vs=[]/\H l=some (.lst xs)/\xs[xs.length - 1]?=some y/\Q y (upd H l (.lst xs.dropLast))
theorem rd:MtM X "list.pop" rPop:=by
 intro pins s σ H x vs v us Q I rx rv h
 obtain⟨l,xs,y,rfl,rfl,hH,hy,q⟩:=h
 cases rx
 have hus:=rv.zero
 subst hus
 obtain⟨z,its,n,r,hl,e⟩:=I.lstM hH
 obtain⟨u,hu,ru⟩:=r.get hy
 have hy':its.toArray[its.toArray.size - 1]?=some u:=by
  show its.toArray[its.length - 1]?=some u
  rw[<- Array.getElem?_toList,<- hl]
  exact hu
 refine call_meets F.slot_list_pop ⟨_,e,U⟩ F.entry_list_pop (F.args_list_pop_1 _) (MeetsSeq.list_pop_last l its.toArray n u hy' (by rw[sU]; omega)) ⟨e,?_⟩
 refine⟨y,_,I.lset (its':=its.dropLast) hH e ?_ r.dropLast ?_,ru,q⟩
 ·show its.toArray.eraseIdxIfInBounds (its.toArray.size - 1)=its.dropLast.toArray
  rw[sU,List.eraseIdxIfInBounds_toArray,kj]
 ·rw[List.length_dropLast]
  omega
noncomputable def qx:V->List V->Hp->VK->Prop:=fun x vs H Q=>∃ l xs i k y,x=.ref l/\vs=[.int i]/\H l=some (.lst xs)/\-(2 ^ 63)<=i/\i<2 ^ 63/\seqIndex? i xs.length=some k/\xs[k]?=some y/\Q y (upd H l (.lst (xs.eraseIdx k)))
theorem nq:MtM X "list.pop" qx:=by
 intro pins s σ H x vs v us Q I rx rv h
 obtain⟨l,xs,i,k,y,rfl,rfl,hH,h1,h2,hk,hy,q⟩:=h
 cases rx
 obtain⟨u,rfl,ru⟩:=rv.one
 obtain⟨t,rfl⟩:=ru
 obtain⟨z,its,n,r,hl,e⟩:=I.lstM hH
 obtain⟨w,hw,rw'⟩:=r.get hy
 refine call_meets F.slot_list_pop ⟨_,e,U⟩ F.entry_list_pop (F.args_list_pop_2 _ _)
  (MeetsSeq.list_pop_at l its.toArray n i t k w (fitsIndex_both h1 h2) (by rw[sU,<- hl]; exact hk) (by rw[<- Array.getElem?_toList]; exact hw) (by rw[sU]; omega)) ⟨e,?_⟩
 refine⟨y,_,I.lset (its':=its.eraseIdx k) hH e ?_ (r.eraseIdx k) ?_,rw',q⟩
 ·show its.toArray.eraseIdxIfInBounds k=(its.eraseIdx k).toArray
  rw[List.eraseIdxIfInBounds_toArray]
 ·have:=gT xs k
  omega
noncomputable def qz:V->List V->Hp->VK->Prop:=fun x vs H Q=>∃ l xs,x=.ref l/\vs=[]/\H l=some (.lst xs)/\Q .non (upd H l (.lst []))
theorem jt:MtM X "list.clear" qz:=by
 intro pins s σ H x vs v us Q I rx rv h
 obtain⟨l,xs,rfl,rfl,hH,q⟩:=h
 cases rx
 have hus:=rv.zero
 subst hus
 obtain⟨z,its,n,r,hl,e⟩:=I.lstM hH
 refine call_meets F.slot_list_clear ⟨_,e,U⟩ F.entry_list_clear (F.args_list_clear_1 _) (AutoSeq1.list_clear_list_0 l its.toArray n (by rw[sU]; omega)) ⟨e,?_⟩
 exact⟨.non,_,I.lset (its':=[]) (ys:=[]) hH e rfl .nil (Nat.zero_le _),U,q⟩
noncomputable def rRep:R2:=fun x y H Q=>∃ l k xs,x=.ref l/\y=.int k/\H l=some (.lst xs)/\-(2 ^ 63)<=k/\k<2 ^ 63/\xs.length*k.toNat<=sizeLine /\
 ∀ p,H p=none->Q (.ref p) (upd H p (.lst (List.replicate k.toNat xs).flatten))
theorem kQ {α:Type} (xs:List α) (k:Nat):(List.replicate k xs).flatten.length=k*xs.length:=by
 induction k with
 | zero=>simp
 | succ k ih=>rw[List.replicate_succ,List.flatten_cons,sW,ih,Nat.succ_mul,Nat.add_comm]
theorem qJ:OpR X (binaryOp .Mult) rRep:=by
 intro pins s σ H x y v u Q I rx ry h
 obtain⟨l,k,xs,rfl,rfl,hH,h1,h2,hz,q⟩:=h
 cases rx
 obtain⟨t,rfl⟩:=ry
 obtain⟨z,its,n,r,hl,e⟩:=I.lstM hH
 have hlen:its.toArray.size*k.toNat<=sizeLine:=by rw[sU,<- hl]; exact hz
 have hcap:¬ its.toArray.size*k.toNat > (2 ^ 63 - 1) / 8:=by
  have:(sizeLine:Nat)<=(2 ^ 63 - 1) / 8:=by decide
  omega
 have hfit:¬ (!Builtin.List.listFitsIndex k)=true:=by
  rw[fitsIndex_both h1 h2]
  exact Bool.false_ne_true
 have hlong:¬ Builtin.List.listTooLong (its.toArray.size*k.toNat)=true:=by
  rw[ni hlen]
  exact Bool.false_ne_true
 have hnew:List.foldl (fun x1 x2=>x1++x2) #[] (List.replicate (if its.toArray.isEmpty=true then 0 else k.toNat) its.toArray)=(List.replicate k.toNat its).flatten.toArray:=by
  have f0:∀ m:Nat,List.foldl (fun x1 x2=>x1++x2) #[] (List.replicate m its.toArray)=(List.replicate m its).flatten.toArray:=fun m=>by
   have:=gX its m []
   rw[List.nil_append] at this
   exact this
  rw[f0]
  cases its with
  | nil=>simp
  | cons a r'=>rw[if_neg (by simp)]
 refine wpAny_binaryOp_repeat_ref (T := "list") (U := "int") (by decide) ⟨_,e,O⟩ (fun s'=>typeIs_int s' k t) noFill_list_mul F.fills_int_mul F.slot_int_rmul repeat_list F.slot_int_index.lookup
  (call_meets F.slot_int_rmul (typeIs_int s k t) F.entry_int_rmul (F.args_int_rmul_2 _ _) (int___rmul___int_list k t l its.toArray n)
   ⟨e,O,⟨_,e,O⟩,call_meets F.slot_list_mul ⟨_,e,O⟩ F.entry_list_mul (F.args_list_mul_2 _ _) (AutoListH.list___mul___list_int_3 l its.toArray n k t hfit hcap hlong) ⟨e,?_⟩⟩)
 rw[hnew]
 exact⟨.ref _,_,I.lnew (t':=s.toks) (r.rep k.toNat) (by rw[kQ,Nat.mul_comm]; exact hz),O,q _ I.fresh⟩
end
end L2
namespace Att
open PySem PySem.W PySem.Calls PyProof.Rows
theorem fg {P:Params}{h:Heap}:∀ (ns:List Int) (vs:List Value),WellAll P h vs (ns.map WData.int)->IntsAre vs ns:=by
 intro ns
 induction ns with
 | nil=>
  intro vs w
  rw[List.map_nil] at w
  cases w
  exact .nil
 | cons n ns ih=>
  intro vs w
  rw[sX] at w
  cases w with
  | cons a b=>
   cases a
   exact .cons _ _ (ih _ b)
theorem lu {l : OpenLaw}{n : Nat} (hn : l.most=some n) {P : Params}{h : Heap}{args : List WData}{vals : List Value}
    (hpre : l.row.toRowW.claim.pre args=true) (hwl : WellAll P h vals args) :
    ∃ a vs ns, vals=[Value.ref a]/\args=[WData.list (ns.map WData.int)]/\h.get? a=some { cls := .type "list", data := .seq vs.toArray }/\IntsAre vs ns/\ns.length<=n := by
  have hsh : WShape.hasAll [] args [.list .int]=true := (pre_splitW hpre).1
  have hc : l.pre.holds [] { args := args }=true := (pre_splitW hpre).2
  obtain⟨d, r, rfl, h1, h2⟩ := hasAllW_cons hsh
  obtain rfl := hasAllW_nil h2
  obtain⟨xs, rfl, h3⟩ := hasW_list h1
  obtain⟨ns, rfl⟩ := items_int h3
  have hlen : ns.length<=n := by
    unfold OpenLaw.pre at hc
    have h4 : (WTm.not (.lt (.lit (.int (n : Int))) (.len (.arg 0)))).holds [] { args := [.list (ns.map .int)] }=true := by
      have h4 := (holds_andW hc).1
      rw[hn] at h4
      exact h4
    have h5 := condW_of h4 (w_not (w_lt w_lit (w_len_list (w_arg rfl))))
    rw[sI] at h5
    refine Nat.le_of_not_lt fun q=>?_
    have q' : (n : Int)<((ns.length : Nat) : Int) := by omega
    first
      | (rw [decide_eq_true q'] at h5; exact absurd h5 (by decide))
      | (simp at h5; omega)
  cases hwl with
  | cons w1 w2=>
    cases w2
    cases w1 with
    | list ho hall=>exact⟨_, _, ns, rfl, rfl, ho, fg ns _ hall, hlen⟩
theorem lw (l:OpenLaw) (args:List WData):l.row.toRowW.claim.post args (.bool true) args=true :=
 postW_of (r:=l.row.toRowW) (X:=(true == true))
  (show WShape.has [] (.bool true) .bool=true by first | rfl | decide | simp[WShape.has,WShape.arms,WShape.armsAll])
  (show(WTm.eq .res (.lit (.bool true))).value [] { args:=args,res:=some (.bool true),after:=args }=some (.bool (true == true)) from w_eq_bool (w_res rfl) w_lit) rfl
theorem attach_call {l:OpenLaw}{n:Nat}{q:Program}{loose:List Str}{XP:(Str->Option Value)->Heap->Prop}{YP:World->Heap->Prop}{d:DefRec}
  (hn:l.most=some n) (hdf:d.params.defaults=[])
  (call:∀ (w:World) (s₀ s₁:Shared) (mg mb:Str->Option Value) (fa:Addr) (o:Obj) (pm cd doc:Value) (a:Addr) (vs:List Value) (ns:List Int),
   Ground q loose [] XP w s₀ mg mb s₁.heap->YP w s₁.heap ->
   s₁.heap.get? fa=some o->o.data=.func (docDef d.name d.params d.body d.scope pm cd doc)->s₁.heap.CodeRec cd d.name->mg d.name=some (.ref fa) ->
   s₁.heap.get? a=some { cls:=.type "list",data:=.seq vs.toArray }->IntsAre vs ns->ns.length<=n->s₁.gens = #[] ->
   codeAny (model l.prog w) callerA (.call (.ref fa) ⟨[.ref a],[]⟩) (fun r s'=>r=.ok (.ret (.bool true))/\OldK s₁.heap s'.heap/\s'.os=s₁.os/\AllBare s'.gens) s₁) :
  WalkO q loose XP YP l.row.toRowW d [] (fun f vs=>PySem.call f vs):=by
 intro w s₀ s₁ mg mb G Y fa o pm cd doc dV kV ho hd hcd hD hmg hg args vals as hpre hlay hrd hwl hlo
 obtain rfl:dV=.none:=Dflts.none hD hdf
 obtain rfl:kV=.none:=Dflts.noKw hD
 obtain⟨a,vs,ns,rfl,rfl,hobj,hints,hlen⟩:=lu hn hpre hwl
 refine enter_call (codeAny_mono (call w s₀ s₁ mg mb fa o pm cd doc a vs ns G Y ho (fd_plain hd) hcd hmg hobj hints hlen hg) fun r s' hq=>?_)
 obtain⟨rfl,h2,h3,h4⟩:=hq
 exact⟨.inl ⟨.bool true,.bool true,[],rfl,fun _=>rfl,.bool true,lw l _,fun _=>⟨List.Pairwise.nil,fun _ hm=>(nomatch hm)⟩⟩,h2,h3,h4⟩
section
variable {prog:Program}{w:World}{A:Around}{E:Value->Shared->Prop}{s:Shared}{K:Frag}
noncomputable def ledger (h:Heap) (L d:Addr):List (Addr×Obj):=(List.range h.objs.size).filterMap fun a=>if a=L∨a=d then none else(h.get? a).map fun o=>(a,o)
end
end Att
namespace L2
open PySem PySem.Spec PyProof.Rows
theorem gJ:∀ {vs:List Value}{ns:List Int},IntsAre vs ns->Vals (ns.map V.int) vs
 | _,_,.nil=>.nil
 | _,_,.cons n t h=>.cons ⟨t,U⟩ (gJ h)
noncomputable def b8 (s:Stmt) (j:Nat):Stmt:=match s with
 | .ClassDef _ _ _ body _ _ _ _ _ _ _=>body.getD j (.Pass ⟨0,0,0,0⟩)
 | _=>.Pass ⟨0,0,0,0⟩
noncomputable def aj (s:Stmt):Arguments:=match s with
 | .FunctionDef _ a _ _ _ _ _ _ _ _=>a
 | _=>{ posonlyargs:=[],args:=[],vararg:=none,kwonlyargs:=[],kw_defaults:=[],kwarg:=none,defaults:=[] }
noncomputable def ai (s:Stmt):List Stmt:=match s with
 | .FunctionDef _ _ b _ _ _ _ _ _ _=>b
 | _=>[]
noncomputable def ac (s:Stmt):Scope:=match s with
 | .FunctionDef _ _ _ _ _ _ sc _ _ _=>sc
 | _=>{ kind:=.function,names:=[],isGenerator:=false,isCoroutine:=false }
noncomputable abbrev CX0:CXT:=fun _ _ _ _ _ _=>False
noncomputable abbrev E0:XK:=fun _ _ _=>False
theorem c7 {X:Cx}:cI CX0 X E0:=fun _ _ _ _ _ _ _ h=>h.elim
theorem pcl {X:Cx}{k n:Nat}{f:Addr}{fd:FuncData}{ps:List Str}{sp:Sp}{x:Str}{p pos:Pos}{e:Expr}{es:List Expr}{t:TA} (F:FnOk X.prog X.w X.K X.mg X.base CX0 k f fd ps sp) (hr:Room n X.A) (hm:X.mg x=some (.ref f)) (hk:PySem.W.keepIn X.K (.ref f)=true) (hb:Binds X.K fd ps []) (ha:PA X (e::es) t) (hg:Gl X x:=by rfl) (hj:k<=n:=by decide) (hdb:(x==("__debug__":Str))=false:=by decide) (he:starEach (e::es) X.env=(false,eval e X.env)::starEach es X.env:=by rfl) (hpl:(backTo pos (starEach es X.env)).any (·.1)=false:=by rfl):PE X (.Call (.Name x p) (e::es) [] pos) (pI sp [] E0 t):=bu F (hr.mono hj) hg hm hk hb .nil c7 ha hdb he hpl
structure Fun (K:PySem.W.Frag) (x qual:Str) (st:Stmt) (f:Addr) (fd:FuncData):Prop where
 ex:∃ (oc:Value) (od:Option Addr) (kV doc pm:Value) (an:Option Addr) (cdv ct:Value) (osl:Array (Option Value)),
  fd=W.fnOf x qual (aj st) (ai st) (ac st) .none kV doc pm an cdv ct/\K.lookup f=some ⟨oc,od,.func fd,osl⟩/\W.codeIn K cdv qual=true
 kp:W.keepIn K (.ref f)=true
section
variable {X:Cx}
theorem pv (i:Nat) {x:Str}{pos:Pos} (hN:X.N[i]?=some x:=by rfl) (hv:Vis X.env.scope x:=by first | exact Or.inl rfl | exact Or.inr (Or.inl rfl) | exact Or.inr (Or.inr rfl)) (hd:(x == ("__debug__" : Str))=false:=by decide)
  (hcd:(x == ("__classdict__" : Str))=false:=by decide):PE X (.Name x pos) (fF i):=qH hN hv hd hcd
end
theorem dM {A B:Prop} (h:B):if false=true then A else B:=by
 rw[if_neg Bool.false_ne_true]
 exact h
theorem cY {A B:Prop} (h:A):if true=true then A else B:=by
 rw[if_pos rfl]
 exact h
theorem rA {c A B:Prop} [Decidable c] (h1:c->A) (h2:¬ c->B):if c then A else B:=by
 by_cases h:c
 ·rw[if_pos h]
  exact h1 h
 ·rw[if_neg h]
  exact h2 h
noncomputable def Same (H H':Hp):Prop:=∀ b o,H b=some o->H' b=some o
theorem Same.seq {K:PySem.W.Frag}{H H':Hp}{a:Addr}{xs:List V} (e:Same H H') (h:SqL K H a xs):SqL K H' a xs:=by
 rcases h with (h | ⟨o,h⟩) | h
 ·exact .inl (.inl (e _ _ h))
 ·exact .inl (.inr ⟨o,e _ _ h⟩)
 ·exact .inr h
noncomputable abbrev Kn:=List (Addr×HO)
structure Has (H:Hp) (L:Kn):Prop where
 nd:(L.map (·.1)).Nodup
 at_:∀ x ∈ L,H x.1=some x.2
namespace Has
variable {H H':Hp}{L L' X Y R:Kn}{a p:Addr}{o o':HO}{x y:Addr×HO}
theorem nil:Has H []:=⟨List.nodup_nil,fun _ h=>nomatch h⟩
theorem get (h:Has H L) (i:Nat) (e:L[i]?=some (a,o)):H a=some o:=h.at_ (a,o) (sL e)
theorem alloc (h:Has H L) (hp:H p=none) (o:HO):Has (upd H p o) ((p,o)::L):=by
 have ne:∀ x ∈ L,x.1≠p:=fun x hx e=>by
  have:=h.at_ x hx
  rw[e,hp] at this; cases this
 refine⟨?_,fun x hx=>?_⟩
 ·rw[sX,List.nodup_cons]
  refine⟨fun m=>?_,h.nd⟩
  obtain⟨x,hx,e⟩:=sZ.mp m
  exact ne x hx e
 ·rcases sR.mp hx with rfl | hx
  ·exact bi
  ·rw[aw (ne x hx)]; exact h.at_ x hx
theorem sub (h:Has H L) (s:L'.Sublist L):Has H L':=⟨h.nd.sublist (s.map _),fun x hx=>h.at_ x (s.subset hx)⟩
theorem perm (h:Has H L) (s:L.Perm L'):Has H L':=⟨(s.map _).nodup_iff.mp h.nd,fun x hx=>h.at_ x (s.mem_iff.mpr hx)⟩
theorem tail (h:Has H (x::L)):Has H L:=h.sub (List.sublist_cons_self _ _)
theorem swap2 (h:Has H (x::y::L)):Has H (y::x::L):=h.perm (List.Perm.swap _ _ _)
theorem comm (h:Has H (X++(Y++R))):Has H (Y++(X++R)):=h.perm (by rw[<- tj,<- tj]; exact List.perm_append_comm.append_right R)
theorem inn (h:Has H (x::(Y++R))):Has H (Y++(x::R)):=h.perm List.perm_middle.symm
theorem out (h:Has H (Y++(x::R))):Has H (x::(Y++R)):=h.perm List.perm_middle
theorem ne2 (h:Has H ((a,o)::R)) {b:Addr} (m:b ∈ R.map (·.1)):b≠a:=fun e=>by
 have:=List.nodup_cons.mp (show((a::R.map (·.1)).Nodup) from h.nd)
 exact this.1 (e ▸ m)
theorem put (h:Has H ((a,o)::R)) (o':HO):Has (upd H a o') ((a,o')::R):=by
 refine⟨h.nd,fun x hx=>?_⟩
 rcases sR.mp hx with rfl | hx
 ·exact bi
 ·rw[aw (h.ne2 (tq hx))]; exact h.at_ x (sH _ hx)
theorem eU:∀ (L:Kn) (i:Nat),L[i]?=some (a,o)->(L.set i (a,o')).map (·.1)=L.map (·.1)
 | [],i,e=>by simp at e
 | x::L,0,e=>by simp at e; subst e; rfl
 | x::L,i+1,e=>by
  simp only[List.set_cons_succ,sX]
  rw[eU L i (by simpa using e)]
theorem puti (h:Has H L) (i:Nat) (e:L[i]?=some (a,o)) (o':HO):Has (upd H a o') (L.set i (a,o')):=by
 have hi:i<L.length:=(List.getElem?_eq_some_iff.mp e).1
 refine⟨by rw[eU (o':=o') L i e]; exact h.nd,fun x hx=>?_⟩
 obtain⟨j,hj⟩:=List.getElem?_of_mem hx
 by_cases hij:j=i
 ·subst hij
  rw[List.getElem?_set_self hi] at hj
  cases hj
  exact bi
 ·rw[List.getElem?_set_ne (Ne.symm hij)] at hj
  have hx':x ∈ L:=sL hj
  have:x.1≠a:=fun z=>by
   have e1:(L.map (·.1))[i]?=some a:=by rw[sN,e]; rfl
   have e2:(L.map (·.1))[j]?=some a:=by rw[sN,hj,<- z]; rfl
   obtain⟨l1,q1⟩:=List.getElem?_eq_some_iff.mp e1
   obtain⟨l2,q2⟩:=List.getElem?_eq_some_iff.mp e2
   exact hij ((List.getElem_inj h.nd).mp (q2.trans q1.symm))
  rw[aw this]
  exact h.at_ x hx'
end Has
section
variable {X:Cx}
theorem gs:cq X (.builtin "isinstance") (fun xs H Q=>∃ x T t b,xs=[x,.ty T]/\TyOf X.K H x t/\PySem.W.kitOne X.K t (.type T)=some b/\Q (.bl b) H):=by
 intro pins s σ H xs us Q I r h
 obtain⟨x,T,t,b,rfl,ty,e,q⟩:=h
 obtain⟨u1,u2,rfl,r1,r2⟩:=gK r
 cases (show u2=Value.type T from r2)
 exact lI I r1 ty e fun tk=>⟨.bl b,H,I.tok _,U,q⟩
end
theorem SqL.alloc {K:PySem.W.Frag}{H:Hp}{a p:Addr}{xs:List V}{o:HO} (h:SqL K H a xs) (hp:H p=none):SqL K (upd H p o) a xs :=
 Same.seq (fun b u e=>by rw[aw (ba e hp)]; exact e) h
theorem cQ (xs:List V) (n:Int) (h0:0<=n):bQ xs none (some n)=xs.take n.toNat:=by
 show((xs.drop 0).take ((if n<0 then(n+(xs.length:Int)).toNat else min n.toNat xs.length) - 0))=_
 rw[if_neg (by omega),List.drop_zero,Nat.sub_zero]
 by_cases hl:n.toNat<=xs.length
 ·rw[Nat.min_eq_left hl]
 ·rw[Nat.min_eq_right (by omega),List.take_of_length_le (Nat.le_refl _),List.take_of_length_le (by omega)]
theorem sizeOk {n:Nat} (h:n<=1000000):n<sizeLine:=Nat.lt_of_le_of_lt h (by decide)
theorem aN {n:Nat} (h:n<=1000000):n<=sizeLine:=Nat.le_of_lt (sizeOk h)
end L2
namespace L2
theorem ifF {b:Bool}{A B:Prop} (e:b=false) (h:B):if b=true then A else B:=by subst e; exact dM h
theorem ifT {b:Bool}{A B:Prop} (e:b=true) (h:A):if b=true then A else B:=by subst e; exact cY h
theorem if2 {b:Bool}{A B:Prop} (h1:b=true->A) (h2:b=false->B):if b=true then A else B:=by
 cases b
 ·exact dM (h2 rfl)
 ·exact cY (h1 rfl)
theorem ifd {c:Prop} [Decidable c] {A B:Prop} (h1:c->A) (h2:¬ c->B):if decide c=true then A else B:=by
 by_cases h:c
 ·exact ifT (decide_eq_true h) (h1 h)
 ·exact ifF (decide_eq_false h) (h2 h)
theorem rB {c:Prop} [Decidable c] {A B:Prop} (h1:¬ c->A) (h2:c->B):if (!decide c)=true then A else B:=by
 by_cases h:c
 ·exact ifF (by simp[h]) (h2 h)
 ·exact ifT (by simp[h]) (h1 h)
end L2
namespace L2
open PySem PySem.Spec PyProof.Rows
noncomputable def bR (cells : List (Str×Addr)) : List (Str×NameKind)->List (Str×Addr)->List (Str×Addr)
  | [], acc=>acc
  | (n, k) :: r, acc => if k == .free then bR cells r ((n, (cells.lookup n).getD 0) :: acc) else bR cells r acc
theorem cj (scope : Scope) (env : Env) (h : ∀ y ∈ scope.names, y.2=.free->∃ c, env.cells.lookup y.1=some c) : closureFor scope env=pure (bR env.cells scope.names []) := by
  unfold closureFor
  have all : ∀ (l : List (Str×NameKind)) (acc : List (Str×Addr)), (∀ y ∈ l, y.2=.free->∃ c, env.cells.lookup y.1=some c) ->
      (forIn l acc fun x r=>match x with
        | (name, kind) => if (kind == .free) = true then do let a <- cellOf env name; pure (ForInStep.yield ((name, a) :: r)) else pure (ForInStep.yield r)) = (pure (bR env.cells l acc) : Sem _) := by
    intro l
    induction l with
    | nil=>intro acc _; rfl
    | cons y l ih=>
      obtain⟨n, k⟩ := y
      intro acc hl
      rw[List.forIn_cons]
      by_cases hk : (k == NameKind.free)=true
      · obtain⟨c, hc⟩ := hl (n, k) sM (by simpa using hk)
        have e : cellOf env n=pure c := by unfold cellOf; rw[hc]
        simp only[hk, if_true, e, pure_bind, bR, hc, Option.getD_some]
        exact ih _ fun y hy=>hl y (sH _ hy)
      · simp only[hk, if_false, pure_bind, bR]
        exact ih _ fun y hy=>hl y (sH _ hy)
  have := all scope.names [] h
  simp only[this, pure_bind]
theorem ck {cells : List (Str×Addr)}{x : Str}{c : Addr} : ∀ (l : List (Str×NameKind)) (acc : List (Str×Addr)), (∀ y ∈ l, y.2=.free->∃ c, cells.lookup y.1=some c) ->
    (∀ y d, acc.lookup y=some d->cells.lookup y=some d)->(bR cells l acc).lookup x=some c->cells.lookup x=some c
  | [], acc, _, ha, h=>ha x c h
  | (n, k) :: r, acc, hl, ha, h => by
    unfold bR at h
    split at h
    · rename_i hk
      obtain⟨d, hd⟩ := hl (n, k) sM (by simpa using hk)
      refine ck r _ (fun y hy=>hl y (sH _ hy)) (fun y e he=>?_) h
      rw[tD] at he
      split at he
      · rename_i hyn
        have : y=n := by simpa using hyn
        subst this
        cases he
        rw[hd]; rfl
      · exact ha y e he
    · exact ck r _ (fun y hy=>hl y (sH _ hy)) ha h
theorem gq {cells : List (Str×Addr)}{x : Str} : ∀ (l : List (Str×NameKind)) (acc : List (Str×Addr)), (∃ c, acc.lookup x=some c)->∃ c, (bR cells l acc).lookup x=some c
  | [], acc, h=>h
  | (n, k) :: r, acc, h => by
    unfold bR
    split
    · refine gq r _ ?_
      rw[tD]
      split
      · exact⟨_, rfl⟩
      · exact h
    · exact gq r _ h
theorem br {cells : List (Str×Addr)}{x : Str} : ∀ (l : List (Str×NameKind)) (acc : List (Str×Addr)), (x, NameKind.free) ∈ l->∃ c, (bR cells l acc).lookup x=some c
  | [], _, h=>nomatch h
  | (n, k) :: r, acc, h => by
    unfold bR
    rcases sR.mp h with e | h
    · cases e
      rw[if_pos (by rfl)]
      exact gq r _ ⟨(cells.lookup x).getD 0, by rw[tD]; simp⟩
    · split
      · exact br r _ h
      · exact br r _ h
theorem bn {env : Env}{x : Str} : ∀ (l : List (Str×NameKind)), (∀ y ∈ l, y.2≠.cell) ->
    ((l.map fun(n, k)=>if (k == NameKind.free && env.scope.kind == .function && env.kindOf n == some .cell) then(n, NameKind.cell) else(n, k)).lookup x=some .cell ∨
     (l.map fun(n, k)=>if (k == NameKind.free && env.scope.kind == .function && env.kindOf n == some .cell) then(n, NameKind.cell) else(n, k)).lookup x=some .free)->(x, NameKind.free) ∈ l
  | [], _, h=>by simp at h
  | (n, k) :: r, hl, h => by
    have ih := bn (env := env) (x := x) r fun y hy=>hl y (sH _ hy)
    by_cases hc : (k == NameKind.free && env.scope.kind == .function && env.kindOf n == some .cell)=true
    · have hkf : k=.free := by
        rw[Bool.and_eq_true, Bool.and_eq_true] at hc
        simpa using hc.1.1
      subst hkf
      simp only[sX, hc, if_true, tD] at h
      cases hx : x == n with
      | true=>
        have : x=n := by simpa using hx
        subst this
        exact sM
      | false=>
        simp only[hx] at h
        exact sH _ (ih h)
    · simp only[sX, if_neg hc, tD] at h
      cases hx : x == n with
      | true=>
        have : x=n := by simpa using hx
        subst this
        simp only[hx] at h
        rcases h with h | h
        · cases h
          exact absurd rfl (hl (x, .cell) sM)
        · cases h
          exact sM
      | false=>
        simp only[hx] at h
        exact sH _ (ih h)
noncomputable def PTs (X:Cx) (ifs:List Expr) (t:TT):Prop :=
 ∀ (pins:List (Addr×Obj)) (s:Shared) (σ:St) (H:Hp) (Q:Bool->Hp->Prop),Inv X pins σ H s->t σ H Q ->
  wpAny (model X.prog X.w) X.A (forIn ifs true fun c r=>if r=true then do let ok <- isTrue c X.env (eval c X.env); pure (ForInStep.yield ok) else pure (ForInStep.yield r)) (TP X pins σ Q) X.xe s
noncomputable def pE:TT:=fun _ H Q=>Q true H
theorem bB {X:Cx}:PTs X [] pE:=fun _ _ _ H _ I h=>wpAny_tests_nil ⟨H,I,h⟩
theorem oO {X:Cx}{c:Expr}{t:TT} (h:PT X c t):PTs X [c] t:=fun pins s σ H Q I q=>wpAny_tests_one (h pins s σ H Q I q)
variable{pos:Pos}
theorem fe {prog:Program}{w:World}{A:Around}{R:Result->Shared->Prop}{s:Shared}{elt target iter:Expr}{ifs:List Expr}{scope:Scope}{it acc:Value}{env:Env} (I:Nat->Shared->Prop)
  (turn:∀ n s,I n s->wpAny (model prog w) A (pyNext it) (fun r s₁=>match r with
   | none=>R (.ok .next) s₁
   | some v=>wpAny (model prog w) A (letOwnedTupleGo target it v) (fun _ s₀=>wpAny (model prog w) A (assign target env v) (fun _ s₂=>
     wpAny (model prog w) A (forIn ifs true fun c r=>if r=true then do let ok <- isTrue c env (eval c env); pure (ForInStep.yield ok) else pure (ForInStep.yield r)) (fun ok s₃=>
      if ok=true then wpAny (model prog w) A (eval elt env) (fun x s₄=>
       wpAny (model prog w) A (call (.builtin "list.append") [acc,x]) (fun _ s₅=>∃ m,m<n/\I m s₅) (fun _ _=>False) s₄) (fun _ _=>False) s₃
      else ∃ m,m<n/\I m s₃) (fun _ _=>False) s₂) (fun _ _=>False) s₀) (fun _ _=>False) s₁) (fun _ _=>False) s)
  (n:Nat) (h:I n s) :
  codeAny (model prog w) A (.compLoop (.ListComp elt [⟨target,iter,ifs,0⟩] scope pos) 0 it acc env) R s:=by
 have no:∀ {α:Type}{t:Sem α}{Q:α->Shared->Prop}{s:Shared}{E:Value->Shared->Prop},wpAny (model prog w) A t Q (fun _ _=>False) s->wpAny (model prog w) A t Q E s:=fun h=>wpAny_mono h (fun _ _ q=>q) fun _ _ z=>False.elim z
 refine codeAny_loop rfl I (fun n s hI=>?_) n h
 show wpAny _ A ((compTurn (.ListComp elt [⟨target,iter,ifs,0⟩] scope pos) 0 it acc env).onRaise (fun x=>do noteFrame x env; theTreesLotGoes x)) _ _ s
 refine wpAny_noted ?_
 rw[compTurn_list]
 refine wpAny_bind (wpAny_standAt (wpAny_bind (wpAny_mono (no (turn n s hI)) (fun r s₁ h₁=>?_) fun _ _ h'=>h')))
 cases r with
 | none=>exact wpAny_pure h₁
 | some v=>
  refine wpAny_bind (wpAny_mono (no h₁) (fun _ s₀ h₀=>?_) fun _ _ h'=>h')
  refine wpAny_bind (wpAny_mono (no h₀) (fun _ s₂ h₂=>wpAny_bind (wpAny_mono (no h₂) (fun ok s₃ h₃=>?_) fun _ _ h'=>h')) fun _ _ h'=>h')
  cases ok with
  | false=>exact wpAny_pure ⟨U,h₃⟩
  | true=>
   exact wpAny_bind (wpAny_bind (wpAny_mono (no h₃) (fun x s₄ h₄=>wpAny_bind (wpAny_mono (no h₄) (fun _ s₅ h₅=>wpAny_pure (wpAny_pure ⟨U,h₅⟩)) fun _ _ h'=>h')) fun _ _ h'=>h'))
noncomputable abbrev blk (X:Cx) (scope:Scope) (N':List Str) (C:Addr) (s₀:Shared) (H₀:Hp) (fp:List Addr) (pins:List (Addr×Obj)):Cx :=
 { X with N:=N',s₀:=s₀,H₀:=H₀,env:=compEnvC scope (bR X.env.cells scope.names []) C X.env,outer:=X.stack,stack:=X.stack,ex:=fp,fn:=fun _=>false,pn:=X.pn++pins,xe:=fun _ _=>False }
noncomputable def tLC (wi:TI) (k:Nat) (g:TG) (tc:TT) (te:TE):TE:=fun σ H Q=>wi σ H fun J H1=>∀ D,H1 D=none->∃ W:Nat->Nat->List V->Hp->Prop,(∃ m,W 0 m [] (upd H1 D (.lst [])))/\∀ i m ys H,W i m ys H->H D=some (.lst ys) /\
 ((J.stop i H/\Q (.ref D) H)∨(J.go i H/\∀ x H',J.yld i H x H'->g x (List.replicate k none++σ) H' fun σ2 H2=>σ2.drop k=σ/\tc σ2 H2 fun b H3=>
  if b=true then te σ2 H3 fun y H4=>ys.length<sizeLine/\H4 D=some (.lst ys)/\∃ m',m'<m/\W (i+1) m' (ys++[y]) (upd H4 D (.lst (ys++[y]))) else ∃ m',m'<m/\W (i+1) m' ys H3))
section
variable {X:Cx}
theorem dD {elt tg iter:Expr}{ifs:List Expr}{scope:Scope}{wi:TI}{k:Nat}{g:TG}{tc:TT}{te:TE} (N':List Str) (hc:X.calm=true) (hi:PI X tg iter wi)
  (hg:∀ C s₀ H₀ fp pins,PG (blk X scope N' C s₀ H₀ fp pins) tg g) (ht:∀ C s₀ H₀ fp pins,PTs (blk X scope N' C s₀ H₀ fp pins) ifs tc) (he:∀ C s₀ H₀ fp pins,PE (blk X scope N' C s₀ H₀ fp pins) elt te)
  (hk:scope.kind=.function) (hcell:∀ y ∈ scope.names,y.2≠.cell) (hnames:∀ y ∈ scope.names,y.2=.local->scope.names.lookup y.1=some .local)
  {esc:Scope} (hsc:X.env.scope=esc) (hfr':∀ y ∈ scope.names,y.2=.free->esc.names.lookup y.1=some .cell∨esc.names.lookup y.1=some .free)
  (hlen:N'.length=k+X.N.length)
  (hN:∀ (i:Nat) (x:Str),N'[i+k]?=some x->(x,NameKind.free) ∈ scope.names->X.N[i]?=some x)
  (hN2:∀ x ∈ N'.drop k,scope.names.lookup x≠some .local)
  (hs:∀ x,foldedSetIterable iter X.env x=pure x:=by intro _; rfl) :
  PE X (.ListComp elt [⟨tg,iter,ifs,0⟩] scope pos) (tLC wi k g tc te):=by
 intro pins s σ H Q I h
 have hfr:∀ y ∈ scope.names,y.2=.free->X.env.kindOf y.1=some .cell∨X.env.kindOf y.1=some .free:=fun y hy hf=>by
  show X.env.scope.names.lookup y.1=_∨X.env.scope.names.lookup y.1=_
  rw[hsc]; exact hfr' y hy hf
 have hcells:∀ y ∈ scope.names,y.2=.free->∃ c,X.env.cells.lookup y.1=some c:=fun y hy hf=>I.ok.has y.1 (hfr y hy hf)
 have hclos:=cj scope X.env hcells
 rw[eval_ListComp]
 refine wpAny_comprehension_free (use:=none) rfl hs hclos hk hnames (thn (hi pins s σ H _ I h) fun v s1 h1=>thn h1 fun itv s2 h2=>?_)
 obtain⟨it,fp,tn,J,H2,e,I2,T,st2,f2,R⟩:=h2
 subst e
 refine wpAny_newObj_type ?_
 have hD:H2 s2.heap.objs.size=none:=I2.hok.fresh (Nat.le_refl _)
 obtain⟨W,⟨m0,w0⟩,turn⟩:=R _ hD
 generalize eD:s2.heap.objs.size=D at *
 have I3:Inv X pins σ (upd H2 D (.lst [])) { s2 with heap:=s2.heap.push { cls:=.type "list",dict:=none,data:=.seq ([]:List Value).toArray } } :=
  I2.laid (a:=D) (o:=.lst []) (t':=s2.toks) (fun b u e=>Heap.get?_push_of_some _ e) (Nat.le_of_eq eD) ⟨Nat.zero_le _,[],0,.nil,by rw[<- eD]; exact Heap.get?_push_size _ rfl⟩
 generalize e3:({ s2 with heap:=s2.heap.push { cls:=.type "list",dict:=none,data:=.seq ([]:List Value).toArray } }:Shared)=s3 at *
 have st3:tn 0 s3.heap:=T.keep _ _ _ st2 fun b _ o e=>by rw[<- e3]; exact Heap.get?_push_of_some _ e
 have lt2:∀ b ∈ fp,b<s2.heap.objs.size:=fun b hb=>by
  obtain⟨o,e,_⟩:=T.obj _ _ st2 b hb
  exact Heap.lt_size e
 have neD:∀ b ∈ fp,b≠D:=fun b hb=>by
  have:=lt2 b hb
  rw[eD] at this
  exact Nat.ne_of_lt this
 have f3:∀ b ∈ fp,cJ X pins (upd H2 D (.lst [])) b:=fun b hb=>⟨by rw[aw (neD b hb)]; exact(f2 b hb).1,(f2 b hb).2⟩
 generalize upd H2 D (.lst [])=H3 at *
 refine wpAny_newFunctionEnv hcell (by intro y hy; simp at hy) (fun h₁ hns₁ hsb₁=>?_) hk
 try dsimp only at hns₁ hsb₁ ⊢
 have lt3:∀ b ∈ fp,b<s3.heap.objs.size:=fun b hb=>by
  obtain⟨o,e,_⟩:=T.obj _ _ st3 b hb
  exact Heap.lt_size e
 generalize eC:s3.heap.objs.size=C at *
 have kp:∀ b o,s3.heap.get? b=some o->h₁.get? b=some o:=fun b o e=>(hsb₁.2 b (by rw[<- eC]; exact Nat.ne_of_lt (Heap.lt_size e))).trans (Heap.get?_push_of_some _ e)
 have subC:∀ x c,(bR X.env.cells scope.names []).lookup x=some c->X.env.cells.lookup x=some c:=fun x c e=>ck scope.names [] hcells (fun y d z=>by simp at z) e
 have hCnone:H3 C=none:=I3.hok.fresh (Nat.le_of_eq eC)
 have ok':(blk X scope N' C s3 H3 fp pins).Ok:={
  mod:=I3.ok.mod
  kind:=hk
  glob:=I3.ok.glob
  blt:=I3.ok.blt
  above:=Nat.le_of_eq eC
  inj:=fun x y c a b=>I3.ok.inj x y c (subC x c a) (subC y c b)
  has:=fun x hx=>br scope.names [] (bn scope.names hcell hx)
  cab:=fun x c a _=>absurd a Bool.false_ne_true
  hd:=I3.ok.hd
  frames:=I3.ok.frames
  stk:=.inl rfl
  exf:=fun b hb=>⟨by have:=lt3 b hb; exact Nat.ne_of_lt this,fun x c e=>(f3 b hb).2.2.2.2.1 x c (subC x c e)⟩
  bs:=I3.bs
  bsz:=Nat.le_trans I3.ok.bsz I3.sz
  noex:=fun b o e hb=>by
   rcases (f3 b hb).2.2.2.1 with z | z
   ·exact I3.ok.noex b o e z
   ·exact absurd (Nat.lt_of_lt_of_le (Heap.lt_size e) (Nat.le_trans I3.ok.bsz z)) (Nat.lt_irrefl _)
  exfs:=fun b hb z=>by
   rcases sR.mp (I3.stkSub b z) with e | e
   ·exact(f3 b hb).2.1 e
   ·exact(f3 b hb).2.2.1 e
  funs:=I3.stack
  frf:=I3.stkFree }
 have s4os:({ s3 with heap:=h₁,toks:=s3.toks+([]:List (Str×Value)).length }:Shared).os=s3.os:=rfl
 generalize e4:({ s3 with heap:=h₁,toks:=s3.toks+([]:List (Str×Value)).length }:Shared)=s4 at *
 have h4:s4.heap=h₁:=by rw[<- e4]
 have J4:Inv (blk X scope N' C s3 H3 fp pins) [] (List.replicate k none++σ) H3 s4:=by
  refine⟨ok',s4os,by rw[<- e4]; exact I3.bare,?_,⟨_,by rw[h4]; exact hns₁,fun i x v e1 e2 e5=>?_⟩,fun x c e=>?_,hCnone,fun x c e=>I3.freeC x c (subC x c e),fun p hp=>?_,?_,?_⟩
  ·rw[h4]; exact Un.kept kp
  ·have hik:¬ i<k:=fun hlt=>by
    rw[tm (by rw[sQ]; exact hlt),List.getElem?_replicate] at e2
    split at e2 <;> cases e2
   obtain⟨j,rfl⟩:∃ j,i=j+k:=⟨i - k,by omega⟩
   have e2':σ[j]?=some (some v):=by
    rw[tf (by rw[sQ]; omega),sQ] at e2
    have:j+k - k=j:=by omega
    rw[this] at e2; exact e2
   have nl:(relabel scope X.env).names.lookup x≠some .local:=fun z=>by
    have q:∀ (l:List (Str×NameKind)),(l.map fun(n,k)=>if (k == NameKind.free && X.env.scope.kind == .function && X.env.kindOf n == some .cell) then(n,NameKind.cell) else(n,k)).lookup x=some .local->l.lookup x=some .local:=by
     intro l
     induction l with
     | nil=>intro z; simp at z
     | cons y l ih=>
      obtain⟨n,kk⟩:=y
      intro z
      by_cases hcc:(kk == NameKind.free && X.env.scope.kind == .function && X.env.kindOf n == some .cell)=true
      ·simp only[sX,if_pos hcc,tD] at z ⊢
       cases hx:x == n with
       | true=>simp only[hx] at z; cases z
       | false=>simp only[hx] at z ⊢; exact ih z
      ·simp only[sX,if_neg hcc,tD] at z ⊢
       cases hx:x == n with
       | true=>simp only[hx] at z ⊢; exact z
       | false=>simp only[hx] at z ⊢; exact ih z
    exact hN2 x (sL (i:=j) (by rw[List.getElem?_drop,Nat.add_comm]; exact e1)) (q _ z)
   have hcf:(relabel scope X.env).names.lookup x=some .cell∨(relabel scope X.env).names.lookup x=some .free:=by
    rcases e5 with z | z | z
    ·exact absurd z nl
    ·exact .inl z
    ·exact .inr z
   have hmem:(x,NameKind.free) ∈ scope.names:=bn scope.names hcell hcf
   have hx:=hN j x e1 hmem
   obtain⟨mo,_,hl⟩:=I3.loc
   have hkx:=hfr (x,.free) hmem rfl
   obtain⟨u,ru,lk⟩:=hl j x v hx e2' (by
    rcases hkx with z | z
    ·exact .inr (.inl z)
    ·exact .inr (.inr z))
   refine⟨u,ru,.inr ⟨hcf,?_⟩⟩
   rcases lk with ⟨z,_⟩ | ⟨_,c,hc1,hc2⟩
   ·rcases hkx with q | q
    ·rw[q] at z; cases z
    ·rw[q] at z; cases z
   ·obtain⟨c',hc'⟩:=br (cells:=X.env.cells) scope.names [] hmem
    have:=subC x c' hc'
    rw[hc1] at this; cases this
    obtain⟨oc,h5,h6⟩:=hc2
    exact⟨c,hc',oc,by rw[h4]; exact kp _ _ h5,h6⟩
  ·obtain⟨v,oc,h5,h6⟩:=I3.cell x c (subC x c e)
   exact⟨v,oc,by rw[h4]; exact kp _ _ h5,h6⟩
  ·have hp':p ∈ X.pn++pins:=by simpa using hp
   obtain⟨a1,a2,a3,a4,a5⟩:=I3.pin p hp'
   refine⟨by rw[h4]; exact kp _ _ a1,a2,?_,fun z=>?_,a5⟩
   ·have:=Heap.lt_size a1
    rw[eC] at this
    exact Nat.ne_of_lt this
   ·rcases sR.mp (I3.stkSub p.1 z) with q | q
    ·exact a3 q
    ·exact a4 q
  ·rw[h4]; exact I3.hok.kept kp
  ·rw[sW,sQ,I3.len]; exact hlen.symm
 have stat:∀ {H':Hp},(∀ b ∈ fp,H' b=none)->∀ b ∈ fp,cJ (blk X scope N' C s3 H3 fp pins) [] H' b:=fun hn b hb=>
  ⟨hn b hb,(ok'.exf b hb).1,ok'.exfs b hb,.inl hb,fun x c e=>(ok'.exf b hb).2 x c e,fun p hp=>(f3 b hb).2.2.2.2.2 p (by simpa using hp)⟩
 have fr4:∀ b ∈ fp,H3 b=none:=fun b hb=>(f3 b hb).1
 have st4:tn 0 s4.heap:=T.keep _ _ _ st3 fun b _ o e=>by rw[h4]; exact kp _ _ e
 have loop:codeAny (model X.prog X.w) X.A (.compLoop (.ListComp elt [⟨tg,iter,ifs,0⟩] scope pos) 0 (.ref it) (.ref D) (compEnvC scope (bR X.env.cells scope.names []) C X.env))
   (compPost (model X.prog X.w) X.A X.xe none (EP X pins σ Q) (.ref D) C) s4:=by
  refine fe (fun n s'=>∃ i ys H',Inv (blk X scope N' C s3 H3 fp pins) [] (List.replicate k none++σ) H' s'/\tn i s'.heap/\(∀ b ∈ fp,H' b=none)/\W i n ys H') ?_ m0 ⟨0,[],H3,J4,st4,fr4,w0⟩
  rintro n s5 ⟨i,ys,H5,I5,st5,fr5,w5⟩
  obtain⟨hDl,stp⟩:=turn i n ys H5 w5
  rcases stp with ⟨stop,qn⟩ | ⟨go,step⟩
  ·refine thn (T.done (blk X scope N' C s3 H3 fp pins) rfl rfl rfl hc i [] s5 _ H5 (fun _ _=>False) I5 (stat fr5) st5 stop) fun r s6 ⟨hr,I6⟩=>?_
   subst hr
   obtain⟨m6,ns6,_⟩:=id I6.loc
   refine⟨m6,ns6,fun h' hsb=>⟨.ref D,H5,?_,U,qn⟩⟩
   have hC5:H5 C=none:=I6.free
   have un6:Un (frs X.stack) fp H3 H5 s3.heap s6.heap:=I6.base
   have neC:∀ b o,s3.heap.get? b=some o->b≠C:=fun b o e=>by
    have:=Heap.lt_size e
    rw[eC] at this
    exact Nat.ne_of_lt this
   refine I3.call' (s':={ s6 with heap:=h' }) (ch:=fp) I6.os ⟨fun b o e a1 a2 a3=>?_,fun b o e a1 a2 a3=>?_,un6.free,fun b o e a3=>?_,un6.tups,un6.frzs,un6.tbls⟩ ?_ I6.bare (fun b hb=>?_)
   ·exact(hsb.2 b (neC b o e)).trans (un6.keep b o e a1 a2 a3)
   ·obtain⟨sl,z⟩:=un6.slot b o e a1 a2 a3
    exact⟨sl,(hsb.2 b (neC b o e)).trans z⟩
   ·obtain⟨o',z⟩:=un6.there b o e a3
    exact⟨o',(hsb.2 b (neC b o e)).trans z⟩
   ·intro b u e
    refine(I6.hok b u e).stay (fun c w' hcc q=>(hsb.2 c ?_).trans q) (fun _ q=>q) fun _ _ q=>q
    rintro rfl
    rcases hcc with z | z
    ·rw[z,e] at hC5; cases hC5
    ·rw[z] at hC5; cases hC5
   ·exact⟨(f3 b hb).2.2.2.1,(f3 b hb).2.1,(f3 b hb).2.2.2.2.1,(f3 b hb).2.2.2.2.2⟩
  ·refine thn (T.item (blk X scope N' C s3 H3 fp pins) rfl rfl rfl hc i [] s5 _ H5 (fun _ _=>False) I5 (stat fr5) st5 go) fun r s6 ⟨u,hr,h6⟩=>?_
   subst hr
   refine thn h6 fun _ s7 ⟨x,H7,I7,r7,y7,st7,fr7⟩=>?_
   have I7':=I7.pinned (stat fr7) (T.obj _ _ st7)
   refine thn (hg C s3 H3 fp pins _ s7 _ H7 x u _ I7' r7 (step x H7 y7)) fun _ s8 ⟨σ8,H8,I8,d8,q8⟩=>?_
   refine thn (ht C s3 H3 fp pins _ s8 σ8 H8 _ I8 q8) fun b s9 ⟨H9,I9,q9⟩=>?_
   have kz:∀ (j:Nat) v,(List.replicate k none++σ)[j]?=some (some v)->σ8[j]?=some (some v):=fun j v e=>by
    have hik:¬ j<k:=fun hlt=>by
     rw[tm (by rw[sQ]; exact hlt),List.getElem?_replicate] at e
     split at e <;> cases e
    rw[tf (by rw[sQ]; omega),sQ,<- d8,List.getElem?_drop] at e
    have:k+(j - k)=j:=by omega
    rw[this] at e; exact e
   have again:∀ {Hz:Hp}{sz:Shared}{zs:List V}{m':Nat},Inv (blk X scope N' C s3 H3 fp pins) ([]++dg fp s7.heap) σ8 Hz sz->m'<n->W (i+1) m' zs Hz ->
     ∃ m,m<n/\∃ i ys H',Inv (blk X scope N' C s3 H3 fp pins) [] (List.replicate k none++σ) H' sz/\tn i sz.heap/\(∀ b ∈ fp,H' b=none)/\W i m ys H':=fun {Hz sz zs m'} Iz hm wz=>by
    refine⟨m',hm,i+1,zs,Hz,(Iz.unpinned).weak ?_ kz,T.keep _ _ _ st7 fun b hb o e=>(Iz.pin (b,o) (sJ _ (sJ _ (aX hb e)))).1,fun b hb=>?_,wz⟩
    ·rw[Iz.len]; exact I5.len
    ·obtain⟨o,e,d⟩:=T.obj _ _ st7 b hb
     exact(Iz.pin (b,o) (sJ _ (sJ _ (aX hb e)))).2.1
   cases b with
   | false=>
    obtain⟨m',hm,w9⟩:=(show ∃ m',m'<n/\W (i+1) m' ys H9 by simpa using q9)
    rw[if_neg Bool.false_ne_true]
    exact again I9 hm w9
   | true=>
    rw[if_pos rfl] at q9 ⊢
    refine thn (he C s3 H3 fp pins _ s9 σ8 H9 _ I9 q9) fun u9 s10 ⟨y,H10,I10,r10,hz,hD10,m',hm,w10⟩=>?_
    refine thn (aR (X:=blk X scope N' C s3 H3 fp pins) _ s10 σ8 H10 (.ref D) [y] (.ref D) [u9] (fun _ H'=>H'=upd H10 D (.lst (ys++[y]))) I10 rfl (.cons r10 .nil) ⟨D,ys,y,U,U,hD10,hz,U⟩) fun _ s11 ⟨_,H11,I11,_,e11⟩=>?_
    subst e11
    exact again I11 hm w10
 exact codeAny_compStart_list loop (T.self _ 0 _ _ _ st4 loop)
end
section
variable {X:Cx}{pins:List (Addr×Obj)}{σ:St}{H:Hp}{s:Shared}{h':Heap}
theorem Inv.turnedL {t':Nat}{fp:List Addr} (I:Inv X pins σ H s) (k:∀ b o,b ∉ fp->s.heap.get? b=some o->h'.get? b=some o) (hf:∀ b ∈ fp,cJ X pins H b):Inv X pins σ H { s with heap:=h',toks:=t' }:=by
 have nit:∀ b u,H b=some u->b ∉ fp:=fun b u e z=>by rw[(hf b z).1] at e; cases e
 refine I.step (g':=s.gens) (d':=s.drawn) (ch:=fp) (fun b hb=>⟨(hf b hb).2.2.2.1,(hf b hb).2.1,(hf b hb).2.2.2.2.1,(hf b hb).2.2.2.2.2⟩) (fun b o _ _ hc e _=>k b o hc e) (fun b o _ _ hc e _=>⟨o.slots,k b o hc e⟩) (fun _ _ _ _ n=>n)
  (fun b o hc e=>⟨o,k b o hc e⟩) (fun _ _ e=>e) (fun _ _ _ e=>e) (fun b ps e=>⟨#[],by rw[e]; simp⟩) (fun m hm=>?_) (fun b u e=>?_) I.bare
 ·obtain⟨o,es,ep,ho,r⟩:=hm
  exact⟨o,es,ep,k _ o (fun z=>(hf _ z).2.1 rfl) ho,r⟩
 ·refine(I.hok b u e).stay (fun c v hc q=>k c v ?_ q) (fun _ q=>q) fun _ _ q=>q
  rcases hc with z | z
  ·rw[z]; exact nit b u e
  ·exact nit c _ z
theorem Inv.track {p:Addr}{o:HO} (I:Inv X pins σ H s) (hp:X.s₀.heap.objs.size<=p) (hL:p≠X.env.locals) (hc:∀ x c,X.env.cells.lookup x=some c->c≠p) (hpin:∀ q ∈ X.pn++pins,q.1≠p) (hn:H p=none)
  (new:ObjOk X.prog X.w (upd H p o) s.heap p o):Inv X pins σ (upd H p o) s:=by
 refine⟨I.ok,I.os,I.bare,⟨I.base.keep,I.base.slot,fun b ob e n hx=>?_,I.base.there,fun b xs e=>?_,fun b ob u e=>?_,fun b ps e=>?_⟩,I.loc,I.cell,by rw[aw (Ne.symm hL)]; exact I.free,fun x c e=>by rw[aw (hc x c e)]; exact I.freeC x c e,fun q hq=>?_,fun b u e=>?_,I.len⟩
 ·rw[aw (Nat.ne_of_lt (Nat.lt_of_lt_of_le (Heap.lt_size e) hp))]; exact I.base.free b ob e n hx
 ·have:=I.base.tups b xs e
  rw[aw (ba this hn)]; exact this
 ·have:=I.base.frzs b ob u e
  rw[aw (ba this hn)]; exact this
 ·obtain⟨more,e2⟩:=I.base.tbls b ps e
  exact⟨more,by rw[aw (ba e2 hn)]; exact e2⟩
 ·obtain⟨a1,a2,a3,a4,a5⟩:=I.pin q hq
  exact⟨a1,by rw[aw (hpin q hq)]; exact a2,a3,a4,a5⟩
 ·by_cases hb:b=p
  ·subst hb; rw[bi] at e; cases e; exact new
  ·rw[aw hb] at e
   exact(I.hok b u e).stay (fun _ _ _ q=>q) (fun c q=>by rw[aw (ba q hn)]; exact q) fun c xs q=>by rw[aw (ba q hn)]; exact q
end
noncomputable def Itz (K:PySem.W.Frag) (a b:Addr):It :=
 ⟨fun i H=>∃ xs x ys y,SqL K H a xs/\xs[i]?=some x/\SqL K H b ys/\ys[i]?=some y,
  fun i H v H'=>∃ p x y,v=.ref p/\H p=none/\H'=upd H p (.tup [x,y])/\(∀ xs,SqL K H a xs->xs[i]?=some x)/\∀ ys,SqL K H b ys->ys[i]?=some y,
  fun i H=>∃ xs ys,SqL K H a xs/\SqL K H b ys/\(xs.length<=i∨ys.length<=i)⟩
variable{es:List Expr}
theorem l6 {P:Program}{w:World}{K:PySem.W.Frag} {x1} (a b z TI TO i1 i2:Addr):Turn P w K (.Tuple es x1 pos) (Itz K a b) [z,TI,TO,i1,i2] z
  (fun i h=>IsZip h z TI TO .none/\IsPair h TI (.ref i1) (.ref i2)/\(∃ u v,IsPair h TO u v)/\h.IsListIter i1 a i/\h.IsListIter i2 b i/\TI≠TO/\i1≠i2) where
 mem:=by simp
 obj:=fun i h ⟨hz,hTI,⟨u,v,hTO⟩,h1,h2,_⟩ c hc=>by
  simp only[sR,tw,or_false] at hc
  rcases hc with rfl | rfl | rfl | rfl | rfl
  ·exact⟨_,hz,fun v q=>by cases (show Data.fields _=Data.cell v from q)⟩
  ·exact⟨_,hTI,fun v q=>by cases (show Data.seq _ _=Data.cell v from q)⟩
  ·exact⟨_,hTO,fun v q=>by cases (show Data.seq _ _=Data.cell v from q)⟩
  ·obtain⟨o,e,_,d⟩:=h1
   exact⟨o,e,fun v q=>by rw[d] at q; cases q⟩
  ·obtain⟨o,e,_,d⟩:=h2
   exact⟨o,e,fun v q=>by rw[d] at q; cases q⟩
 keep:=fun i h h' ⟨hz,hTI,⟨u,v,hTO⟩,h1,h2,n1,n2⟩ k=>⟨k z (by simp) _ hz,k TI (by simp) _ hTI,⟨u,v,k TO (by simp) _ hTO⟩,h1.at fun o e=>k i1 (by simp) o e,h2.at fun o e=>k i2 (by simp) o e,n1,n2⟩
 item:=by
  intro X hP hw hK hc i pins s σ H E I hf ⟨hz,hTI,⟨u,v,hTO⟩,h1,h2,n1,n2⟩ hg
  subst hP hw hK
  obtain⟨xs,x,ys,y,hqa,hx,hqb,hy⟩:=hg
  obtain⟨its,rv,p,hsz⟩:=I.list hqa
  obtain⟨jts,rw',p',hsz'⟩:=I.list hqb
  obtain⟨ux,hux,rux⟩:=rv.get hx
  obtain⟨uy,huy,ruy⟩:=rw'.get hy
  have D:ZipApart z TI TO i1 i2 a b:=by
   obtain⟨oa,ea,ca,_,_⟩:=p.isList
   obtain⟨ob,eb,cb,_,_⟩:=p'.isList
   obtain⟨o1,e1,c1,_⟩:=h1
   obtain⟨o2,e2,c2,_⟩:=h2
   have dz:∀ {c:Addr}{o:Obj}{T:String},s.heap.get? c=some o->o.cls=.type T->T ≠ "zip" -> c≠z:=fun e q n r=>by
    rw[r,hz] at e; cases e; cases q; exact n rfl
   have dT:∀ {c d:Addr}{o q:Obj}{T U:String},s.heap.get? c=some o->o.cls=.type T->s.heap.get? d=some q->q.cls=.type U->T≠U->c≠d:=fun e1 c1 e2 c2 n r=>by
    subst r; rw[e1] at e2; cases e2; rw[c1] at c2; cases c2; exact n rfl
   exact⟨dz hTI rfl (by decide),dz hTO rfl (by decide),dz e1 c1 (by decide),dz e2 c2 (by decide),n1,dT hTI rfl e1 c1 (by decide),dT hTI rfl e2 c2 (by decide),dT hTO rfl e1 c1 (by decide),dT hTO rfl e2 c2 (by decide),n2,
    dz ea ca (by decide),dT ea ca hTO rfl (by decide),dT ea ca e1 c1 (by decide),dT ea ca e2 c2 (by decide),dz eb cb (by decide),dT eb cb hTO rfl (by decide),dT eb cb e1 c1 (by decide),dT eb cb e2 c2 (by decide)⟩
  refine wpAny_pyNext_zip_item D hz hTI hTO h1 h2 p.isList p'.isList (x:=ux) (y:=uy) (by simpa using hux) (by simpa using huy) fun h' a1 a2 a3 a4 a5 a6 hk=>?_
  refine⟨_,O,?_⟩
  refine wpAny_letOwnedTupleGo_zip (s:={ s with heap:=h' }) a1 fun h2' hz' hs'=>?_
  have lt:∀ b ∈ [z,TI,TO,i1,i2],b<s.heap.objs.size:=fun c hcm=>by
   simp only[sR,tw,or_false] at hcm
   rcases hcm with rfl | rfl | rfl | rfl | rfl
   ·exact Heap.lt_size hz
   ·exact Heap.lt_size hTI
   ·exact Heap.lt_size hTO
   ·obtain⟨o,e,_⟩:=h1; exact Heap.lt_size e
   ·obtain⟨o,e,_⟩:=h2; exact Heap.lt_size e
  have hTI2:IsPair h2' TI (.ref i1) (.ref i2):=hs'.extBut _ _ D.TIz (hk _ _ D.TIz D.TITO D.TIi1 D.TIi2 hTI)
  have hTO2:IsPair h2' TO ux uy:=hs'.extBut _ _ D.TOz a2
  have h12:h2'.IsListIter i1 a (i+1):=a3.extBut hs'.extBut D.i1z
  have h22:h2'.IsListIter i2 b (i+1):=a4.extBut hs'.extBut D.i2z
  have pz:s.heap.objs.size≠z:=Nat.ne_of_gt (Heap.lt_size hz)
  have hp2:IsPair h2' s.heap.objs.size ux uy:=hs'.extBut _ _ pz a5
  have kk:∀ c o,c ∉ [z,TI,TO,i1,i2]->s.heap.get? c=some o->h2'.get? c=some o:=fun c o hcm e=>by
   simp only[sR,tw,or_false,not_or] at hcm
   exact hs'.extBut _ _ hcm.1 (hk c o hcm.1 hcm.2.2.1 hcm.2.2.2.1 hcm.2.2.2.2 e)
  have I1:Inv X pins σ H { s with heap:=h2',toks:=s.toks }:=I.turnedL kk hf
  have fP:cJ X pins H s.heap.objs.size:=I.fpOk (Nat.le_refl _) (I.hok.fresh (Nat.le_refl _))
  have I2:Inv X pins σ (upd H s.heap.objs.size (.tup [x,y])) { s with heap:=h2',toks:=s.toks }:=by
   refine I1.track I.sz (fP.2.1) fP.2.2.2.2.1 fP.2.2.2.2.2 fP.1 ?_
   exact⟨(show 2<=sizeLine by decide),[ux,uy],.cons rux (.cons ruy .nil),⟨_,hp2,O,_,O⟩⟩
  refine⟨.ref s.heap.objs.size,_,I2,O,⟨_,x,y,O,fP.1,O,fun zs hzs=>by rw[I.list_inj hzs hqa]; exact hx,fun zs hzs=>by rw[I.list_inj hzs hqb]; exact hy⟩,⟨hz',hTI2,⟨_,_,hTO2⟩,h12,h22,n1,n2⟩,fun c hcm=>?_⟩
  rw[aw (Nat.ne_of_lt (lt c hcm))]
  exact(hf c hcm).1
 done:=by
  intro X hP hw hK hc i pins s σ H E I hf ⟨hz,hTI,⟨u,v,hTO⟩,h1,h2,n1,n2⟩ hg
  subst hP hw hK
  obtain⟨xs,ys,hqa,hqb,hend⟩:=hg
  obtain⟨its,rv,p,hsz⟩:=I.list hqa
  obtain⟨jts,rw',p',hsz'⟩:=I.list hqb
  have D:ZipApart z TI TO i1 i2 a b:=by
   obtain⟨oa,ea,ca,_,_⟩:=p.isList
   obtain⟨ob,eb,cb,_,_⟩:=p'.isList
   obtain⟨o1,e1,c1,_⟩:=h1
   obtain⟨o2,e2,c2,_⟩:=h2
   have dz:∀ {c:Addr}{o:Obj}{T:String},s.heap.get? c=some o->o.cls=.type T->T ≠ "zip" -> c≠z:=fun e q n r=>by
    rw[r,hz] at e; cases e; cases q; exact n rfl
   have dT:∀ {c d:Addr}{o q:Obj}{T U:String},s.heap.get? c=some o->o.cls=.type T->s.heap.get? d=some q->q.cls=.type U->T≠U->c≠d:=fun e1 c1 e2 c2 n r=>by
    subst r; rw[e1] at e2; cases e2; rw[c1] at c2; cases c2; exact n rfl
   exact⟨dz hTI rfl (by decide),dz hTO rfl (by decide),dz e1 c1 (by decide),dz e2 c2 (by decide),n1,dT hTI rfl e1 c1 (by decide),dT hTI rfl e2 c2 (by decide),dT hTO rfl e1 c1 (by decide),dT hTO rfl e2 c2 (by decide),n2,
    dz ea ca (by decide),dT ea ca hTO rfl (by decide),dT ea ca e1 c1 (by decide),dT ea ca e2 c2 (by decide),dz eb cb (by decide),dT eb cb hTO rfl (by decide),dT eb cb e1 c1 (by decide),dT eb cb e2 c2 (by decide)⟩
  have e1:=rv.length
  have e2:=rw'.length
  refine wpAny_pyNext_zip_end (I.ok.hd hc) D hz hTI hTO h1 h2 p.isList p'.isList (k1:=i) (k2:=i) (by
   rcases hend with h | h
   ·left; simp; omega
   ·right; simp; omega) fun h' hk=>⟨O,?_⟩
  exact I.turnedL (t':=s.toks) (fun c o hcm e=>by
   simp only[sR,tw,or_false,not_or] at hcm
   exact hk c o hcm.1 hcm.2.2.1 hcm.2.2.2.1 hcm.2.2.2.2 e) hf
 self:=fun _ _ _ _ _ st h=>wpAny_pyIter_zip st.1 h
section
variable {X:Cx}
noncomputable def iZip (K:PySem.W.Frag) (ta:TA):TI:=fun σ H R=>ta σ H fun vs H1=>∃ a b,vs=[.ref a,.ref b]/\(∃ xs,SqL K H1 a xs)/\(∃ ys,SqL K H1 b ys)/\R (Itz K a b) H1
theorem qC {x1} {tpos:Pos}{e1 e2:Expr}{ta:TA}{p pos:Pos} (hg:Gl X "zip") (hm:X.mg "zip" = none) (ha:PA X [e1,e2] ta) (hs:starEach [e1,e2] X.env=[(false,eval e1 X.env),(false,eval e2 X.env)]:=by rfl) (hs2:starEach [e2] X.env=[(false,eval e2 X.env)]:=by rfl) :
  PI X (.Tuple es x1 tpos) (.Call (.Name "zip" p) [e1,e2] [] pos) (iZip X.K ta):=by
 intro pins s σ H R I h
 refine Call_ (dJ I hg hm (by rfl) (PyProof.Rows.callWith_type1 (thn (ha pos pins s σ H _ I h) fun us s1 ⟨vs,H1,I1,r1,q1⟩=>?_) (by rw[hs,hs2]) (by rw[hs2]; rfl)))
 obtain⟨a,b,rfl,⟨xs,hqa⟩,⟨ys,hqb⟩,q⟩:=q1
 obtain⟨u1,u2,rfl,ru1,ru2⟩:=gK r1
 cases (show u1=Value.ref a from ru1)
 cases (show u2=Value.ref b from ru2)
 obtain⟨its,rv,pa,hsz⟩:=I1.list hqa
 obtain⟨jts,rw',pb,hsz'⟩:=I1.list hqb
 refine call_zip_2 pa.isList pb.isList fun h' hz hTI hTO h1 h2 hsize hk=>?_
 refine wpAny_pyIter_zip (s:={ s1 with heap:=h' }) hz ?_
 refine⟨_,_,_,_,H1,U,I1.kept (t':=s1.toks) hk,l6 a b (s1.heap.objs.size+4) (s1.heap.objs.size+2) (s1.heap.objs.size+3) s1.heap.objs.size (s1.heap.objs.size+1),⟨hz,hTI,⟨_,_,hTO⟩,h1,h2,(fun z=>by have:s1.heap.objs.size+2=s1.heap.objs.size+3:=z; omega),(fun z=>by have:s1.heap.objs.size=s1.heap.objs.size+1:=z; omega)⟩,fun c hc=>?_,q⟩
 have hge:s1.heap.objs.size<=c:=by
  simp only[sR,tw,or_false] at hc
  rcases hc with h | h | h | h | h <;> (rw[h]; omega)
 exact I1.fpOk hge (I1.hok.fresh hge)
end
noncomputable def Ite (K:PySem.W.Frag) (a:Addr):It :=
 ⟨fun i H=>∃ xs x,SqL K H a xs/\xs[i]?=some x,
  fun i H v H'=>∃ p x,v=.ref p/\H p=none/\H'=upd H p (.tup [.int i,x])/\∀ xs,SqL K H a xs->xs[i]?=some x,
  fun i H=>∃ xs,SqL K H a xs/\xs.length<=i⟩
theorem lb {P:Program}{w:World}{K:PySem.W.Frag} {x1} (a e it:Addr):Turn P w K (.Tuple es x1 pos) (Ite K a) [e,it] e
  (fun i h=>(∃ old,IsEnum h e it i old)/\h.IsListIter it a i) where
 mem:=by simp
 obj:=fun i h ⟨⟨old,he⟩,h1⟩ c hc=>by
  simp only[sR,tw,or_false] at hc
  rcases hc with rfl | rfl
  ·exact⟨_,he,fun v q=>by cases (show Data.fields _=Data.cell v from q)⟩
  ·obtain⟨o,e,_,d⟩:=h1
   exact⟨o,e,fun v q=>by rw[d] at q; cases q⟩
 keep:=fun i h h' ⟨⟨old,he⟩,h1⟩ k=>⟨⟨old,k e (by simp) _ he⟩,h1.at fun o q=>k it (by simp) o q⟩
 item:=by
  intro X hP hw hK hc i pins s σ H E I hf ⟨⟨old,he⟩,h1⟩ hg
  subst hP hw hK
  obtain⟨xs,x,hqa,hx⟩:=hg
  obtain⟨its,rv,p,hsz⟩:=I.list hqa
  obtain⟨ux,hux,rux⟩:=rv.get hx
  have hne:e≠it:=fun z=>by
   obtain⟨o1,e1,c1,_⟩:=h1
   rw[<- z,he] at e1; cases e1
   exact absurd (show Value.type "enumerate" = Value.type "list_iterator" from c1) (by decide)
  refine wpAny_pyNext_enum_item he h1 p.isList (x:=ux) (by simpa using hux) hne fun h' a1 a3 a5 a6 hk=>?_
  refine⟨_,U,?_⟩
  refine wpAny_letOwnedTupleGo_enum (s:={ s with heap:=h',toks:=s.toks+1 }) a1 fun h2' hz' hs'=>?_
  have lt:∀ b ∈ [e,it],b<s.heap.objs.size:=fun c hcm=>by
   simp only[sR,tw,or_false] at hcm
   rcases hcm with rfl | rfl
   ·exact Heap.lt_size he
   ·obtain⟨o,q,_⟩:=h1; exact Heap.lt_size q
  have h12:h2'.IsListIter it a (i+1):=a3.extBut hs'.extBut (Ne.symm hne)
  have pz:s.heap.objs.size≠e:=Nat.ne_of_gt (Heap.lt_size he)
  have hp2:h2'.get? s.heap.objs.size=some { cls:=.type "tuple",data:=.seq #[.int i s.toks,ux] }:=hs'.extBut _ _ pz a5
  have kk:∀ c o,c ∉ [e,it]->s.heap.get? c=some o->h2'.get? c=some o:=fun c o hcm q=>by
   simp only[sR,tw,or_false,not_or] at hcm
   exact hs'.extBut _ _ hcm.1 (hk c o hcm.1 hcm.2 q)
  have I1:Inv X pins σ H { s with heap:=h2',toks:=s.toks+1 }:=I.turnedL kk hf
  have fP:cJ X pins H s.heap.objs.size:=I.fpOk (Nat.le_refl _) (I.hok.fresh (Nat.le_refl _))
  have I2:Inv X pins σ (upd H s.heap.objs.size (.tup [.int i,x])) { s with heap:=h2',toks:=s.toks+1 }:=by
   refine I1.track I.sz (fP.2.1) fP.2.2.2.2.1 fP.2.2.2.2.2 fP.1 ?_
   exact⟨(show 2<=sizeLine by decide),[.int i s.toks,ux],.cons ⟨_,U⟩ (.cons rux .nil),⟨_,hp2,U,_,U⟩⟩
  refine⟨.ref s.heap.objs.size,_,I2,U,⟨_,x,U,fP.1,U,fun zs hzs=>by rw[I.list_inj hzs hqa]; exact hx⟩,⟨⟨_,hz'⟩,h12⟩,fun c hcm=>?_⟩
  rw[aw (Nat.ne_of_lt (lt c hcm))]
  exact(hf c hcm).1
 done:=by
  intro X hP hw hK hc i pins s σ H E I hf ⟨⟨old,he⟩,h1⟩ hg
  subst hP hw hK
  obtain⟨xs,hqa,hend⟩:=hg
  obtain⟨its,rv,p,hsz⟩:=I.list hqa
  have e1:=rv.length
  refine wpAny_pyNext_enum_end (I.ok.hd hc) he h1 p.isList (i:=i) (by simp; omega) fun h' hk=>⟨U,?_⟩
  exact I.turnedL (t':=s.toks) (fun c o hcm q=>by
   simp only[sR,tw,or_false,not_or] at hcm
   exact hk c o hcm.2 q) hf
 self:=fun _ _ _ _ _ ⟨⟨_,st⟩,_⟩ h=>wpAny_pyIter_enum st h
section
variable {X:Cx}
noncomputable def iEnum (K:PySem.W.Frag) (ta:TA):TI:=fun σ H R=>ta σ H fun vs H1=>∃ a,vs=[.ref a]/\(∃ xs,SqL K H1 a xs)/\R (Ite K a) H1
theorem oS {x1} {tpos:Pos}{e1:Expr}{ta:TA}{p pos:Pos} (hg:Gl X "enumerate") (hm:X.mg "enumerate" = none) (ha:PA X [e1] ta) (hs:starEach [e1] X.env=[(false,eval e1 X.env)]:=by rfl) :
  PI X (.Tuple es x1 tpos) (.Call (.Name "enumerate" p) [e1] [] pos) (iEnum X.K ta):=by
 intro pins s σ H R I h
 refine Call_ (dJ I hg hm (by rfl) (PyProof.Rows.callWith_type1 (thn (ha pos pins s σ H _ I h) fun us s1 ⟨vs,H1,I1,r1,q1⟩=>?_) hs rfl))
 obtain⟨a,rfl,⟨xs,hqa⟩,q⟩:=q1
 obtain⟨u1,rfl,ru1⟩:=c8 r1
 cases (show u1=Value.ref a from ru1)
 obtain⟨its,rv,pa,hsz⟩:=I1.list hqa
 refine call_enumerate_list pa.isList fun h' hz h1 hsize hk=>?_
 refine wpAny_pyIter_enum (s:={ s1 with heap:=h' }) hz ?_
 refine⟨_,_,_,_,H1,U,I1.kept (t':=s1.toks) hk,lb a (s1.heap.objs.size+1) s1.heap.objs.size,⟨⟨_,hz⟩,h1⟩,fun c hc=>?_,q⟩
 have hge:s1.heap.objs.size<=c:=by
  simp only[sR,tw,or_false] at hc
  rcases hc with h | h <;> (rw[h]; omega)
 exact I1.fpOk hge (I1.hok.fresh hge)
end
theorem gE {P:Nat->Value->Prop}{acc:List Value}{xs:List V} (hl:acc.length=xs.length) (h:∀ (j:Nat) (v:Value),acc[j]?=some v->P j v) (hP:∀ (j:Nat) v x,P j v->xs[j]?=some x->RelV x v):Vals xs acc:=by
 induction xs generalizing acc P with
 | nil=>
  cases acc with
  | nil=>exact .nil
  | cons _ _=>simp at hl
 | cons x xs ih=>
  cases acc with
  | nil=>simp at hl
  | cons u acc=>
   refine .cons (hP 0 u x (h 0 u rfl) rfl) (ih (P:=fun j=>P (j+1)) (by simpa using hl) (fun j v e=>h (j+1) v (by simpa using e)) fun j v y p e=>hP (j+1) v y p (by simpa using e))
section
variable {X:Cx}
theorem jK:∀ {bs:List Bool}{us:List Value},Vals (bs.map V.bl) us->LSm.BoolsAre us bs
 | [],_,.nil=>.nil
 | b::bs,_,.cons r t=>by
  obtain rfl:=(show _=Value.bool b from r)
  exact .cons b (jK t)
theorem jJ (hc:X.calm=true):cq X (.builtin "all") (fun xs H Q=>∃ (a:Addr) (bs:List Bool),xs=[V.ref a]/\SqL X.K H a (bs.map V.bl)/\Q (.bl (bs.all id)) H):=by
 intro pins s σ H xs us Q I r h
 obtain⟨a,bs,rfl,hq,q⟩:=h
 obtain⟨u,rfl,ru⟩:=c8 r
 cases (show u=Value.ref a from ru)
 obtain⟨its,rv,p,hz⟩:=I.list hq
 obtain⟨m,F⟩:=I.fr
 have hlt:a<s.heap.objs.size:=by obtain⟨_,e,_⟩:=p.isList; exact Heap.lt_size e
 have hb:=jK rv
 refine call_all_walk (wpAny_pyIter_list p.isList ?_)
 refine⟨s.heap.objs.size,[s.heap.objs.size,a],[s.heap.objs.size],its.toArray.size,_,_,fun i=>(bs[i]?).getD true,U,Walks.list (A:=X.A.in1) (I.ok.hd hc) _ a (Nat.ne_of_lt hlt) its.toArray,
  ⟨⟨_,Heap.get?_push_size _ rfl,U,U⟩,p.isList.push _⟩,fun i v s' Q' E' hP hQ=>?_,fun h' tk hk=>?_⟩
 ·obtain⟨b,e,rfl⟩:=hb.get i v (by simpa using hP)
  simp only[e,Option.getD_some] at hQ
  exact wpAny_truthy_bool hQ
 ·have e:((List.range its.toArray.size).all fun i=>(bs[i]?).getD true)=bs.all id:=by
   rw[sU,hb.length]; exact LSm.range_all bs
  rw[e]
  exact⟨.bl (bs.all id),H,I.kept (LSm.kept_iter hk),U,q⟩
end
structure FunG (K:PySem.W.Frag) (x qual:Str) (st:Stmt) (dV:Value) (f:Addr) (fd:FuncData):Prop where
 ex:∃ (oc:Value) (od:Option Addr) (kV doc pm:Value) (an:Option Addr) (cdv ct:Value) (osl:Array (Option Value)),
  fd=W.fnOf x qual (aj st) (ai st) (ac st) dV kV doc pm an cdv ct/\K.lookup f=some ⟨oc,od,.func fd,osl⟩/\W.codeIn K cdv qual=true
 kp:W.keepIn K (.ref f)=true
section
variable {P:Program}{w:World}{K:PySem.W.Frag}{mg:Str->Option Value}{base:Heap}
theorem FunG.ok {x qual:Str}{st:Stmt}{dV:Value}{f:Addr}{fd:FuncData}{N ps:List Str}{k:Nat}{sp:Sp} (F:FunG K x qual st dV f fd) (S:FnScope N ps (ac st)) (len:∀ vs H Q E,sp vs H Q E->vs.length=ps.length)
  (hbody:∀ (cdv:Value) (A:Around) (outer:List Env) (s:Shared) (H:Hp) (vs:List V) (Q:VK) (E:XK),Room k (A.deeper (envOfC qual (ac st) s.heap.objs.size f cdv))->sp vs H Q E ->
   ∃ t,PSs (cP CX0 P w K mg base N qual (ac st) f cdv A outer s H E).nox (ai st) t/\t { nx:=fun _ H'=>Q .non H',rt:=Q } (start N vs) H):FnOk P w K mg base CX0 (k+1) f fd ps sp:=by
 obtain⟨oc,od,kV,doc,pm,an,cdv,ct,osl,rfl,lk,hcd⟩:=F.ex
 refine nL lk hcd S len fun A outer s H vs Q E hr hsp=>?_
 obtain⟨t,h,q⟩:=hbody cdv A outer s H vs Q E hr hsp
 exact⟨t,h.nox,q⟩
theorem FunG.binds {x qual:Str}{st:Stmt}{dV:Value}{f:Addr}{fd:FuncData}{ps:List Str} (F:FunG K x qual st dV f fd)
  (h:∀ (kV doc pm:Value) (an:Option Addr) (cdv ct:Value) (us:List Value),us.length=ps.length->bindArgs (W.fnOf x qual (aj st) (ai st) (ac st) dV kV doc pm an cdv ct) ⟨us,[]⟩=pure (ps.zip us)):Binds K fd ps []:=by
 obtain⟨oc,od,kV,doc,pm,an,cdv,ct,osl,rfl,lk,hcd⟩:=F.ex
 exact .all (h kV doc pm an cdv ct)
theorem aB {x qual:Str}{st:Stmt}{f:Addr}{oc:Value}{od an:Option Addr}{osl:Array (Option Value)}{dV kV doc pm cdv ct:Value} (l:K.lookup f=some ⟨oc,od,.func (W.fnOf x qual (aj st) (ai st) (ac st) dV kV doc pm an cdv ct),osl⟩)
  (c:W.codeIn K cdv qual=true) (k:W.keepIn K (.ref f)=true):FunG K x qual st dV f (W.fnOf x qual (aj st) (ai st) (ac st) dV kV doc pm an cdv ct):=⟨⟨oc,od,kV,doc,pm,an,cdv,ct,osl,U,l,c⟩,k⟩
end
section
variable {X:Cx}{K:PySem.W.Frag}
theorem fh (hK:X.K=K) {k:Nat}{t:TGs}{n:Nat} (hc:X.calm=true) (h:PGs X es t)
  (hn:(assignEach es X.env).length=n:=by rfl) (hst:(assignEach es X.env).findIdx? (·.1)=none:=by rfl):PG X (.Tuple es k pos) (r8 K n t):=by
 subst hK; exact fO hc h hn hst
theorem nG (hK:X.K=K):IxR X (rY K):=by subst hK; exact au
end
end L2
namespace L2
theorem bS {σ:St}{H:Hp}{A B:Hp->Prop} (h:A H):pE σ H (fun b H3=>if b=true then A H3 else B H3):=(cY h:if true=true then A H else B H)
end L2
namespace L2
open PySem PySem.Spec PyProof.Rows
section
variable {X:Cx}{CX:CXT}{k:Nat}{f C:Addr}{fd:FuncData}{ps ks:List Str}{sp:Sp}{E:XK}{x m:Str}{p pos apos kpos:Pos}{e o:Expr}{es:List Expr}{kws:List Keyword}{te ta:TE}{t tk:TA}
 {g:List Value->List Value->List Value}{gV:List V->List V->List V}
end
end L2
namespace L2
open PySem PySem.Spec PyProof.Rows
section
variable {X:Cx}{o i e:Expr}{td ty:TE}{tpos pos apos cpos:Pos}
theorem dt:OpR X (binaryOp .Add) (fun x y H Q=>∃ a b xs ys,x=.ref a/\y=.ref b/\SqL X.K H a xs/\SqL X.K H b ys/\xs.length+ys.length<=sizeLine/\∀ l,H l=none->Q (.ref l) (upd H l (.lst (xs++ys)))):=by
 intro pins s σ H x y u v Q I rx ry h
 obtain⟨a,b,xs,ys,rfl,rfl,ha,hb,hz,q⟩:=h
 cases (show u=Value.ref a from rx)
 cases (show v=Value.ref b from ry)
 obtain⟨ia,ra,⟨⟨cls,dd,data,sl⟩,n,ho,hc,_,hd⟩,_⟩:=I.list ha
 obtain⟨ib,rb,⟨⟨cls2,dd2,data2,sl2⟩,n2,ho2,hc2,_,hd2⟩,_⟩:=I.list hb
 simp only at hc hd hc2 hd2
 subst hc hd hc2 hd2
 have e:ia.toArray++ib.toArray=(ia++ib).toArray:=by simp
 have e1:=ra.length
 have e2:=rb.length
 refine concat_meets ⟨_,ho,U⟩ ⟨_,ho2,U⟩ noFill_list_add seq_list_add PySem.F.slot_list_add PySem.F.entry_list_add (PySem.F.args_list_add_2 _ _) (list_addW a b ia.toArray ib.toArray n n2 dd dd2 sl sl2 (by simp; omega)) ⟨ho,ho2,?_⟩
 rw[e]
 refine⟨.ref s.heap.objs.size,_,I.laid (a:=s.heap.objs.size) (o:=.lst (xs++ys)) (t':=s.toks) (fun _ _ q=>Heap.get?_push_of_some _ q) (Nat.le_refl _) ⟨by simpa using hz,ia++ib,0,ra.append rb,Heap.get?_push_size _ rfl⟩,U,q _ (I.hok.fresh (Nat.le_refl _))⟩
end
section
variable {X:Cx}
theorem oQ {ix:Nat}{nm:Str}{pos' spos:Pos}{elt tg iter:Expr}{ifs:List Expr}{scope:Scope}{pos:Pos}{wi:TI}{k:Nat}{g:TG}{tc:TT}{te:TE} (hNd:X.N.Nodup) (hix:X.N[ix]?=some nm) (hLx:Loc X.env.scope nm) (N':List Str) (hc:X.calm=true) (hi:PI X tg iter wi)
  (hg:∀ C s₀ H₀ fp pins,PG (blk X scope N' C s₀ H₀ fp pins) tg g) (ht:∀ C s₀ H₀ fp pins,PTs (blk X scope N' C s₀ H₀ fp pins) ifs tc) (he:∀ C s₀ H₀ fp pins,PE (blk X scope N' C s₀ H₀ fp pins) elt te)
  (hk:scope.kind=.function) (hcell:∀ y ∈ scope.names,y.2≠.cell) (hnames:∀ y ∈ scope.names,y.2=.local->scope.names.lookup y.1=some .local)
  {esc:Scope} (hsc:X.env.scope=esc) (hfr':∀ y ∈ scope.names,y.2=.free->esc.names.lookup y.1=some .cell∨esc.names.lookup y.1=some .free)
  (hlen:N'.length=k+X.N.length)
  (hN:∀ (i:Nat) (x:Str),N'[i+k]?=some x->(x,NameKind.free) ∈ scope.names->X.N[i]?=some x)
  (hN2:∀ x ∈ N'.drop k,scope.names.lookup x≠some .local)
  (hs:∀ x,foldedSetIterable iter X.env x=pure x:=by intro _; rfl)
  (hsw:swapsWith (.ListComp elt [⟨tg,iter,ifs,0⟩] scope pos) (some (.Name nm pos')) spos.line X.env=pure true:=by rfl)
  (hf:X.fn nm=true∨X.env.scope.names.lookup nm=some .local:=by first | exact .inl rfl | exact .inr rfl | assumption) :
  PS X (.Assign [.Name nm pos'] (.ListComp elt [⟨tg,iter,ifs,0⟩] scope pos) spos) (ma (tLC wi k g tc te) (jB ix)):=by
 intro pins s σ H Dn I h
 have hfr:∀ y ∈ scope.names,y.2=.free->X.env.kindOf y.1=some .cell∨X.env.kindOf y.1=some .free:=fun y hy hf=>by
  show X.env.scope.names.lookup y.1=_∨X.env.scope.names.lookup y.1=_
  rw[hsc]; exact hfr' y hy hf
 have hcells:∀ y ∈ scope.names,y.2=.free->∃ c,X.env.cells.lookup y.1=some c:=fun y hy hf=>I.ok.has y.1 (hfr y hy hf)
 have hclos:=cj scope X.env hcells
 rw[exec_Assign_Name_used _ _ _ _ hsw]
 refine wpAny_bind (wpAny_standAt (wpAny_bind ?_))
 show wpAny _ X.A (do let _ <- comprehension (.ListComp elt [⟨tg,iter,ifs,0⟩] scope pos) scope X.env _ (newList []) false (eval iter X.env) (some (assign (.Name nm pos') X.env))) _ _ s
 refine wpAny_bind (wpAny_mono (wpAny_comprehension_free (Q:=fun _ s'=>SP X pins Dn .next s') (use:=some (assign (.Name nm pos') X.env)) rfl hs hclos hk hnames ?_) (fun _ s' hq=>wpAny_pure (wpAny_pure hq)) fun _ _ e=>e)
 refine(thn (hi pins s σ H _ I h) fun v s1 h1=>thn h1 fun itv s2 h2=>?_)
 obtain⟨it,fp,tn,J,H2,e,I2,T,st2,f2,R⟩:=h2
 subst e
 refine wpAny_newObj_type ?_
 have hD:H2 s2.heap.objs.size=none:=I2.hok.fresh (Nat.le_refl _)
 obtain⟨W,⟨m0,w0⟩,turn⟩:=R _ hD
 generalize eD:s2.heap.objs.size=D at *
 have I3:Inv X pins σ (upd H2 D (.lst [])) { s2 with heap:=s2.heap.push { cls:=.type "list",dict:=none,data:=.seq ([]:List Value).toArray } } :=
  I2.laid (a:=D) (o:=.lst []) (t':=s2.toks) (fun b u e=>Heap.get?_push_of_some _ e) (Nat.le_of_eq eD) ⟨Nat.zero_le _,[],0,.nil,by rw[<- eD]; exact Heap.get?_push_size _ rfl⟩
 generalize e3:({ s2 with heap:=s2.heap.push { cls:=.type "list",dict:=none,data:=.seq ([]:List Value).toArray } }:Shared)=s3 at *
 have st3:tn 0 s3.heap:=T.keep _ _ _ st2 fun b _ o e=>by rw[<- e3]; exact Heap.get?_push_of_some _ e
 have lt2:∀ b ∈ fp,b<s2.heap.objs.size:=fun b hb=>by
  obtain⟨o,e,_⟩:=T.obj _ _ st2 b hb
  exact Heap.lt_size e
 have neD:∀ b ∈ fp,b≠D:=fun b hb=>by
  have:=lt2 b hb
  rw[eD] at this
  exact Nat.ne_of_lt this
 have f3:∀ b ∈ fp,cJ X pins (upd H2 D (.lst [])) b:=fun b hb=>⟨by rw[aw (neD b hb)]; exact(f2 b hb).1,(f2 b hb).2⟩
 generalize upd H2 D (.lst [])=H3 at *
 refine wpAny_newFunctionEnv hcell (by intro y hy; simp at hy) (fun h₁ hns₁ hsb₁=>?_) hk
 try dsimp only at hns₁ hsb₁ ⊢
 have lt3:∀ b ∈ fp,b<s3.heap.objs.size:=fun b hb=>by
  obtain⟨o,e,_⟩:=T.obj _ _ st3 b hb
  exact Heap.lt_size e
 generalize eC:s3.heap.objs.size=C at *
 have kp:∀ b o,s3.heap.get? b=some o->h₁.get? b=some o:=fun b o e=>(hsb₁.2 b (by rw[<- eC]; exact Nat.ne_of_lt (Heap.lt_size e))).trans (Heap.get?_push_of_some _ e)
 have subC:∀ x c,(bR X.env.cells scope.names []).lookup x=some c->X.env.cells.lookup x=some c:=fun x c e=>ck scope.names [] hcells (fun y d z=>by simp at z) e
 have hCnone:H3 C=none:=I3.hok.fresh (Nat.le_of_eq eC)
 have ok':(blk X scope N' C s3 H3 fp pins).Ok:={
  mod:=I3.ok.mod
  kind:=hk
  glob:=I3.ok.glob
  blt:=I3.ok.blt
  above:=Nat.le_of_eq eC
  inj:=fun x y c a b=>I3.ok.inj x y c (subC x c a) (subC y c b)
  has:=fun x hx=>br scope.names [] (bn scope.names hcell hx)
  cab:=fun x c a _=>absurd a Bool.false_ne_true
  hd:=I3.ok.hd
  frames:=I3.ok.frames
  stk:=.inl rfl
  exf:=fun b hb=>⟨by have:=lt3 b hb; exact Nat.ne_of_lt this,fun x c e=>(f3 b hb).2.2.2.2.1 x c (subC x c e)⟩
  bs:=I3.bs
  bsz:=Nat.le_trans I3.ok.bsz I3.sz
  noex:=fun b o e hb=>by
   rcases (f3 b hb).2.2.2.1 with z | z
   ·exact I3.ok.noex b o e z
   ·exact absurd (Nat.lt_of_lt_of_le (Heap.lt_size e) (Nat.le_trans I3.ok.bsz z)) (Nat.lt_irrefl _)
  exfs:=fun b hb z=>by
   rcases sR.mp (I3.stkSub b z) with e | e
   ·exact(f3 b hb).2.1 e
   ·exact(f3 b hb).2.2.1 e
  funs:=I3.stack
  frf:=I3.stkFree }
 have s4os:({ s3 with heap:=h₁,toks:=s3.toks+([]:List (Str×Value)).length }:Shared).os=s3.os:=rfl
 generalize e4:({ s3 with heap:=h₁,toks:=s3.toks+([]:List (Str×Value)).length }:Shared)=s4 at *
 have h4:s4.heap=h₁:=by rw[<- e4]
 have J4:Inv (blk X scope N' C s3 H3 fp pins) [] (List.replicate k none++σ) H3 s4:=by
  refine⟨ok',s4os,by rw[<- e4]; exact I3.bare,?_,⟨_,by rw[h4]; exact hns₁,fun i x v e1 e2 e5=>?_⟩,fun x c e=>?_,hCnone,fun x c e=>I3.freeC x c (subC x c e),fun p hp=>?_,?_,?_⟩
  ·rw[h4]; exact Un.kept kp
  ·have hik:¬ i<k:=fun hlt=>by
    rw[tm (by rw[sQ]; exact hlt),List.getElem?_replicate] at e2
    split at e2 <;> cases e2
   obtain⟨j,rfl⟩:∃ j,i=j+k:=⟨i - k,by omega⟩
   have e2':σ[j]?=some (some v):=by
    rw[tf (by rw[sQ]; omega),sQ] at e2
    have:j+k - k=j:=by omega
    rw[this] at e2; exact e2
   have nl:(relabel scope X.env).names.lookup x≠some .local:=fun z=>by
    have q:∀ (l:List (Str×NameKind)),(l.map fun(n,k)=>if (k == NameKind.free && X.env.scope.kind == .function && X.env.kindOf n == some .cell) then(n,NameKind.cell) else(n,k)).lookup x=some .local->l.lookup x=some .local:=by
     intro l
     induction l with
     | nil=>intro z; simp at z
     | cons y l ih=>
      obtain⟨n,kk⟩:=y
      intro z
      by_cases hcc:(kk == NameKind.free && X.env.scope.kind == .function && X.env.kindOf n == some .cell)=true
      ·simp only[sX,if_pos hcc,tD] at z ⊢
       cases hx:x == n with
       | true=>simp only[hx] at z; cases z
       | false=>simp only[hx] at z ⊢; exact ih z
      ·simp only[sX,if_neg hcc,tD] at z ⊢
       cases hx:x == n with
       | true=>simp only[hx] at z ⊢; exact z
       | false=>simp only[hx] at z ⊢; exact ih z
    exact hN2 x (sL (i:=j) (by rw[List.getElem?_drop,Nat.add_comm]; exact e1)) (q _ z)
   have hcf:(relabel scope X.env).names.lookup x=some .cell∨(relabel scope X.env).names.lookup x=some .free:=by
    rcases e5 with z | z | z
    ·exact absurd z nl
    ·exact .inl z
    ·exact .inr z
   have hmem:(x,NameKind.free) ∈ scope.names:=bn scope.names hcell hcf
   have hx:=hN j x e1 hmem
   obtain⟨mo,_,hl⟩:=I3.loc
   have hkx:=hfr (x,.free) hmem rfl
   obtain⟨u,ru,lk⟩:=hl j x v hx e2' (by
    rcases hkx with z | z
    ·exact .inr (.inl z)
    ·exact .inr (.inr z))
   refine⟨u,ru,.inr ⟨hcf,?_⟩⟩
   rcases lk with ⟨z,_⟩ | ⟨_,c,hc1,hc2⟩
   ·rcases hkx with q | q
    ·rw[q] at z; cases z
    ·rw[q] at z; cases z
   ·obtain⟨c',hc'⟩:=br (cells:=X.env.cells) scope.names [] hmem
    have:=subC x c' hc'
    rw[hc1] at this; cases this
    obtain⟨oc,h5,h6⟩:=hc2
    exact⟨c,hc',oc,by rw[h4]; exact kp _ _ h5,h6⟩
  ·obtain⟨v,oc,h5,h6⟩:=I3.cell x c (subC x c e)
   exact⟨v,oc,by rw[h4]; exact kp _ _ h5,h6⟩
  ·have hp':p ∈ X.pn++pins:=by simpa using hp
   obtain⟨a1,a2,a3,a4,a5⟩:=I3.pin p hp'
   refine⟨by rw[h4]; exact kp _ _ a1,a2,?_,fun z=>?_,a5⟩
   ·have:=Heap.lt_size a1
    rw[eC] at this
    exact Nat.ne_of_lt this
   ·rcases sR.mp (I3.stkSub p.1 z) with q | q
    ·exact a3 q
    ·exact a4 q
  ·rw[h4]; exact I3.hok.kept kp
  ·rw[sW,sQ,I3.len]; exact hlen.symm
 have stat:∀ {H':Hp},(∀ b ∈ fp,H' b=none)->∀ b ∈ fp,cJ (blk X scope N' C s3 H3 fp pins) [] H' b:=fun hn b hb=>
  ⟨hn b hb,(ok'.exf b hb).1,ok'.exfs b hb,.inl hb,fun x c e=>(ok'.exf b hb).2 x c e,fun p hp=>(f3 b hb).2.2.2.2.2 p (by simpa using hp)⟩
 have fr4:∀ b ∈ fp,H3 b=none:=fun b hb=>(f3 b hb).1
 have st4:tn 0 s4.heap:=T.keep _ _ _ st3 fun b _ o e=>by rw[h4]; exact kp _ _ e
 have loop:codeAny (model X.prog X.w) X.A (.compLoop (.ListComp elt [⟨tg,iter,ifs,0⟩] scope pos) 0 (.ref it) (.ref D) (compEnvC scope (bR X.env.cells scope.names []) C X.env))
   (compPost (model X.prog X.w) X.A X.xe (some (assign (.Name nm pos') X.env)) (fun _ s'=>SP X pins Dn .next s') (.ref D) C) s4:=by
  refine fe (fun n s'=>∃ i ys H',Inv (blk X scope N' C s3 H3 fp pins) [] (List.replicate k none++σ) H' s'/\tn i s'.heap/\(∀ b ∈ fp,H' b=none)/\W i n ys H') ?_ m0 ⟨0,[],H3,J4,st4,fr4,w0⟩
  rintro n s5 ⟨i,ys,H5,I5,st5,fr5,w5⟩
  obtain⟨hDl,stp⟩:=turn i n ys H5 w5
  rcases stp with ⟨stop,qn⟩ | ⟨go,step⟩
  ·refine thn (T.done (blk X scope N' C s3 H3 fp pins) rfl rfl rfl hc i [] s5 _ H5 (fun _ _=>False) I5 (stat fr5) st5 stop) fun r s6 ⟨hr,I6⟩=>?_
   subst hr
   obtain⟨m6,ns6,_⟩:=id I6.loc
   have hC5:H5 C=none:=I6.free
   have un6:Un (frs X.stack) fp H3 H5 s3.heap s6.heap:=I6.base
   have IX:Inv X pins σ H5 s6:=by
    refine I3.call' (s':=s6) (ch:=fp) I6.os un6 I6.hok I6.bare (fun b hb=>?_)
    exact⟨(f3 b hb).2.2.2.1,(f3 b hb).2.1,(f3 b hb).2.2.2.2.1,(f3 b hb).2.2.2.2.2⟩
   have fpC:cJ X pins H5 C:=I3.fpOk (Nat.le_of_eq eC) hC5
   obtain⟨oC,esC,epC,gC,dC,rC⟩:=ns6
   have IXp:=IX.pinned (fp:=[C]) (fun b hb=>by rw[sO.mp hb]; exact fpC) (fun b hb=>by rw[sO.mp hb]; exact⟨oC,gC,fun v z=>by rw[dC] at z; cases z⟩)
   have sto:=az (pos:=pos') hNd hix hLx hf _ s6 σ H5 (.ref D) (.ref D) (fun σ' H'=>σ'=σ.set ix (some (.ref D))/\H'=H5) IXp rfl ⟨U,U⟩
   show wpAny _ _ (assign (.Name nm pos') X.env (.ref D)) _ _ s6
   refine thn sto fun _ s7 ⟨σ7,H7,I7,e7,e7'⟩=>?_
   subst e7 e7'
   have gC7:s7.heap.get? C=some oC:=(I7.pin (C,oC) (sJ _ (sJ _ (aX (sO.mpr rfl) gC)))).1
   refine⟨_,⟨oC,esC,epC,gC7,dC,rC⟩,fun h' hsb=>⟨σ.set ix (some (.ref D)),_,?_,qn⟩⟩
   refine(I7.unpinned).call' (s':={ s7 with heap:=h' }) (ch:=[C]) rfl ⟨fun b o e a1 a2 a3=>?_,fun b o e a1 a2 a3=>?_,fun _ _ _ n _=>n,fun b o e a3=>?_,fun _ _ q=>q,fun _ _ _ q=>q,fun _ ps q=>⟨#[],by rw[q]; simp⟩⟩ ?_ I7.bare (fun b hb=>?_)
   ·exact(hsb.2 b (fun z=>a3 (sO.mpr z))).trans e
   ·exact⟨o.slots,(hsb.2 b (fun z=>a3 (sO.mpr z))).trans e⟩
   ·exact⟨o,(hsb.2 b (fun z=>a3 (sO.mpr z))).trans e⟩
   ·intro b u e
    refine(I7.hok b u e).stay (fun c w' hcc q=>(hsb.2 c ?_).trans q) (fun _ q=>q) fun _ _ q=>q
    rintro rfl
    rcases hcc with z | z
    ·rw[z,e] at hC5; cases hC5
    ·rw[z] at hC5; cases hC5
   ·rw[sO.mp hb]
    exact⟨fpC.2.2.2.1,fpC.2.1,fpC.2.2.2.2.1,fpC.2.2.2.2.2⟩
  ·refine thn (T.item (blk X scope N' C s3 H3 fp pins) rfl rfl rfl hc i [] s5 _ H5 (fun _ _=>False) I5 (stat fr5) st5 go) fun r s6 ⟨u,hr,h6⟩=>?_
   subst hr
   refine thn h6 fun _ s7 ⟨x,H7,I7,r7,y7,st7,fr7⟩=>?_
   have I7':=I7.pinned (stat fr7) (T.obj _ _ st7)
   refine thn (hg C s3 H3 fp pins _ s7 _ H7 x u _ I7' r7 (step x H7 y7)) fun _ s8 ⟨σ8,H8,I8,d8,q8⟩=>?_
   refine thn (ht C s3 H3 fp pins _ s8 σ8 H8 _ I8 q8) fun b s9 ⟨H9,I9,q9⟩=>?_
   have kz:∀ (j:Nat) v,(List.replicate k none++σ)[j]?=some (some v)->σ8[j]?=some (some v):=fun j v e=>by
    have hik:¬ j<k:=fun hlt=>by
     rw[tm (by rw[sQ]; exact hlt),List.getElem?_replicate] at e
     split at e <;> cases e
    rw[tf (by rw[sQ]; omega),sQ,<- d8,List.getElem?_drop] at e
    have:k+(j - k)=j:=by omega
    rw[this] at e; exact e
   have again:∀ {Hz:Hp}{sz:Shared}{zs:List V}{m':Nat},Inv (blk X scope N' C s3 H3 fp pins) ([]++dg fp s7.heap) σ8 Hz sz->m'<n->W (i+1) m' zs Hz ->
     ∃ m,m<n/\∃ i ys H',Inv (blk X scope N' C s3 H3 fp pins) [] (List.replicate k none++σ) H' sz/\tn i sz.heap/\(∀ b ∈ fp,H' b=none)/\W i m ys H':=fun {Hz sz zs m'} Iz hm wz=>by
    refine⟨m',hm,i+1,zs,Hz,(Iz.unpinned).weak ?_ kz,T.keep _ _ _ st7 fun b hb o e=>(Iz.pin (b,o) (sJ _ (sJ _ (aX hb e)))).1,fun b hb=>?_,wz⟩
    ·rw[Iz.len]; exact I5.len
    ·obtain⟨o,e,d⟩:=T.obj _ _ st7 b hb
     exact(Iz.pin (b,o) (sJ _ (sJ _ (aX hb e)))).2.1
   cases b with
   | false=>
    obtain⟨m',hm,w9⟩:=(show ∃ m',m'<n/\W (i+1) m' ys H9 by simpa using q9)
    rw[if_neg Bool.false_ne_true]
    exact again I9 hm w9
   | true=>
    rw[if_pos rfl] at q9 ⊢
    refine thn (he C s3 H3 fp pins _ s9 σ8 H9 _ I9 q9) fun u9 s10 ⟨y,H10,I10,r10,hz,hD10,m',hm,w10⟩=>?_
    refine thn (aR (X:=blk X scope N' C s3 H3 fp pins) _ s10 σ8 H10 (.ref D) [y] (.ref D) [u9] (fun _ H'=>H'=upd H10 D (.lst (ys++[y]))) I10 rfl (.cons r10 .nil) ⟨D,ys,y,U,U,hD10,hz,U⟩) fun _ s11 ⟨_,H11,I11,_,e11⟩=>?_
    subst e11
    exact again I11 hm w10
 exact codeAny_compStart_list loop (T.self _ 0 _ _ _ st4 loop)
end
variable{Q:Value->Shared->Prop}
section
variable {prog:Program}{w:World}{A:Around}{E:Value->Shared->Prop}{s:Shared}
theorem bH {it l:Addr}{i:Nat}{items:Array Value}{x:Value} (h1:s.heap.IsTupleIter it l i) (h2:s.heap.IsTuple l items) (h3:items[i]?=some x)
  (h:∀ h',h'.IsTupleIter it l (i+1)->Heap.SameBut it s.heap h'->Q x { s with heap:=h' }):wpAny (model prog w) A (Builtin.SmallTypes.nextOf (.ref it)) Q E s:=by
 obtain⟨o,e,c,d⟩:=h1
 obtain⟨ol,el,cl,n,dl⟩:=h2
 unfold Builtin.SmallTypes.nextOf
 refine wpAny_bind (wpAny_callSpecial?_slot (T := "tuple_iterator") ⟨o,e,c⟩ F.slot_tuple_iterator_next (wpAny_call_entry F.slot_tuple_iterator_next ⟨o,e,c⟩ F.entry_tuple_iterator_next ?_ (F.args_tuple_iterator_next_1 _)))
 unfold Builtin.«tuple_iterator.__next__»
 refine wpAny_bind (wpAny_of_eq (a:=(Value.ref it,[])) rfl ?_)
 refine wpAny_bind (wpAny_field (x:=.ref l) e d rfl ?_)
 rw[if_neg (show ¬ ((Value.ref l == Value.none)=true) from by simp)]
 refine wpAny_bind (wpAny_field (x:=.int (i:Int) 0) e d rfl ?_)
 refine wpAny_bind (wpAny_seqItems el dl ?_)
 dsimp only
 rw[Int.toNat_natCast,h3]
 refine wpAny_bind (wpAny_setField e d (by simp) ?_)
 refine wpAny_pure ⟨x,U,wpAny_pure (h _ ⟨_,Heap.get?_update_self _ e (Obj.isFreed_of_fields (Obj.data_mapFields d _)),(Obj.cls_mapFields _ _).trans c,Obj.data_mapFields d _⟩ (Heap.SameBut.update _ _ _))⟩
theorem cL {it l:Addr}{i:Nat}{items:Array Value} (hh:A.handled=none) (h1:s.heap.IsTupleIter it l i) (h2:s.heap.IsTuple l items) (h3:items[i]?=none)
  (h:∀ h' e,Heap.ExtBut it s.heap h'->(∃ o,h'.get? e=some o/\o.cls=.type "StopIteration")->E (.ref e) { s with heap:=h' }):wpAny (model prog w) A (Builtin.SmallTypes.nextOf (.ref it)) Q E s:=by
 obtain⟨o,e,c,d⟩:=h1
 obtain⟨ol,el,cl,n,dl⟩:=h2
 unfold Builtin.SmallTypes.nextOf
 refine wpAny_bind (wpAny_callSpecial?_slot (T := "tuple_iterator") ⟨o,e,c⟩ F.slot_tuple_iterator_next (wpAny_call_entry F.slot_tuple_iterator_next ⟨o,e,c⟩ F.entry_tuple_iterator_next ?_ (F.args_tuple_iterator_next_1 _)))
 unfold Builtin.«tuple_iterator.__next__»
 refine wpAny_bind (wpAny_of_eq (a:=(Value.ref it,[])) rfl ?_)
 refine wpAny_bind (wpAny_field (x:=.ref l) e d rfl ?_)
 rw[if_neg (show ¬ ((Value.ref l == Value.none)=true) from by simp)]
 refine wpAny_bind (wpAny_field (x:=.int (i:Int) 0) e d rfl ?_)
 refine wpAny_bind (wpAny_seqItems el dl ?_)
 dsimp only
 rw[Int.toNat_natCast,h3]
 refine wpAny_bind (wpAny_rule ?_)
 refine wpAny_bind (wpAny_setField e d (by simp) ?_)
 unfold Builtin.SmallTypes.stopIteration
 refine wpAny_bind ?_
 unfold newExc
 refine wpAny_bind (wpAny_newTuple ?_ (by simp))
 refine wpAny_bind (wpAny_bind (wpAny_pure (wpAny_pure ?_)))
 refine wpAny_newObj_type ?_ (sizeOk_excFields _ _ _ _ _ _ _ _)
 unfold raiseNew
 refine wpAny_bind (wpAny_handled ?_)
 rw[show A.in1.handled=none from hh]
 refine wpAny_throw (h _ _ (fun b o hb eb=>?_) ⟨_,Heap.get?_push_size _ rfl,U⟩)
 exact Heap.get?_push_of_some _ (Heap.get?_push_of_some _ (((Heap.SameBut.update s.heap it _).2 b hb).trans eb))
theorem dO {h h':Heap}{a l:Addr}{xs:Array Value} (p:h.IsTuple l xs) (sb:Heap.SameBut a h h') (ne:l≠a):h'.IsTuple l xs:=by
 obtain⟨o,e,r⟩:=p
 exact⟨o,(sb.2 l ne).trans e,r⟩
theorem fA {z TI TO i1 i2 l1 l2:Addr}{k1 k2:Nat}{xs ys:Array Value}{x y a b:Value} (D:ZipApart z TI TO i1 i2 l1 l2) (hz:IsZip s.heap z TI TO .none) (hTI:IsPair s.heap TI (.ref i1) (.ref i2)) (hTO:IsPair s.heap TO a b)
  (h1:s.heap.IsTupleIter i1 l1 k1) (h2:s.heap.IsTupleIter i2 l2 k2) (p1:s.heap.IsTuple l1 xs) (p2:s.heap.IsTuple l2 ys) (hx:xs[k1]?=some x) (hy:ys[k2]?=some y)
  (h:∀ h',IsZip h' z TI TO (rawInt s.heap.objs.size)->IsPair h' TO x y->h'.IsTupleIter i1 l1 (k1+1)->h'.IsTupleIter i2 l2 (k2+1)->IsPair h' s.heap.objs.size x y->h'.objs.size=s.heap.objs.size+1 ->
   (∀ c o,c≠z->c≠TO->c≠i1->c≠i2->s.heap.get? c=some o->h'.get? c=some o)->Q (.ref s.heap.objs.size) { s with heap:=h' }) :
  wpAny (model prog w) A (Builtin.«zip.__next__» { pos:=[.ref z] }) (fun fin s'=>∃ v,fin=Fin.done (.ret v)/\Q v s') E s:=by
 unfold Builtin.«zip.__next__»
 refine wpAny_bind (wpAny_of_eq (a:=(Value.ref z,[])) rfl ?_)
 dsimp only
 refine wpAny_bind (wpAny_field (x:=.bool false) hz rfl rfl ?_)
 refine wpAny_bind (wpAny_field (x:=.ref TI) hz rfl rfl ?_)
 refine wpAny_bind (wpAny_seqItems hTI rfl ?_)
 dsimp only
 rw[if_neg (by simp)]
 refine wpAny_bind ?_
 unfold Builtin.SmallTypes.ownedTupleIsFree
 refine wpAny_bind (wpAny_field (x:=.none) hz rfl rfl (wpAny_pure ?_))
 rw[if_pos rfl]
 refine wpAny_bind (wpAny_rule ?_)
 refine wpAny_bind (wpAny_field (x:=.ref TO) hz rfl rfl ?_)
 refine wpAny_bind (wpAny_setField_rec hz (by simp) fun h₁ hz₁ hs₁=>?_)
 refine wpAny_bind ?_
 show wpAny _ _ (forIn [(Value.ref i1,0),(Value.ref i2,1)] (none,()) _) _ _ _
 rw[List.forIn_cons]
 refine wpAny_bind ?_
 refine wpAny_bind (wpAny_onRaise ?_)
 have ne1:(Value.bool false == Value.bool true)=true->False:=by decide
 refine wpAny_bind (bH (h1.extBut hs₁.extBut D.i1z) (dO p1 hs₁ D.l1z) hx fun h₂ g1 sb2=>?_)
 refine wpAny_pure ?_
 have hTO2:IsPair h₂ TO a b:=(sb2.2 _ D.TOi1).trans ((hs₁.2 _ D.TOz).trans hTO)
 refine wpAny_bind (wpAny_seqItems hTO2 rfl ?_)
 refine wpAny_bind (wpAny_updateSeq_pair hTO2 fun h₃ e3 sb3=>?_)
 refine wpAny_bind (wpAny_letGo ?_)
 refine wpAny_pure ?_
 dsimp only
 have hTO3:IsPair h₃ TO x b:=e3
 rw[List.forIn_cons]
 refine wpAny_bind ?_
 refine wpAny_bind (wpAny_onRaise ?_)
 have h2b:h₃.IsTupleIter i2 l2 k2:=((h2.extBut hs₁.extBut D.i2z).extBut sb2.extBut D.i12.symm).extBut sb3.extBut D.TOi2.symm
 refine wpAny_bind (bH h2b (dO (dO (dO p2 hs₁ D.l2z) sb2 D.l2i1) sb3 D.l2TO) hy fun h₄ g2 sb4=>?_)
 refine wpAny_pure ?_
 have hTO4:IsPair h₄ TO x b:=(sb4.2 _ D.TOi2).trans hTO3
 refine wpAny_bind (wpAny_seqItems hTO4 rfl ?_)
 refine wpAny_bind (wpAny_updateSeq_pair hTO4 fun h₅ e5 sb5=>?_)
 refine wpAny_bind (wpAny_letGo ?_)
 refine wpAny_pure ?_
 dsimp only
 have hTO5:IsPair h₅ TO x y:=e5
 rw[List.forIn_nil]
 refine wpAny_pure ?_
 dsimp only
 refine wpAny_bind (wpAny_seqItems hTO5 rfl ?_)
 dsimp only
 refine wpAny_bind (wpAny_newTuple ?_ (by simp[sizeLine_eq]))
 have sz:h₅.objs.size=s.heap.objs.size:=sb5.1.trans (sb4.1.trans (sb3.1.trans (sb2.1.trans hs₁.1)))
 have hz5:h₅.get? z=some { cls:=.type "zip",data:=.fields #[Value.ellipsis,.bool false,.bool false,.ref TI,.ref TO] } :=
  (sb5.2 _ D.TOz.symm).trans ((sb4.2 _ D.i2z.symm).trans ((sb3.2 _ D.TOz.symm).trans ((sb2.2 _ D.i1z.symm).trans hz₁)))
 have hz6:(h₅.push { cls:=.type "tuple",data:=.seq #[x,y] }).get? z=some { cls:=.type "zip",data:=.fields #[Value.ellipsis,.bool false,.bool false,.ref TI,.ref TO] }:=Heap.get?_push_of_some _ hz5
 unfold Builtin.SmallTypes.ownedTupleHandOut
 refine wpAny_bind (wpAny_bind (wpAny_setField_rec hz6 (by simp) fun h₇ e7 sb7=>?_))
 refine wpAny_setField_rec (k:=1) e7 (by simp) fun h₈ e8 sb8=>?_
 refine wpAny_pure ⟨_,U,?_⟩
 have szz:z<s.heap.objs.size:=Heap.lt_size hz
 have nz:s.heap.objs.size≠z:=Nat.ne_of_gt szz
 have pz:∀ c,c≠z->h₈.get? c=(h₅.push { cls:=.type "tuple",data:=.seq #[x,y] }).get? c:=fun c hc=>(sb8.2 c hc).trans (sb7.2 c hc)
 have old:∀ c o,c≠z->h₅.get? c=some o->h₈.get? c=some o:=fun c o hc e=>(pz c hc).trans (Heap.get?_push_of_some _ e)
 rw[show({ s with heap:=h₅ }:Shared).heap.objs.size=s.heap.objs.size from sz] at e8 ⊢
 refine h h₈ ?_ (old _ _ D.TOz hTO5) ?_ ?_ ?_ ?_ ?_
 ·exact e8
 ·exact(g1.at fun o e=>old _ _ D.i1z ((sb5.2 _ D.TOi1.symm).trans ((sb4.2 _ D.i12).trans ((sb3.2 _ D.TOi1.symm).trans e))))
 ·exact(g2.at fun o e=>old _ _ D.i2z ((sb5.2 _ D.TOi2.symm).trans e))
 ·have e9:(h₅.push { cls:=.type "tuple",data:=.seq #[x,y] }).get? h₅.objs.size=some { cls:=.type "tuple",data:=.seq #[x,y] }:=Heap.get?_push_size _ rfl
  have sz':h₅.objs.size=s.heap.objs.size:=sz
  rw[sz'] at e9
  exact(pz _ nz).trans e9
 ·rw[sb8.1,sb7.1,Heap.size_push]
  exact congrArg (· + 1) (show h₅.objs.size=s.heap.objs.size from sz)
 ·intro c o c1 c2 c3 c4 e
  exact old c o c1 ((sb5.2 c c2).trans ((sb4.2 c c4).trans ((sb3.2 c c2).trans ((sb2.2 c c3).trans ((hs₁.2 c c1).trans e)))))
theorem eg {z TI TO i1 i2 l1 l2:Addr}{k1 k2:Nat}{xs ys:Array Value}{x y a b:Value}{Q:Option Value->Shared->Prop} (D:ZipApart z TI TO i1 i2 l1 l2) (hz:IsZip s.heap z TI TO .none) (hTI:IsPair s.heap TI (.ref i1) (.ref i2)) (hTO:IsPair s.heap TO a b)
  (h1:s.heap.IsTupleIter i1 l1 k1) (h2:s.heap.IsTupleIter i2 l2 k2) (p1:s.heap.IsTuple l1 xs) (p2:s.heap.IsTuple l2 ys) (hx:xs[k1]?=some x) (hy:ys[k2]?=some y)
  (h:∀ h',IsZip h' z TI TO (rawInt s.heap.objs.size)->IsPair h' TO x y->h'.IsTupleIter i1 l1 (k1+1)->h'.IsTupleIter i2 l2 (k2+1)->IsPair h' s.heap.objs.size x y->h'.objs.size=s.heap.objs.size+1 ->
   (∀ c o,c≠z->c≠TO->c≠i1->c≠i2->s.heap.get? c=some o->h'.get? c=some o)->Q (some (.ref s.heap.objs.size)) { s with heap:=h' }) :
  wpAny (model prog w) A (pyNext (.ref z)) Q E s:=by
 have tz:Shared.TypeIs s (.ref z) "zip":=⟨_,hz,U⟩
 unfold pyNext
 refine wpAny_bind (wpAny_attempt (wpAny_callSpecial?_slot tz F.slot_zip_next (wpAny_call_entry F.slot_zip_next tz F.entry_zip_next ?_ (F.args_zip_next_1 _))))
 refine fA D hz hTI hTO h1 h2 p1 p2 hx hy fun h' a1 a2 a3 a4 a5 a6 a7=>?_
 exact wpAny_pure (h h' a1 a2 a3 a4 a5 a6 a7)
theorem gB {z TI TO i1 i2 l1 l2:Addr}{k1 k2:Nat}{xs ys:Array Value}{a b:Value}{Q:PySem.Fin->Shared->Prop} (hh:A.handled=none) (D:ZipApart z TI TO i1 i2 l1 l2) (hz:IsZip s.heap z TI TO .none) (hTI:IsPair s.heap TI (.ref i1) (.ref i2)) (hTO:IsPair s.heap TO a b)
  (h1:s.heap.IsTupleIter i1 l1 k1) (h2:s.heap.IsTupleIter i2 l2 k2) (p1:s.heap.IsTuple l1 xs) (p2:s.heap.IsTuple l2 ys) (hxy:xs[k1]?=none∨ys[k2]?=none)
  (h:∀ h' e,(∀ c o,c≠z->c≠TO->c≠i1->c≠i2->s.heap.get? c=some o->h'.get? c=some o)->(∃ o,h'.get? e=some o/\o.cls=.type "StopIteration")->E (.ref e) { s with heap:=h' }) :
  wpAny (model prog w) A (Builtin.«zip.__next__» { pos:=[.ref z] }) Q E s:=by
 unfold Builtin.«zip.__next__»
 refine wpAny_bind (wpAny_of_eq (a:=(Value.ref z,[])) rfl ?_)
 dsimp only
 refine wpAny_bind (wpAny_field (x:=.bool false) hz rfl rfl ?_)
 refine wpAny_bind (wpAny_field (x:=.ref TI) hz rfl rfl ?_)
 refine wpAny_bind (wpAny_seqItems hTI rfl ?_)
 dsimp only
 rw[if_neg (by simp)]
 refine wpAny_bind ?_
 unfold Builtin.SmallTypes.ownedTupleIsFree
 refine wpAny_bind (wpAny_field (x:=.none) hz rfl rfl (wpAny_pure ?_))
 rw[if_pos rfl]
 refine wpAny_bind (wpAny_rule ?_)
 refine wpAny_bind (wpAny_field (x:=.ref TO) hz rfl rfl ?_)
 refine wpAny_bind (wpAny_setField_rec hz (by simp) fun h₁ hz₁ hs₁=>?_)
 refine wpAny_bind ?_
 show wpAny _ _ (forIn [(Value.ref i1,0),(Value.ref i2,1)] (none,()) _) _ _ _
 rw[List.forIn_cons]
 refine wpAny_bind ?_
 refine wpAny_bind (wpAny_onRaise ?_)
 have fin:∀ (g g':Heap) (e:Addr) (f0:Value),Heap.get? g z=some { cls:=.type "zip",data:=.fields #[f0,.bool false,.bool false,.ref TI,.ref TO] }->(∀ c o,c≠z->c≠TO->c≠i1->c≠i2->s.heap.get? c=some o->g.get? c=some o)->(∃ o,g.get? e=some o/\o.cls=.type "StopIteration") ->
   wpAny (model prog w) A (setField (.ref z) 0 .none) (fun _ s''=>E (.ref e) s'') E { s with heap:=g }:=fun g g' e f0 ez kk he=>by
  refine wpAny_setField_rec ez (by simp) fun g2 e2 sb2=>h g2 e (fun c o c1 c2 c3 c4 eo=>(sb2.2 c c1).trans (kk c o c1 c2 c3 c4 eo)) ?_
  obtain⟨o,eo,ec⟩:=he
  exact⟨o,(sb2.2 e (fun z'=>by rw[z',ez] at eo; cases eo; exact absurd (show Value.type "zip" = Value.type "StopIteration" from ec) (by decide +kernel))).trans eo,ec⟩
 cases hx:xs[k1]? with
 | none=>
  refine wpAny_bind (cL hh (h1.extBut hs₁.extBut D.i1z) (dO p1 hs₁ D.l1z) hx fun h₂ e sb2 he=>?_)
  exact fin h₂ h₂ e _ (sb2 _ _ D.i1z.symm hz₁) (fun c o c1 c2 c3 c4 eo=>sb2 _ _ c3 ((hs₁.2 c c1).trans eo)) he
 | some x=>
  have hy:ys[k2]?=none:=hxy.resolve_left (fun q=>by rw[hx] at q; cases q)
  refine wpAny_bind (bH (h1.extBut hs₁.extBut D.i1z) (dO p1 hs₁ D.l1z) hx fun h₂ g1 sb2=>?_)
  refine wpAny_pure ?_
  have hTO2:IsPair h₂ TO a b:=(sb2.2 _ D.TOi1).trans ((hs₁.2 _ D.TOz).trans hTO)
  refine wpAny_bind (wpAny_seqItems hTO2 rfl ?_)
  refine wpAny_bind (wpAny_updateSeq_pair hTO2 fun h₃ e3 sb3=>?_)
  refine wpAny_bind (wpAny_letGo ?_)
  refine wpAny_pure ?_
  dsimp only
  rw[List.forIn_cons]
  refine wpAny_bind ?_
  refine wpAny_bind (wpAny_onRaise ?_)
  have h2b:h₃.IsTupleIter i2 l2 k2:=((h2.extBut hs₁.extBut D.i2z).extBut sb2.extBut D.i12.symm).extBut sb3.extBut D.TOi2.symm
  refine wpAny_bind (cL hh h2b (dO (dO (dO p2 hs₁ D.l2z) sb2 D.l2i1) sb3 D.l2TO) hy fun h₄ e sb4 he=>?_)
  refine fin h₄ h₄ e _ (sb4 _ _ D.i2z.symm ((sb3.2 _ D.TOz.symm).trans ((sb2.2 _ D.i1z.symm).trans hz₁))) (fun c o c1 c2 c3 c4 eo=>sb4 _ _ c4 ((sb3.2 c c2).trans ((sb2.2 c c3).trans ((hs₁.2 c c1).trans eo)))) he
theorem ff {z TI TO i1 i2 l1 l2:Addr}{k1 k2:Nat}{xs ys:Array Value}{a b:Value}{Q:Option Value->Shared->Prop} (hh:A.handled=none) (D:ZipApart z TI TO i1 i2 l1 l2) (hz:IsZip s.heap z TI TO .none) (hTI:IsPair s.heap TI (.ref i1) (.ref i2)) (hTO:IsPair s.heap TO a b)
  (h1:s.heap.IsTupleIter i1 l1 k1) (h2:s.heap.IsTupleIter i2 l2 k2) (p1:s.heap.IsTuple l1 xs) (p2:s.heap.IsTuple l2 ys) (hxy:xs[k1]?=none∨ys[k2]?=none)
  (h:∀ h',(∀ c o,c≠z->c≠TO->c≠i1->c≠i2->s.heap.get? c=some o->h'.get? c=some o)->Q none { s with heap:=h' }) :
  wpAny (model prog w) A (pyNext (.ref z)) Q E s:=by
 have tz:Shared.TypeIs s (.ref z) "zip":=⟨_,hz,U⟩
 unfold pyNext
 refine wpAny_bind (wpAny_attempt (wpAny_callSpecial?_slot tz F.slot_zip_next (wpAny_call_entry F.slot_zip_next tz F.entry_zip_next ?_ (F.args_zip_next_1 _))))
 refine gB hh D hz hTI hTO h1 h2 p1 p2 hxy fun h' e kk he=>?_
 obtain⟨o,eo,ec⟩:=he
 refine wpAny_bind (wpAny_isInstance (T := "StopIteration") ⟨o,eo,ec⟩ isSubtype_stop ?_)
 rw[if_pos rfl]
 exact wpAny_pure (h h' kk)
theorem lU {l1 l2:Addr}{xs ys:Array Value} (p1:s.heap.IsTuple l1 xs) (p2:s.heap.IsTuple l2 ys)
  (h:∀ h',IsZip h' (s.heap.objs.size+4) (s.heap.objs.size+2) (s.heap.objs.size+3) .none->IsPair h' (s.heap.objs.size+2) (.ref s.heap.objs.size) (.ref (s.heap.objs.size+1))->IsPair h' (s.heap.objs.size+3) .none .none ->
   h'.IsTupleIter s.heap.objs.size l1 0->h'.IsTupleIter (s.heap.objs.size+1) l2 0->h'.objs.size=s.heap.objs.size+5->(∀ c o,s.heap.get? c=some o->h'.get? c=some o)->Q (.ref (s.heap.objs.size+4)) { s with heap:=h' }) :
  wpAny (model prog w) A (call (.type "zip") [.ref l1,.ref l2]) Q E s:=by
 have hM:Meets (Builtin.«zip.__new__» { pos:=[.type "zip",.ref l1,.ref l2] }) (fun _ R s=>s.heap.IsTuple l1 xs/\s.heap.IsTuple l2 ys /\
   ∀ h',IsZip h' (s.heap.objs.size+4) (s.heap.objs.size+2) (s.heap.objs.size+3) .none->IsPair h' (s.heap.objs.size+2) (.ref s.heap.objs.size) (.ref (s.heap.objs.size+1))->IsPair h' (s.heap.objs.size+3) .none .none ->
   h'.IsTupleIter s.heap.objs.size l1 0->h'.IsTupleIter (s.heap.objs.size+1) l2 0->h'.objs.size=s.heap.objs.size+5->(∀ c o,s.heap.get? c=some o->h'.get? c=some o)->R (.ok (.ret (.ref (s.heap.objs.size+4)))) { s with heap:=h' }) :=
  .of_wp fun prog w A R s ⟨q1,q2,hq⟩=>by
   unfold Builtin.«zip.__new__»
   refine wpAny_bind ?_
   unfold Builtin.SmallTypes.newClass
   refine wpAny_bind (wpAny_of_eq (a:=true) rfl ?_)
   rw[if_neg (by decide)]
   refine wpAny_bind (wpAny_of_eq (a:=true) sub_zip ?_)
   rw[if_neg (by decide)]
   refine wpAny_pure ?_
   dsimp only
   rw[if_neg (by decide)]
   refine wpAny_bind ?_
   unfold Builtin.SmallTypes.iterAll
   refine wpAny_bind ?_
   rw[List.forIn_cons]
   refine wpAny_bind (wpAny_bind (wpAny_holding (wpAny_pyIter_tuple q1 (wpAny_pure ?_))))
   dsimp only
   rw[List.forIn_cons]
   have q2':(s.heap.push { cls:=.type "tuple_iterator",data:=.fields #[.ref l1,.int 0 0] }).IsTuple l2 ys:=by
    obtain⟨o,e,r⟩:=q2
    exact⟨o,Heap.get?_push_of_some _ e,r⟩
   refine wpAny_bind (wpAny_bind (wpAny_holding (wpAny_pyIter_tuple q2' (wpAny_pure ?_))))
   dsimp only
   rw[List.forIn_nil]
   refine wpAny_pure (wpAny_pure ?_)
   refine wpAny_bind (wpAny_newTuple ?_ (by simp[sizeLine_eq]))
   refine wpAny_bind (wpAny_newTuple ?_ (by simp[sizeLine_eq]))
   refine wpAny_bind ?_
   unfold Builtin.SmallTypes.newRecord
   refine wpAny_newObj_type ?_ (by simp[PySem.sizeOk,Builtin.SmallTypes.ownedTupleFields,sizeLine_eq])
   refine wpAny_pure ⟨_,U,?_⟩
   have n1:(s.heap.push { cls:=.type "tuple_iterator",data:=.fields #[.ref l1,.int 0 0] }).objs.size=s.heap.objs.size+1:=Heap.size_push _ _
   have n2:((s.heap.push { cls:=.type "tuple_iterator",data:=.fields #[.ref l1,.int 0 0] }).push { cls:=.type "tuple_iterator",data:=.fields #[.ref l2,.int 0 0] }).objs.size=s.heap.objs.size+2:=by rw[Heap.size_push,n1]
   generalize hg1:s.heap.push { cls:=.type "tuple_iterator",data:=.fields #[.ref l1,.int 0 0] }=g1 at *
   generalize hg2:g1.push { cls:=.type "tuple_iterator",data:=.fields #[.ref l2,.int 0 0] }=g2 at *
   show R (.ok (.ret (.ref ((g2.push { cls:=.type "tuple",data:=.seq #[.ref s.heap.objs.size,.ref g1.objs.size] }).push { cls:=.type "tuple",data:=.seq #[.none,.none] }).objs.size))) { s with heap:=((g2.push { cls:=.type "tuple",data:=.seq #[.ref s.heap.objs.size,.ref g1.objs.size] }).push { cls:=.type "tuple",data:=.seq #[.none,.none] }).push { cls:=.type "zip",data:=.fields #[.none,.bool false,.bool false,.ref g2.objs.size,.ref (g2.push { cls:=.type "tuple",data:=.seq #[.ref s.heap.objs.size,.ref g1.objs.size] }).objs.size] } }
   have n3:(g2.push { cls:=.type "tuple",data:=.seq #[.ref s.heap.objs.size,.ref g1.objs.size] }).objs.size=s.heap.objs.size+3:=by rw[Heap.size_push,n2]
   have i1:g1.get? s.heap.objs.size=some { cls:=.type "tuple_iterator",data:=.fields #[.ref l1,.int 0 0] }:=by rw[<- hg1]; exact Heap.get?_push_size _ rfl
   have i2:g2.get? (s.heap.objs.size+1)=some { cls:=.type "tuple_iterator",data:=.fields #[.ref l2,.int 0 0] }:=by rw[<- hg2,<- n1]; exact Heap.get?_push_size _ rfl
   have i1':g2.get? s.heap.objs.size=some { cls:=.type "tuple_iterator",data:=.fields #[.ref l1,.int 0 0] }:=by rw[<- hg2]; exact Heap.get?_push_of_some _ i1
   have k2:∀ c o,s.heap.get? c=some o->g2.get? c=some o:=fun c o e=>by rw[<- hg2,<- hg1]; exact Heap.get?_push_of_some _ (Heap.get?_push_of_some _ e)
   rw[n1]
   rw[n1] at n3
   generalize hg3:g2.push { cls:=.type "tuple",data:=.seq #[.ref s.heap.objs.size,.ref (s.heap.objs.size+1)] }=g3 at *
   have i3:g3.get? (s.heap.objs.size+2)=some { cls:=.type "tuple",data:=.seq #[.ref s.heap.objs.size,.ref (s.heap.objs.size+1)] }:=by rw[<- hg3,<- n2]; exact Heap.get?_push_size _ rfl
   have k3:∀ c o,g2.get? c=some o->g3.get? c=some o:=fun c o e=>by rw[<- hg3]; exact Heap.get?_push_of_some _ e
   have n4:(g3.push { cls:=.type "tuple",data:=.seq #[.none,.none] }).objs.size=s.heap.objs.size+4:=by rw[Heap.size_push,n3]
   generalize hg4:g3.push { cls:=.type "tuple",data:=.seq #[.none,.none] }=g4 at *
   have i4:g4.get? (s.heap.objs.size+3)=some { cls:=.type "tuple",data:=.seq #[.none,.none] }:=by rw[<- hg4,<- n3]; exact Heap.get?_push_size _ rfl
   have k4:∀ c o,g3.get? c=some o->g4.get? c=some o:=fun c o e=>by rw[<- hg4]; exact Heap.get?_push_of_some _ e
   rw[n2,n3,n4]
   have k5:∀ c o,g4.get? c=some o->(g4.push { cls:=.type "zip",data:=.fields #[.none,.bool false,.bool false,.ref (s.heap.objs.size+2),.ref (s.heap.objs.size+3)] }).get? c=some o:=fun c o e=>Heap.get?_push_of_some _ e
   refine hq _ ?_ (k5 _ _ (k4 _ _ i3)) (k5 _ _ i4) ⟨_,k5 _ _ (k4 _ _ (k3 _ _ i1')),U,U⟩ ⟨_,k5 _ _ (k4 _ _ (k3 _ _ i2)),U,U⟩ ?_ (fun c o e=>k5 _ _ (k4 _ _ (k3 _ _ (k2 _ _ e))))
   ·show Heap.get? _ (s.heap.objs.size+4)=_
    rw[<- n4]; exact Heap.get?_push_size _ rfl
   ·rw[Heap.size_push,n4]
 refine callType_new F.called_zip (by decide) (F.typeCall_zip_2 _ _) (F.newCall_zip_2 _ _) (fun obj=>F.args_object_init_3 _ _ _) F.entry_zip_new hM ⟨p1,p2,fun h' a1 a2 a3 a4 a5 a6 a7=>?_⟩
 exact⟨⟨_,a1,U⟩,h h' a1 a2 a3 a4 a5 a6 a7⟩
end
theorem ky {X:Cx}{pins:List (Addr×Obj)}{σ:St}{H:Hp}{s:Shared}{a b:Addr}{xs:List V} (I:Inv X pins σ H s) (f:cJ X pins H b) (q:SqT X.K H a xs):a≠b:=fun e=>by
 subst e
 rcases q with (q | ⟨o,q⟩) | ⟨o,its,n,hk,_⟩
 ·rw[f.1] at q; cases q
 ·rw[f.1] at q; cases q
 ·have hb:=I.ok.mod.kin a o hk
  rcases f.2.2.2.1 with hx | hx
  ·exact I.ok.noex a o hb hx
  ·exact absurd (Nat.lt_of_lt_of_le (Heap.lt_size hb) (Nat.le_trans I.ok.bsz hx)) (Nat.lt_irrefl _)
noncomputable def oj (K:PySem.W.Frag) (a b:Addr):It :=
 ⟨fun i H=>∃ xs x ys y,SqT K H a xs/\xs[i]?=some x/\SqT K H b ys/\ys[i]?=some y,
  fun i H v H'=>∃ p x y,v=.ref p/\H p=none/\H'=upd H p (.tup [x,y])/\(∀ xs,SqT K H a xs->xs[i]?=some x)/\∀ ys,SqT K H b ys->ys[i]?=some y,
  fun i H=>∃ xs ys,SqT K H a xs/\SqT K H b ys/\(xs.length<=i∨ys.length<=i)⟩
variable{K:PySem.W.Frag}
theorem k8 {P:Program}{w:World}{es:List Expr} {x1} {pos:Pos} (a b z TI TO i1 i2:Addr):Turn P w K (.Tuple es x1 pos) (oj K a b) [z,TI,TO,i1,i2] z
  (fun i h=>IsZip h z TI TO .none/\IsPair h TI (.ref i1) (.ref i2)/\(∃ u v,IsPair h TO u v)/\h.IsTupleIter i1 a i/\h.IsTupleIter i2 b i/\TI≠TO/\i1≠i2) where
 mem:=by simp
 obj:=fun i h ⟨hz,hTI,⟨u,v,hTO⟩,h1,h2,_⟩ c hc=>by
  simp only[sR,tw,or_false] at hc
  rcases hc with rfl | rfl | rfl | rfl | rfl
  ·exact⟨_,hz,fun v q=>by cases (show Data.fields _=Data.cell v from q)⟩
  ·exact⟨_,hTI,fun v q=>by cases (show Data.seq _ _=Data.cell v from q)⟩
  ·exact⟨_,hTO,fun v q=>by cases (show Data.seq _ _=Data.cell v from q)⟩
  ·obtain⟨o,e,_,d⟩:=h1
   exact⟨o,e,fun v q=>by rw[d] at q; cases q⟩
  ·obtain⟨o,e,_,d⟩:=h2
   exact⟨o,e,fun v q=>by rw[d] at q; cases q⟩
 keep:=fun i h h' ⟨hz,hTI,⟨u,v,hTO⟩,h1,h2,n1,n2⟩ k=>⟨k z (by simp) _ hz,k TI (by simp) _ hTI,⟨u,v,k TO (by simp) _ hTO⟩,h1.at fun o e=>k i1 (by simp) o e,h2.at fun o e=>k i2 (by simp) o e,n1,n2⟩
 item:=by
  intro X hP hw hK hc i pins s σ H E I hf ⟨hz,hTI,⟨u,v,hTO⟩,h1,h2,n1,n2⟩ hg
  subst hP hw hK
  obtain⟨xs,x,ys,y,hqa,hx,hqb,hy⟩:=hg
  obtain⟨its,rv,p,hsz⟩:=I.tuple hqa
  obtain⟨jts,rw',p',hsz'⟩:=I.tuple hqb
  obtain⟨ux,hux,rux⟩:=rv.get hx
  obtain⟨uy,huy,ruy⟩:=rw'.get hy
  have D:ZipApart z TI TO i1 i2 a b:=by
   obtain⟨oa,ea,ca,_,_⟩:=p
   obtain⟨ob,eb,cb,_,_⟩:=p'
   obtain⟨o1,e1,c1,_⟩:=h1
   obtain⟨o2,e2,c2,_⟩:=h2
   have dz:∀ {c:Addr}{o:Obj}{T:String},s.heap.get? c=some o->o.cls=.type T->T ≠ "zip" -> c≠z:=fun e q n r=>by
    rw[r,hz] at e; cases e; cases q; exact n rfl
   have dT:∀ {c d:Addr}{o q:Obj}{T U:String},s.heap.get? c=some o->o.cls=.type T->s.heap.get? d=some q->q.cls=.type U->T≠U->c≠d:=fun e1 c1 e2 c2 n r=>by
    subst r; rw[e1] at e2; cases e2; rw[c1] at c2; cases c2; exact n rfl
   exact⟨dz hTI rfl (by decide),dz hTO rfl (by decide),dz e1 c1 (by decide),dz e2 c2 (by decide),n1,dT hTI rfl e1 c1 (by decide),dT hTI rfl e2 c2 (by decide),dT hTO rfl e1 c1 (by decide),dT hTO rfl e2 c2 (by decide),n2,
    dz ea ca (by decide),ky I (hf TO (by simp)) hqa,dT ea ca e1 c1 (by decide),dT ea ca e2 c2 (by decide),dz eb cb (by decide),ky I (hf TO (by simp)) hqb,dT eb cb e1 c1 (by decide),dT eb cb e2 c2 (by decide)⟩
  refine eg D hz hTI hTO h1 h2 (show s.heap.IsTuple a its.toArray from p) (show s.heap.IsTuple b jts.toArray from p') (x:=ux) (y:=uy) (by simpa using hux) (by simpa using huy) fun h' a1 a2 a3 a4 a5 a6 hk=>?_
  refine⟨_,O,?_⟩
  refine wpAny_letOwnedTupleGo_zip (s:={ s with heap:=h' }) a1 fun h2' hz' hs'=>?_
  have lt:∀ b ∈ [z,TI,TO,i1,i2],b<s.heap.objs.size:=fun c hcm=>by
   simp only[sR,tw,or_false] at hcm
   rcases hcm with rfl | rfl | rfl | rfl | rfl
   ·exact Heap.lt_size hz
   ·exact Heap.lt_size hTI
   ·exact Heap.lt_size hTO
   ·obtain⟨o,e,_⟩:=h1; exact Heap.lt_size e
   ·obtain⟨o,e,_⟩:=h2; exact Heap.lt_size e
  have hTI2:IsPair h2' TI (.ref i1) (.ref i2):=hs'.extBut _ _ D.TIz (hk _ _ D.TIz D.TITO D.TIi1 D.TIi2 hTI)
  have hTO2:IsPair h2' TO ux uy:=hs'.extBut _ _ D.TOz a2
  have h12:h2'.IsTupleIter i1 a (i+1):=a3.extBut hs'.extBut D.i1z
  have h22:h2'.IsTupleIter i2 b (i+1):=a4.extBut hs'.extBut D.i2z
  have pz:s.heap.objs.size≠z:=Nat.ne_of_gt (Heap.lt_size hz)
  have hp2:IsPair h2' s.heap.objs.size ux uy:=hs'.extBut _ _ pz a5
  have kk:∀ c o,c ∉ [z,TI,TO,i1,i2]->s.heap.get? c=some o->h2'.get? c=some o:=fun c o hcm e=>by
   simp only[sR,tw,or_false,not_or] at hcm
   exact hs'.extBut _ _ hcm.1 (hk c o hcm.1 hcm.2.2.1 hcm.2.2.2.1 hcm.2.2.2.2 e)
  have I1:Inv X pins σ H { s with heap:=h2',toks:=s.toks }:=I.turnedL kk hf
  have fP:cJ X pins H s.heap.objs.size:=I.fpOk (Nat.le_refl _) (I.hok.fresh (Nat.le_refl _))
  have I2:Inv X pins σ (upd H s.heap.objs.size (.tup [x,y])) { s with heap:=h2',toks:=s.toks }:=by
   refine I1.track I.sz (fP.2.1) fP.2.2.2.2.1 fP.2.2.2.2.2 fP.1 ?_
   exact⟨(show 2<=sizeLine by decide),[ux,uy],.cons rux (.cons ruy .nil),⟨_,hp2,O,_,O⟩⟩
  refine⟨.ref s.heap.objs.size,_,I2,O,⟨_,x,y,O,fP.1,O,fun zs hzs=>by rw[I.tuple_inj hzs hqa]; exact hx,fun zs hzs=>by rw[I.tuple_inj hzs hqb]; exact hy⟩,⟨hz',hTI2,⟨_,_,hTO2⟩,h12,h22,n1,n2⟩,fun c hcm=>?_⟩
  rw[aw (Nat.ne_of_lt (lt c hcm))]
  exact(hf c hcm).1
 done:=by
  intro X hP hw hK hc i pins s σ H E I hf ⟨hz,hTI,⟨u,v,hTO⟩,h1,h2,n1,n2⟩ hg
  subst hP hw hK
  obtain⟨xs,ys,hqa,hqb,hend⟩:=hg
  obtain⟨its,rv,p,hsz⟩:=I.tuple hqa
  obtain⟨jts,rw',p',hsz'⟩:=I.tuple hqb
  have D:ZipApart z TI TO i1 i2 a b:=by
   obtain⟨oa,ea,ca,_,_⟩:=p
   obtain⟨ob,eb,cb,_,_⟩:=p'
   obtain⟨o1,e1,c1,_⟩:=h1
   obtain⟨o2,e2,c2,_⟩:=h2
   have dz:∀ {c:Addr}{o:Obj}{T:String},s.heap.get? c=some o->o.cls=.type T->T ≠ "zip" -> c≠z:=fun e q n r=>by
    rw[r,hz] at e; cases e; cases q; exact n rfl
   have dT:∀ {c d:Addr}{o q:Obj}{T U:String},s.heap.get? c=some o->o.cls=.type T->s.heap.get? d=some q->q.cls=.type U->T≠U->c≠d:=fun e1 c1 e2 c2 n r=>by
    subst r; rw[e1] at e2; cases e2; rw[c1] at c2; cases c2; exact n rfl
   exact⟨dz hTI rfl (by decide),dz hTO rfl (by decide),dz e1 c1 (by decide),dz e2 c2 (by decide),n1,dT hTI rfl e1 c1 (by decide),dT hTI rfl e2 c2 (by decide),dT hTO rfl e1 c1 (by decide),dT hTO rfl e2 c2 (by decide),n2,
    dz ea ca (by decide),ky I (hf TO (by simp)) hqa,dT ea ca e1 c1 (by decide),dT ea ca e2 c2 (by decide),dz eb cb (by decide),ky I (hf TO (by simp)) hqb,dT eb cb e1 c1 (by decide),dT eb cb e2 c2 (by decide)⟩
  have e1:=rv.length
  have e2:=rw'.length
  refine ff (I.ok.hd hc) D hz hTI hTO h1 h2 (show s.heap.IsTuple a its.toArray from p) (show s.heap.IsTuple b jts.toArray from p') (k1:=i) (k2:=i) (by
   rcases hend with h | h
   ·left; simp; omega
   ·right; simp; omega) fun h' hk=>⟨O,?_⟩
  exact I.turnedL (t':=s.toks) (fun c o hcm e=>by
   simp only[sR,tw,or_false,not_or] at hcm
   exact hk c o hcm.1 hcm.2.2.1 hcm.2.2.2.1 hcm.2.2.2.2 e) hf
 self:=fun _ _ _ _ _ st h=>wpAny_pyIter_zip st.1 h
section
variable {X:Cx}
noncomputable def iZipT (K:PySem.W.Frag) (ta:TA):TI:=fun σ H R=>ta σ H fun vs H1=>∃ a b,vs=[.ref a,.ref b]/\(∃ xs,SqT K H1 a xs)/\(∃ ys,SqT K H1 b ys)/\R (oj K a b) H1
theorem mO {es:List Expr} {x1} {tpos:Pos}{e1 e2:Expr}{ta:TA}{p pos:Pos} (hg:Gl X "zip") (hm:X.mg "zip" = none) (ha:PA X [e1,e2] ta) (hs:starEach [e1,e2] X.env=[(false,eval e1 X.env),(false,eval e2 X.env)]:=by rfl) (hs2:starEach [e2] X.env=[(false,eval e2 X.env)]:=by rfl) :
  PI X (.Tuple es x1 tpos) (.Call (.Name "zip" p) [e1,e2] [] pos) (iZipT X.K ta):=by
 intro pins s σ H R I h
 refine Call_ (dJ I hg hm (by rfl) (PyProof.Rows.callWith_type1 (thn (ha pos pins s σ H _ I h) fun us s1 ⟨vs,H1,I1,r1,q1⟩=>?_) (by rw[hs,hs2]) (by rw[hs2]; rfl)))
 obtain⟨a,b,rfl,⟨xs,hqa⟩,⟨ys,hqb⟩,q⟩:=q1
 obtain⟨u1,u2,rfl,ru1,ru2⟩:=gK r1
 cases (show u1=Value.ref a from ru1)
 cases (show u2=Value.ref b from ru2)
 obtain⟨its,rv,pa,hsz⟩:=I1.tuple hqa
 obtain⟨jts,rw',pb,hsz'⟩:=I1.tuple hqb
 refine lU (show s1.heap.IsTuple a its.toArray from pa) (show s1.heap.IsTuple b jts.toArray from pb) fun h' hz hTI hTO h1 h2 hsize hk=>?_
 refine wpAny_pyIter_zip (s:={ s1 with heap:=h' }) hz ?_
 refine⟨_,_,_,_,H1,U,I1.kept (t':=s1.toks) hk,k8 a b (s1.heap.objs.size+4) (s1.heap.objs.size+2) (s1.heap.objs.size+3) s1.heap.objs.size (s1.heap.objs.size+1),⟨hz,hTI,⟨_,_,hTO⟩,h1,h2,(fun z=>by have:s1.heap.objs.size+2=s1.heap.objs.size+3:=z; omega),(fun z=>by have:s1.heap.objs.size=s1.heap.objs.size+1:=z; omega)⟩,fun c hc=>?_,q⟩
 have hge:s1.heap.objs.size<=c:=by
  simp only[sR,tw,or_false] at hc
  rcases hc with h | h | h | h | h <;> (rw[h]; omega)
 exact I1.fpOk hge (I1.hok.fresh hge)
end
noncomputable def ku:List Value->List Str->Bool
 | [],[]=>true
 | .str x _::vs,y::ys=>(x == y) && ku vs ys
 | _,_=>false
noncomputable def fE (get:Addr->Option Obj) (ss:List Str) (v:Value):Bool :=
 match v with
 | .ref b=>(match get b with
  | some o=>(o.cls == .type "tuple") && (match o.data with | .seq its _=>ku its.toList ss | _=>false)
  | none=>false)
 | _=>false
noncomputable abbrev oh (K:PySem.W.Frag) (a:Addr) (D:List (Str×List Str)):Prop:=KTD.tabLook (fE fun b=>K.lookup b) (fun b=>K.lookup b) a D=true
theorem eQ:∀ {vs:List Value}{ss:List Str},ku vs ss=true->KTD.Flats vs (ss.map PyData.str)
 | [],[],_=>.nil
 | .str x t::vs,y::ys,h=>by
  have h:((x == y) && ku vs ys)=true:=h
  rw[Bool.and_eq_true] at h
  have e:x=y:=by simpa using h.1
  subst e
  exact .cons (.str x t) (eQ h.2)
theorem gg:∀ {vs:List Value}{ss:List Str},KTD.Flats vs (ss.map PyData.str)->Vals (ss.map V.str) vs
 | _,[],h=>by cases h; exact .nil
 | _,y::ys,h=>by
  cases h with
  | cons f r=>exact .cons (PyProof.V.Flat.str_inv f) (gg r)
theorem gY:∀ {vs:List Value}{ds:List PyData},KTD.Flats vs ds->vs.length=ds.length
 | _,_,.nil=>rfl
 | _,_,.cons _ r=>by rw[sT,sT,gY r]
section
variable {X:Cx}{pins:List (Addr×Obj)}{σ:St}{H:Hp}{s:Shared}
noncomputable def fR (K:PySem.W.Frag) (h:Heap):Heap:=PySem.W.hideAll h ((List.range h.objs.size).filter fun b=>(K.lookup b).isNone)
theorem gS (kin:∀ a o,X.K.lookup a=some o->s.heap.get? a=some o) {a:Addr}{o:Obj} (h:X.K.lookup a=some o):(fR X.K s.heap).get? a=some o :=
 PySem.W.hideAll_get _ (kin a o h) fun hm=>by
  have:=(List.mem_filter.mp hm).2
  rw[h] at this; cases this
theorem m3 {a:Addr}{o:Obj} (kin:∀ a o,X.K.lookup a=some o->s.heap.get? a=some o) (h:(fR X.K s.heap).get? a=some o):X.K.lookup a=some o:=by
 have h1:s.heap.get? a=some o:=PySem.W.of_hideAll _ h
 cases hk:X.K.lookup a with
 | some o'=>rw[kin a o' hk] at h1; exact h1
 | none=>
  have:(fR X.K s.heap).get? a=none:=PySem.W.hideAll_none _ (List.mem_filter.mpr ⟨tH.mpr (Heap.lt_size h1),by rw[hk]; rfl⟩)
  rw[h] at this; cases this
theorem ny (kin:∀ a o,X.K.lookup a=some o->s.heap.get? a=some o) (ss:List Str) (v:Value) (h:fE (fun b=>X.K.lookup b) ss v=true):KTD.Dat.At (fR X.K s.heap) (.tup (ss.map PyData.str)) v:=by
 unfold fE at h
 split at h
 ·rename_i b
  split at h
  ·rename_i o ho
   rw[Bool.and_eq_true] at h
   obtain⟨h1,h2⟩:=h
   split at h2
   ·rename_i its n hd
    exact⟨b,its.toList,U,⟨o,gS kin ho,by simpa using h1,n,by simpa using hd⟩,eQ h2⟩
   ·cases h2
  ·cases h
 ·cases h
theorem gN (I:Inv X pins σ H s) {a:Addr}{D:List (Str×List Str)} (T:oh X.K a D):KTD.Here (fR X.K s.heap) s.heap a (D.map fun p=>(p.1,KTD.Dat.tup (p.2.map PyData.str))):=by
 have kin:∀ a o,X.K.lookup a=some o->s.heap.get? a=some o:=fun b o e=>I.kIn b o e
 obtain⟨h1,o,es,ep,h2,h3,h4,h5⟩:=KTD.tab_of_look (h:=fR X.K s.heap) (R:=fun(d:List Str) v=>KTD.Dat.At (fR X.K s.heap) (.tup (d.map PyData.str)) v) (fun d v h=>ny kin d v h) (fun b o e=>gS kin e) T
 exact⟨⟨h1,o,es,ep,h2,h3,h4,h5.mono (f:=fun d:List Str=>KTD.Dat.tup (d.map PyData.str)) (fun d v h=>h)⟩,fun b o e=>PySem.W.of_hideAll _ e⟩
theorem hJ (k : Str) : ∀ D : List (Str×List Str), KTD.datumAt k (D.map fun p=>(p.1, KTD.Dat.tup (p.2.map PyData.str)))=(D.lookup k).map fun ss=>KTD.Dat.tup (ss.map PyData.str)
  | []=>rfl
  | (x, d) :: D => by
    rw[sX, KTD.datumAt, tD, hJ k D]
    by_cases hk : k=x
    · subst hk; simp
    · have : (k == x)=false := beq_eq_false_iff_ne.mpr hk
      simp[hk, this]
noncomputable def tIxT (td ty:TE) (K:PySem.W.Frag):TE:=fun σ H Q=>td σ H fun x H1=>ty σ H1 fun y H2=>∃ k a D ss,x=V.ref a/\y=V.str k/\oh K a D/\D.lookup k=some ss/\ss.length<=1000/\∀ b,(∀ H3,SqT K H3 b (ss.map V.str))->Q (.ref b) H2
theorem mT {o i:Expr}{pos:Pos}{td ty:TE} (ho:PE X o td) (hi:PE X i ty) (hs:sE i):PE X (.Subscript o i pos) (tIxT td ty X.K):=by
 intro pins s σ H Q I h
 refine ow PySem.F.slot_dict_getitem.lookup hs (thn (ho pins s σ H _ I h) fun u s1 ⟨x,H1,I1,rx,q1⟩=>thn (hi pins s1 σ H1 _ I1 q1) fun iv s2 ⟨y,H2,I2,ry,k,a,D,ss,ex,ey,T,l,sb,q2⟩=>?_)
 subst ex ey
 obtain rfl:u=Value.ref a:=rx
 obtain⟨t,rfl⟩:=(show ∃ t,iv=Value.str k t from ry)
 have hT:=gN I2 T
 refine⟨hT.typeIs,?_⟩
 have hat:KTD.datumAt k (D.map fun p=>(p.1,KTD.Dat.tup (p.2.map PyData.str)))=some (KTD.Dat.tup (ss.map PyData.str)):=by rw[hJ,l]; rfl
 have hmem:KTD.inKeys k (D.map fun p=>(p.1,KTD.Dat.tup (p.2.map PyData.str)))=true:=by rw[<- KTD.isSome_datumAt,hat]; rfl
 unfold getItem
 try with_reducible refine wpAny_holding ?_
 refine wpAny_bind (wpAny_sequenceKey hT.typeIs (by decide) ?_)
 refine wpAny_bind (wpAny_callSpecial?_slot (name:=Str.ofString "__getitem__") hT.typeIs slot_dict_getitem
  (wpAny_call_entry slot_dict_getitem hT.typeIs entry_dict_getitem ?_ (args_dict_getitem _ _)))
 show wpAny _ _ (dictGet a (.str k t) >>= _) _ _ s2
 refine wpAny_bind (KTD.dictGet_text hT (fun d v ha hv=>wpAny_pure ⟨v,U,wpAny_pure ?_⟩) fun hn=>absurd hn (KTD.at_of_mem hmem))
 rw[hat] at ha
 cases ha
 obtain⟨b,vs,rfl,⟨ob,e1,e2,n,e3⟩,fl⟩:=hv
 have lv:vs.length=ss.length:=by have:=gY fl; rw[sI] at this; exact this
 exact⟨.ref b,H2,I2.tok _,U,q2 b fun _=>(.inr ⟨ob,vs.toArray,n,m3 (fun b o e=>I2.kIn b o e) e1,e2,e3,by rw[sU,lv]; exact Nat.le_of_lt (sizeOk (by omega)),by simpa using gg fl⟩)⟩
theorem nK {a b:Addr}{xs ys:List V}{g:TG}{tb:TS}{D:Ends}{σ:St}{H:Hp} (hl:xs.length=ys.length) (Pv:Nat->St->Hp->Prop) (h0:Pv 0 σ H) (ha:∀ i σ H,i<=xs.length->Pv i σ H->SqT K H a xs/\SqT K H b ys)
  (hs:∀ i x y σ H p,xs[i]?=some x->ys[i]?=some y->Pv i σ H->H p=none->g (.ref p) σ (upd H p (.tup [x,y])) fun σ2 H2=>tb { D with nx:=Pv (i+1),ct:=Pv (i+1),bk:=D.nx } σ2 H2) (hd:∀ σ H,Pv xs.length σ H->D.nx σ H) :
  ∃ W:Nat->Nat->St->Hp->Prop,(∃ m,W 0 m σ H)/\∀ i m σ H,W i m σ H ->
   ((oj K a b).stop i H/\D.nx σ H)∨((oj K a b).go i H/\∃ N:St->Hp->Prop,(∀ σ' H',N σ' H'->∃ m',m'<m/\W (i+1) m' σ' H')/\∀ x H',(oj K a b).yld i H x H'->g x σ H' fun σ2 H2=>tb { D with nx:=N,ct:=N,bk:=D.nx } σ2 H2):=by
 refine⟨fun i m σ H=>m=xs.length - i/\i<=xs.length/\Pv i σ H,⟨_,U,Nat.zero_le _,h0⟩,?_⟩
 rintro i m σ H ⟨rfl,hi,hp⟩
 obtain⟨qa,qb⟩:=ha i σ H hi hp
 by_cases c:i<xs.length
 ·refine .inr ⟨⟨xs,xs[i],ys,ys[i]'(by omega),qa,sK c,qb,sK (by omega)⟩,Pv (i+1),fun σ' H' h'=>⟨_,by omega,U,by omega,h'⟩,?_⟩
  rintro v H' ⟨p,x,y,rfl,hpn,rfl,hx,hy⟩
  exact hs i x y σ H p (hx _ qa) (hy _ qb) hp hpn
 ·have e:i=xs.length:=by omega
  subst e
  exact .inl ⟨⟨xs,ys,qa,qb,.inl (Nat.le_refl _)⟩,hd σ H hp⟩
end
section
variable {X:Cx}
theorem jI:cq X (.type "range") (fun xs H Q=>∃ i j:Int,xs=[.int i,.int j]/\∀ p,H p=none->Q (.ref p) (upd H p (.rng i j))):=by
 intro pins s σ H xs us Q I r h
 obtain⟨i,j,rfl,q⟩:=h
 obtain⟨u,u',rfl,⟨t,rfl⟩,⟨t',rfl⟩⟩:=gK r
 refine call_range_2 ⟨.ref s.heap.objs.size,_,I.laid (fun b o e=>Heap.get?_push_of_some _ e) (Nat.le_refl _) ?_,U,q _ (I.hok.fresh (Nat.le_refl _))⟩
 exact⟨_,_,_,Heap.get?_push_size _ rfl⟩
noncomputable def dE (lo:Int) (n:Nat):List V:=(List.range n).map fun(i:Nat)=>V.int (lo+(i:Int))
theorem b7 (lo:Int) (n:Nat):(dE lo n).length=n:=by simp[dE]
theorem gW {lo:Int}{n i:Nat} (h:i<n):(dE lo n)[i]?=some (.int (lo+(i:Int))):=by simp[dE,h]
theorem gr (hc:X.calm=true):cq X (.type "list") (fun xs H Q=>∃ p i j,xs=[.ref p]/\H p=some (.rng i j)/\0<=i/\i<=2 ^ 24/\0<=j/\j<=2 ^ 24/\∀ l,H l=none->Q (.ref l) (upd H l (.lst (dE i (j - i).toNat)))):=by
 intro pins s σ H xs us Q I r h
 obtain⟨p,i0,j,rfl,hp,h2,h3,h0,h1,q⟩:=h
 obtain⟨u,rfl,ru⟩:=c8 r
 cases (show u=Value.ref p from ru)
 obtain⟨t,u,v,e⟩:=(show ObjOk X.prog X.w H s.heap p (.rng i0 j) from I.hok p _ hp)
 have sz:((j - i0).toNat:Nat)<=sizeLine:=by rw[sizeLine_eq]; omega
 refine call_list_range (n:=(j - i0).toNat) (I.ok.hd hc) e (small_one (by omega) (by omega) (by omega) (by omega)) (by rw[rangeSize_one]; split <;> omega) (by omega) fun h' tk acc c hk hS hi=>?_
 refine⟨.ref s.heap.objs.size,_,I.laid hk (Nat.le_refl _) ?_,U,q _ (I.hok.fresh (Nat.le_refl _))⟩
 refine⟨by rw[b7]; exact sz,acc.toList,c,gE (P:=fun i v=>∃ t,v=.int (i0+i*1) t) (by rw[b7,Array.length_toList]; exact hi.1) (fun i v e=>hi.2 i v (by simpa using e)) (fun i v x ⟨t,e⟩ ex=>?_),by simpa using hS⟩
 subst e
 have hlt:i<(j - i0).toNat:=by
  have:=(List.getElem?_eq_some_iff.mp ex).1
  rw[b7] at this; exact this
 rw[gW hlt] at ex
 cases ex
 exact⟨t,by congr 1; omega⟩
end
mutual
noncomputable def DV (K:PySem.W.Frag) (H:Hp):PyData->V->Prop
 | .none,v=>v=.non
 | .bool b,v=>v=.bl b
 | .int i,v=>v=.int i
 | .str x,v=>v=.str x
 | .list ds,v=>∃ (a:Addr) (xs:List V),v=.ref a/\SqL K H a xs/\DVs K H ds xs
 | .tuple ds,v=>∃ (a:Addr) (xs:List V),v=.ref a/\SqT K H a xs/\DVs K H ds xs
 | .dict _,_=>False
noncomputable def DVs (K:PySem.W.Frag) (H:Hp):List PyData->List V->Prop
 | [],xs=>xs=[]
 | d::ds,xs=>∃ v r,xs=v::r/\DV K H d v/\DVs K H ds r
end
section
variable {X:Cx}{pins:List (Addr×Obj)}{s:Shared}{σ:St}{H:Hp}
mutual
theorem DV.reads (I:Inv X pins σ H s):∀ (d:PyData) (v:V) (u:Value),DV X.K H d v->RelV v u->∃ as,Reads s.heap u d as
 | .none,v,u,h,r=>by
  unfold DV at h; subst h; cases (show u=Value.none from r); exact⟨[],.none⟩
 | .bool b,v,u,h,r=>by
  unfold DV at h; subst h; cases (show u=Value.bool b from r); exact⟨[],.bool b⟩
 | .int i,v,u,h,r=>by
  unfold DV at h; subst h; obtain⟨t,e⟩:=(show ∃ t,u=Value.int i t from r); subst e; exact⟨[],.int i t⟩
 | .str x,v,u,h,r=>by
  unfold DV at h; subst h; obtain⟨t,e⟩:=(show ∃ t,u=Value.str x t from r); subst e; exact⟨[],.str x t⟩
 | .list ds,v,u,h,r=>by
  unfold DV at h
  obtain⟨a,xs,rfl,hs,hd⟩:=h
  cases (show u=Value.ref a from r)
  obtain⟨its,r2,⟨o,n,e,c,d,dd⟩,hz⟩:=I.list hs
  obtain⟨as,ra⟩:=DVs.reads I ds xs its hd r2
  exact⟨a::as,.list e c dd (by simpa using ra)⟩
 | .tuple ds,v,u,h,r=>by
  unfold DV at h
  obtain⟨a,xs,rfl,hs,hd⟩:=h
  cases (show u=Value.ref a from r)
  obtain⟨its,r2,⟨o,e,c,n,dd⟩,hz⟩:=I.tuple hs
  obtain⟨as,ra⟩:=DVs.reads I ds xs its hd r2
  exact⟨as,.tuple e c dd (by simpa using ra)⟩
 | .dict _,v,u,h,r=>by unfold DV at h; exact h.elim
theorem DVs.reads (I:Inv X pins σ H s):∀ (ds:List PyData) (xs:List V) (us:List Value),DVs X.K H ds xs->Vals xs us->∃ as,ReadsAll s.heap us ds as
 | [],xs,us,h,r=>by
  unfold DVs at h; subst h; cases r; exact⟨[],.nil⟩
 | d::ds,xs,us,h,r=>by
  unfold DVs at h
  obtain⟨v,r',rfl,h1,h2⟩:=h
  cases r with
  | cons ru rs=>
   obtain⟨as,ra⟩:=DV.reads I d v _ h1 ru
   obtain⟨bs,rb⟩:=DVs.reads I ds r' _ h2 rs
   exact⟨as++bs,.cons ra rb⟩
end
noncomputable def qy (K:PySem.W.Frag) (neg:Bool):R2:=fun x y H Q=>∃ (d e:PyData),DV K H d x/\DV K H e y/\SeqAt.shaped d=true/\SeqAt.shaped e=true/\Q (.bl (if neg then !PyData.eqv d e else PyData.eqv d e)) H
theorem mZ {X:Cx} (hu:X.A.units+64<cLine):OpR X (compareOp .Eq) (qy X.K false):=by
 intro pins s σ H x y u v Q I rx ry h
 obtain⟨d,e,hd,he,sd,se,q⟩:=h
 obtain⟨as,ra⟩:=DV.reads I d x u hd rx
 obtain⟨bs,rb⟩:=DV.reads I e y v he ry
 exact eq_dataH ra rb sd se hu (aS I q (by simp))
theorem j6 {X:Cx} (hu:X.A.units+64<cLine):OpR X (compareOp .NotEq) (qy X.K true):=by
 intro pins s σ H x y u v Q I rx ry h
 obtain⟨d,e,hd,he,sd,se,q⟩:=h
 obtain⟨as,ra⟩:=DV.reads I d x u hd rx
 obtain⟨bs,rb⟩:=DV.reads I e y v he ry
 exact ne_dataH ra rb sd se hu (aS I q (by simp))
end
theorem dF {α:Type} (f:α->PyData):∀ (l:List α),(∀ x ∈ l,(f x).canLay0=true)->PyData.canLayAll0 (l.map f)=true
 | [],_=>rfl
 | x::l,h=>by
  rw[sX,PyData.canLayAll0,h x sM,dF f l fun y hy=>h y (sH _ hy)]; rfl
theorem d6 {α:Type} (f:α->PyData) (n:Nat):∀ (l:List α),(∀ x ∈ l,(f x).depth<=n)->PyData.depthAll (l.map f)<=n
 | [],_=>Nat.zero_le _
 | x::l,h=>by
  rw[sX,PyData.depthAll]
  exact Nat.max_le.mpr ⟨h x sM,d6 f n l fun y hy=>h y (sH _ hy)⟩
theorem DVs.map {α:Type}{H:Hp} (f:α->PyData) (g:α->V):∀ (l:List α),(∀ x ∈ l,DV K H (f x) (g x))->DVs K H (l.map f) (l.map g)
 | [],_=>by show DVs K H [] []; unfold DVs; rfl
 | x::l,h=>by
  show DVs K H (f x::l.map f) (g x::l.map g)
  unfold DVs
  exact⟨_,_,U,h x sM,DVs.map f g l fun y hy=>h y (sH _ hy)⟩
theorem ee {d:PyData} (h1:d.canLay0=true) (h2:d.depth<=64):SeqAt.shaped d=true:=by unfold SeqAt.shaped; rw[h1,decide_eq_true h2]; rfl
noncomputable def CXr (P:Program) (w:World):CXT:=fun outer H s E e s'=>∃ (a:Addr) (C a0:Value) (H':Hp) (B:Heap),e=.ref a/\Heap.FlyingW B outer a C a0 s'.heap/\s'.os=s.os/\AllBare s'.gens/\Un (frs outer) [] H H' s.heap s'.heap /\
 (∀ b o,s.heap.get? b=some o->H b=none->b ∉ frs outer->B.get? b=some o)/\(∀ b o,s.heap.get? b=some o->b ∉ frs outer->∃ o',B.get? b=some o')/\HOk P w H' B/\E C (some a) H'
theorem dj {h base:Heap}:∀ {l:List Env}{m:List Addr},h.FunFrames base l->(∀ b ∈ frs l,b ∈ m)->h.FunFrames (PySem.W.hideAll h m) l
 | [],_,_,_=>trivial
 | env::r,m,⟨hk,⟨L,o,hf,hn,ho,hd⟩,hr⟩,hs=>⟨hk,⟨L,o,hf,PySem.W.hideAll_none m (hs L (by unfold frs; rw[List.filterMap_cons,hf]; exact sM)),ho,hd⟩,dj hr fun b hb=>hs b (by unfold frs; rw[List.filterMap_cons,hf]; exact sH _ hb)⟩
theorem jA {P:Program}{w:World}{H:Hp}{h:Heap}{m:List Addr} (ok:HOk P w H h) (hm:∀ b ∈ m,H b=none):HOk P w H (PySem.W.hideAll h m):=fun a o e=>
 (ok a o e).stay (fun b u hb q=>PySem.W.hideAll_get m q fun z=>by
  have n:=hm b z
  rcases hb with hb | hb
  ·rw[hb,e] at n; cases n
  ·rw[hb] at n; cases n) (fun _ q=>q) fun _ _ q=>q
section
variable {P:Program}{w:World}{K:PySem.W.Frag}{mg:Str->Option Value}{base:Heap}{N:List Str}{qual:Str}{scope:Scope}{f:Addr}{cd:Value}{A:Around}{outer:List Env}{s₀:Shared}{H₀:Hp}{E:XK}
theorem iz {pins:List (Addr×Obj)}{σ:St}{H:Hp}{s:Shared}{h1:Heap}{e:Addr}{C:Value}{args:List Value}
  (I:Inv (cP (CXr P w) P w K mg base N qual scope f cd A outer s₀ H₀ E) pins σ H s) (hm:Heap.MadeExcOf s.heap h1 e C args) (hE:E C (some e) H) :
  (cP (CXr P w) P w K mg base N qual scope f cd A outer s₀ H₀ E).xe (.ref e) { s with heap:=h1 }:=by
 have nox:∀ b:Addr,b ∉ ([]:List Addr):=fun b z=>nomatch z
 have hst:∀ b ∈ frs (envOfC qual scope s₀.heap.objs.size f cd::outer),H b=none:=fun b hb=>I.stkFree b hb
 have nfr:∀ b o,s₀.heap.get? b=some o->b ∉ frs outer->b ∉ frs (envOfC qual scope s₀.heap.objs.size f cd::outer):=fun b o eb hb z=>by
  rcases sR.mp (show b ∈ s₀.heap.objs.size::frs outer from z) with z | z
  ·exact absurd (Heap.lt_size eb) (by rw[z]; exact Nat.lt_irrefl _)
  ·exact hb z
 refine wpAny_leaves_madeW (base:=PySem.W.hideAll s.heap (frs (envOfC qual scope s₀.heap.objs.size f cd::outer))) (h:=s.heap) I.ok.frames rfl (fun b o q=>PySem.W.of_hideAll _ q) (dj I.stack fun _ hb=>hb) hm fun h' t fl _ _ ups=>?_
 refine⟨e,C,.ref t,H,_,U,fl,I.os,I.bare,⟨fun b o q n hb _=>?_,fun b o q n hb hx=>?_,fun b o q n hx=>I.base.free b o q n (nox b),fun b o q hx=>?_,I.base.tups,I.base.frzs,I.base.tbls⟩,fun b o q n hb=>?_,fun b o q hb=>?_,jA I.hok hst,hE⟩
 ·exact fl.1 b o (PySem.W.hideAll_get _ (I.base.keep b o q n hb (nox b)) (nfr b o q hb))
 ·obtain⟨sl,e1⟩:=I.base.slot b o q n hb (nox b)
  obtain⟨_,o2,ho2,hnf⟩:=I.stack.mem (show b ∈ frs (envOfC qual scope s₀.heap.objs.size f cd::outer) from sH _ hb)
  rw[e1] at ho2
  cases ho2
  obtain⟨sl2,e2⟩:=ups b _ (hm.keeps b _ e1) hnf
  exact⟨sl2,e2⟩
 ·obtain⟨o',e1⟩:=I.base.there b o q (nox b)
  by_cases hb:b ∈ frs (envOfC qual scope s₀.heap.objs.size f cd::outer)
  ·obtain⟨_,o2,ho2,hnf⟩:=I.stack.mem hb
   obtain⟨sl2,e2⟩:=ups b _ (hm.keeps b _ ho2) hnf
   exact⟨_,e2⟩
  ·exact⟨o',fl.1 b o' (PySem.W.hideAll_get _ e1 hb)⟩
 ·exact PySem.W.hideAll_get _ (I.base.keep b o q n hb (nox b)) (nfr b o q hb)
 ·obtain⟨o',e1⟩:=I.base.there b o q (nox b)
  exact⟨o',PySem.W.hideAll_get _ e1 (nfr b o q hb)⟩
theorem cA:cI (CXr P w) (cP (CXr P w) P w K mg base N qual scope f cd A outer s₀ H₀ E) E:=by
 intro pins σ H s e s' I h
 obtain⟨a,C,a0,H',B,rfl,fl,os,bare,un,kb,tb,hok,hE⟩:=h
 have nox:∀ b:Addr,b ∉ ([]:List Addr):=fun b z=>nomatch z
 have nfr:∀ b o,s₀.heap.get? b=some o->b ∉ frs outer->b ∉ frs (envOfC qual scope s₀.heap.objs.size f cd::outer):=fun b o eb hb z=>by
  rcases sR.mp (show b ∈ s₀.heap.objs.size::frs outer from z) with z | z
  ·exact absurd (Heap.lt_size eb) (by rw[z]; exact Nat.lt_irrefl _)
  ·exact hb z
 refine wpAny_leaves_onW I.ok.frames rfl fl fun h' fl' ups=>?_
 refine⟨a,C,a0,H',B,U,fl',os.trans I.os,bare,⟨fun b o q n hb _=>?_,fun b o q n hb hx=>?_,fun b o q n hx=>?_,fun b o q hx=>?_,fun b xs q=>un.tups b xs (I.base.tups b xs q),fun b o u q=>un.frzs b o u (I.base.frzs b o u q),fun b ps q=>?_⟩,fun b o q n hb=>?_,fun b o q hb=>?_,hok,hE⟩
 ·exact fl'.1 b o (kb b o (I.base.keep b o q n hb (nox b)) (I.base.free b o q n (nox b)) (nfr b o q hb))
 ·obtain⟨sl,e1⟩:=I.base.slot b o q n hb (nox b)
  obtain⟨sl2,e2⟩:=un.slot b _ e1 (I.base.free b o q n (nox b)) (sH _ hb) (nox b)
  obtain⟨_,o2,ho2,hnf⟩:=fl.2.2.1.mem (show b ∈ frs (envOfC qual scope s₀.heap.objs.size f cd::outer) from sH _ hb)
  rw[e2] at ho2
  cases ho2
  obtain⟨sl3,e3⟩:=ups b _ e2 hnf
  exact⟨sl3,e3⟩
 ·obtain⟨sl,e1⟩:=I.base.any q n (nox b)
  exact un.free b _ e1 (I.base.free b o q n (nox b)) (nox b)
 ·obtain⟨o1,e1⟩:=I.base.there b o q (nox b)
  by_cases hb:b ∈ frs (envOfC qual scope s₀.heap.objs.size f cd::outer)
  ·obtain⟨_,o2,ho2,hnf⟩:=fl.2.2.1.mem hb
   obtain⟨sl2,e2⟩:=ups b _ ho2 hnf
   exact⟨_,e2⟩
  ·obtain⟨o2,e2⟩:=tb b o1 e1 hb
   exact⟨o2,fl'.1 b o2 e2⟩
 ·obtain⟨more,e1⟩:=I.base.tbls b ps q
  obtain⟨more2,e2⟩:=un.tbls b _ e1
  exact⟨more++more2,by rw[<- Array.append_assoc]; exact e2⟩
 ·exact kb b o (I.base.keep b o q n hb (nox b)) (I.base.free b o q n (nox b)) (nfr b o q hb)
 ·obtain⟨o1,e1⟩:=I.base.there b o q (nox b)
  exact tb b o1 e1 (nfr b o q hb)
end
theorem rG {hp:Heap}{C:Addr}{tail:List Value}{mk:String} (inn:K.In hp) (isx:PySem.W.excIn K C tail mk=true) :
  ∃ up ns nm qn bs hd sn sub ab col dd x0 x1 x2 x3 x5 names,hp.get? C=some (excClassObj nm qn C ns bs up hd sn sub ab col dd x0 x1 x2 x3 x5 mk)/\hp.Ns ns names/\names "__init__" = none/\OwnTail hp tail up:=by
 unfold PySem.W.excIn at isx
 split at isx
 case h_2=>exact absurd isx Bool.false_ne_true
 rename_i dd cls slots found
 split at isx
 case h_2=>exact absurd isx Bool.false_ne_true
 rename_i C2 up x0 x1 x2 x3 nw x5 mroIs slotsIs
 rw[Bool.and_eq_true,Bool.and_eq_true,Bool.and_eq_true,Bool.and_eq_true,Bool.and_eq_true] at isx
 have p1:C2=C:=eq_of_beq isx.1.1.1.1.1
 have p2:nw=mk:=eq_of_beq isx.1.1.1.1.2
 have p3:cls.hasDel=false:=by simpa using isx.1.1.1.2
 have p6:W.nsIn K cls.ns "__init__" = some none:=eq_of_beq isx.2
 have ob:=inn _ _ found
 have sl:slots = #[x0,x1,x2,x3,some (.builtin nw),x5]:=by rw[<- slotsIs]
 cases cls
 simp only at mroIs p3
 rw[mroIs,p3,sl,p1,p2] at ob
 exact⟨up,_,_,_,_,_,_,_,_,_,_,x0,x1,x2,x3,x5,_,ob,.of_isNs (PySem.W.isNs_of_in inn isx.1.2),PySem.W.nsMap_none_of_in inn isx.1.2 p6,PySem.W.tail_of_in inn isx.1.1.2⟩
noncomputable def oi (X:Cx) (E:XK):Prop:=∀ (pins:List (Addr×Obj)) (σ:St) (H:Hp) (s:Shared) (h1:Heap) (e:Addr) (C:Value) (args:List Value),Inv X pins σ H s->Heap.MadeExcOf s.heap h1 e C args->E C (some e) H->X.xe (.ref e) { s with heap:=h1 }
theorem bo {P:Program}{w:World}{mg:Str->Option Value}{base:Heap}{N:List Str}{qual:Str}{scope:Scope}{f:Addr}{cd:Value}{A:Around}{outer:List Env}{s₀:Shared}{H₀:Hp}{E:XK} :
  oi (cP (CXr P w) P w K mg base N qual scope f cd A outer s₀ H₀ E) E:=fun _ _ _ _ _ _ _ _ I hm hE=>iz I hm hE
noncomputable def dI (E:XK) (C:Addr) (t:TE):TS:=fun D σ H=>t σ H fun _ H1=>∀ e,E (.ref C) (some e) H1
noncomputable abbrev jP:List Value:=[.type "ValueError",.type "Exception",.type "BaseException",.type "object"]
section
variable {X:Cx}{E:XK}{C:Addr}{x:Str}{np cpos pos:Pos}{e₀:Expr}{t:TE}
theorem aY (hx:oi X E) (hc:X.calm=true) (hg:Gl X x) (hm:X.mg x=some (.ref C)) (isx:PySem.W.excIn X.K C jP "ValueError.__new__" = true) (ha:PE X e₀ t) (hdb:(x == ("__debug__" : Str))=false:=by decide)
  (he:starEach [e₀] X.env=[(false,eval e₀ X.env)]:=by rfl):PS X (.Raise (some (.Call (.Name x np) [e₀] [] cpos)) none pos) (dI E C t):=by
 intro pins s σ H D I h
 obtain⟨up,ns,nm,qn,bs,hd,sn,sub,ab,col,dd,x0,x1,x2,x3,x5,names,hC,hN,hni,T⟩:=rG I.mod.kin isx
 refine wpAny_Raise_call_subT (C:=C) (nm:=nm) (q:=qn) (N:=ns) (bs:=bs) (bm:=up) (hdct:=hd) (sn:=sn) (sub:=sub) (ab:=ab) (col:=col) (dd:=dd) (k0:=x0) (k1:=x1) (k2:=x2) (k3:=x3) (k5:=x5) (mN:=names)
  PySem.F.excBase_ValueError (T.hasType PySem.F.excBase_ValueError.hasBase) (I.ok.hd hc) (by rw[he]; rfl) hni (cV I hg hm ⟨U,?_⟩ hdb)
 rw[he]
 refine Calls.evalArgs_plain (Calls.spliced_cons (thn (ha pins s σ H _ I h) fun u s1 ⟨v,H1,I1,r,q⟩=>Calls.spliced_nil ?_))
 exact⟨U,(show 1<=sizeLine by decide),I1.bk _ _ hC,hN.keeps I1.bk,T.keeps I1.bk,fun h' e hm=>hx pins σ H1 s1 h' e _ _ I1 hm (q e)⟩
end
noncomputable abbrev TJ:=Str->St->Hp->VK->Prop
section
variable {X:Cx}{e v1 v2:Expr}{es:List Expr}{te:TE}{tr:TJ}{pos:Pos}
noncomputable def PJ (X:Cx) (es:List Expr) (t:TJ):Prop:=∀ (pins:List (Addr×Obj)) (s:Shared) (σ:St) (H:Hp) (acc:Str) (Q:VK),Inv X pins σ H s->t acc σ H Q ->
 Joins (model X.prog X.w) X.A X.xe (evalEach es X.env) acc (fun out s1=>out.length<=sizeLine/\EP X pins σ Q (.str out s1.toks) { s1 with toks:=s1.toks+1 }) s
noncomputable def tJ0:TJ:=fun acc σ H Q=>acc.length<=sizeLine/\Q (.str acc) H
noncomputable def tJ1 (te:TE) (tr:TJ):TJ:=fun acc σ H Q=>te σ H fun v H1=>∃ y,v=.str y/\(acc++y).length<=sizeLine/\tr (acc++y) σ H1 Q
theorem bU:PJ X [] tJ0:=fun pins s σ H acc Q I h=>⟨h.1,.str acc,H,I.tok _,⟨_,U⟩,h.2⟩
theorem aK (h1:PE X e te) (h2:PJ X es tr):PJ X (e::es) (tJ1 te tr):=fun pins s σ H acc Q I h=>by
 refine thn (h1 pins s σ H _ I h) fun u s1 ⟨v,H1,I1,r,y,ey,hz,q⟩=>?_
 subst ey
 obtain⟨t,rfl⟩:=r
 exact⟨y,t,U,hz,h2 pins s1 σ H1 _ Q I1 q⟩
theorem bc (h:PJ X (v1::v2::es) tr):PE X (.JoinedStr (v1::v2::es) pos) (fun σ H Q=>tr Str.empty σ H Q):=fun pins s σ H Q I hh=>wpAny_JoinedStr (h pins s σ H _ Q I hh)
noncomputable def lg (te:TE):TE:=fun σ H Q=>te σ H fun v H1=>(∃ y,v=.str y/\y.length<=sizeLine/\Q (.str y) H1)∨∃ i:Int,v=.int i/\i.natAbs.log2<1920/\Q (.str (toString i)) H1
theorem bV (h:PE X e te):PE X (.FormattedValue e (-1) none pos) (lg te):=fun pins s σ H Q I hh=>by
 refine wpAny_FormattedValue_plain (thn (h pins s σ H _ I hh) fun u s1 ⟨v,H1,I1,r,q⟩=>?_)
 rcases q with ⟨y,rfl,hz,q⟩ | ⟨i,rfl,hz,q⟩
 ·obtain⟨t,rfl⟩:=r
  exact wpAny_formatField_str ⟨.str y,H1,I1,⟨_,U⟩,q⟩ ⟨.str y,H1,I1.tok _,⟨_,U⟩,q⟩ hz
 ·obtain⟨t,rfl⟩:=r
  exact wpAny_formatField_int hz ⟨.str (toString i),H1,(I1.tok _).tok _,⟨_,U⟩,q⟩
noncomputable def l9 (te:TE):TE:=fun σ H Q=>te σ H fun v H1=>∃ y,v=.str y/\(reprText y).length<=sizeLine/\Q (.str (reprText y)) H1
theorem kM (h:PE X e te):PE X (.FormattedValue e 114 none pos) (l9 te):=fun pins s σ H Q I hh=>by
 refine wpAny_FormattedValue_repr (thn (h pins s σ H _ I hh) fun u s1 ⟨v,H1,I1,r,y,ey,hz,q⟩=>?_)
 subst ey
 obtain⟨t,rfl⟩:=r
 refine wpAny_pyReprObj_gives (T := "str") rfl PySem.F.slot_str_repr PySem.F.entry_str_repr (PySem.F.args_str_repr_1 _) (gives_str_repr y t) ?_ rfl hz
 exact wpAny_formatField_str ⟨.str (reprText y),H1,I1.tok _,⟨_,U⟩,q⟩ ⟨.str (reprText y),H1,(I1.tok _).tok _,⟨_,U⟩,q⟩ hz
end
end L2
namespace L2
open PySem PySem.Spec PyProof.Rows PySem.Calls
noncomputable def ExcAt (x D:Addr) (h:Heap):Prop:=∃ o vs,h.get? x=some o/\o.cls=.ref D/\o.data=.fields vs
theorem ExcAt.ty {M:Model}{x D:Addr}{h:Heap} (p:ExcAt x D h):PySem.W.Looks M h (typeOf (.ref x)) (.ref D):=by
 obtain⟨o,vs,h1,h2,_⟩:=p
 exact h2 ▸ (PySem.W.Looks.ld h1).andThen .now
structure ExcCls (K:PySem.W.Frag) (D:Addr):Prop where
 ga:W.findIn K (.ref D) "__getattribute__" = some (some (.builtin "BaseException.__getattribute__"))
 gh:W.findIn K (.ref D) "__getattr__" = some none
 be:PySem.W.mroIn K D (.type "BaseException")=some true
 hd:W.hasDictIn K D=true
 at_:W.findIn K (.ref D) "__class__" = some (some (.builtin "object.__class__"))
 gt:PySem.W.specialIn K (.builtin "object.__class__") "__get__" = some (some (.builtin "getset_descriptor.__get__"))
 tk:PySem.W.takesIn K (.builtin "object.__class__")=some true
 ob:PySem.W.mroIn K D (.type "object")=some true
section
variable {K:PySem.W.Frag}{x D:Addr}
open PySem.W Builtin Builtin.ObjectAttr in
theorem nP {M:Model}{h:Heap} (c:ExcCls K D) (X:K.In h):Looks M h (find (.ref x) (.ref D) "__class__") (Found.bind (.builtin "getset_descriptor.__get__") (.builtin "object.__class__")):=by
 have l1:=looks_findIn (M:=M) X c.at_
 have l2:Looks M h (getOf (some (.builtin "object.__class__"))) (some (.builtin "getset_descriptor.__get__")):=looks_specialIn X c.gt
 have l3:=looks_takesIn (M:=M) X c.tk
 have l4:Looks M h (dataDescriptor? (some (.builtin "object.__class__")) (some (.builtin "getset_descriptor.__get__"))) (some (.builtin "getset_descriptor.__get__",.builtin "object.__class__")):=l3.andThen .now
 exact l1.andThen (l2.andThen (l4.andThen (Looks.tag .now)))
open PySem.W Builtin Builtin.ObjectAttr Builtin.Getset_descriptor in
theorem lQ {prog:Program}{w:World}{A:Around}{R:Result->Shared->Prop}{s:Shared}{tp:Value} (c:ExcCls K D) (X:K.In s.heap) (p:ExcAt x D s.heap) (h:R (.ok (.ret (.ref D))) s) :
  codeAny (model prog w) A (.call (.builtin "getset_descriptor.__get__") ⟨[.builtin "object.__class__",.ref x,tp],[]⟩) R s:=by
 obtain⟨hp,ge,dw,tt,oo⟩:=s
 have l0:=p.ty (M:=model prog w)
 have l1:=looks_mroIn (M:=model prog w) X c.ob
 refine codeAny_call_builtin KF.slot_gs.plain KF.entry_gs ?_
 refine KF.slot_gs.check _ _ _ _ _ _ _ _ KF.type_class (KF.args_gs _ _ _) ?_
 unfold Builtin.«getset_descriptor.__get__»; unfold descrGet
 rw[dga_obj]; refine wpAny_bind (wpAny_pure ?_)
 unfold descrGetter descrCheckInstance; unfold descrNameAndClass isInstance
 simp only[KF.owner_class]; repeat lk
 refine⟨Code.quiet_builtin _ (by decide +kernel),?_⟩
 refine codeAny_builtin KF.entry_class ?_
 unfold Builtin.«object.__class__»; unfold shownTypeOf
 repeat lk
 exact h
open PySem.W Builtin Builtin.ObjectAttr in
theorem lP {prog:Program}{w:World}{A:Around}{E:Value->Shared->Prop}{s:Shared}{tk:Tok}{Q:Fin->Shared->Prop} (c:ExcCls K D) (X:K.In s.heap) (p:ExcAt x D s.heap) (h:Q (.done (.ret (.ref D))) s) :
  wpAny (model prog w) A (Builtin.«object.__getattribute__» ⟨[.ref x,.str "__class__" tk],[]⟩) Q E s:=by
 obtain⟨hp,ge,dw,tt,oo⟩:=s
 have l0:=p.ty (M:=model prog w)
 have l2:=nP (x:=x) (M:=model prog w) c X
 unfold Builtin.«object.__getattribute__»
 repeat (any_goals (first | assumption | lk | wp_step))
 show wpAny _ _ (run _ none) _ _ _
 refine wpAny_run (lQ c X p ?_)
 exact wpAny_pure (wpAny_pure h)
open PySem.W Builtin Builtin.ObjectAttr in
theorem rF {prog:Program}{w:World}{A:Around}{R:Result->Shared->Prop}{s:Shared}{tk:Tok} (c:ExcCls K D) (X:K.In s.heap) (p:ExcAt x D s.heap) (h:R (.ok (.ret (.ref D))) s) :
  codeAny (model prog w) A (.call (.builtin "BaseException.__getattribute__") ⟨[.ref x,.str "__class__" tk],[]⟩) R s:=by
 obtain⟨hp,ge,dw,tt,oo⟩:=s
 have l0:=p.ty (M:=model prog w)
 have l1:=looks_mroIn (M:=model prog w) X c.be
 refine codeAny_call_builtin PySem.F.excAttr_ValueError.ga.plain PySem.F.entry_bexc_ga ?_
 have hk:builtinKind "BaseException.__getattribute__" = some .slot:=by decide +kernel
 have hs:splitId "BaseException.__getattribute__" = some ("BaseException","__getattribute__"):=by decide +kernel
 have ha:=PySem.F.args_bexc_ga (.ref x) (.str "__class__" tk)
 simp only[checkBuiltinCall,hk,hs]
 refine wpAny_bind ?_
 unfold isInstance
 refine wpAny_bind (l0.at (l1.at ?_))
 rw[if_neg (by decide)]
 unfold argsOk at ha
 have fin:=lP (prog:=prog) (w:=w) (A:=A.in1) (E:=fun e s'=>R (.error e) s') (s:=⟨hp,ge,dw,tt,oo⟩) (tk:=tk) (Q:=fun fin s'=>match fin with | .done f=>R (.ok f) s' | .again c'=>c'.quiet=true/\codeAny (model prog w) A c' R s') c X p h
 generalize Manifest.signature? "BaseException.__getattribute__" = sg at ha ⊢
 cases sg with
 | none=>exact wpAny_pure fin
 | some sig=>
  dsimp only at ha ⊢
  rw[ha]
  exact wpAny_pure fin
open PySem.W Builtin Builtin.ObjectAttr in
theorem nQ {prog:Program}{w:World}{A:Around}{E:Value->Shared->Prop}{s:Shared}{Q:Option Value->Shared->Prop} (c:ExcCls K D) (X:K.In s.heap) (p:ExcAt x D s.heap) (h:Q (some (.ref D)) { s with toks:=s.toks+1 }) :
  wpAny (model prog w) A (getAttr? (.ref x) "__class__") Q E s:=by
 obtain⟨hp,ge,dw,tt,oo⟩:=s
 have l0:=p.ty (M:=model prog w)
 have l1:=looks_findIn (M:=model prog w) X c.ga
 have l3:=looks_findIn (M:=model prog w) X c.gh
 have f3:=PySem.F.excAttr_ValueError.ga.bind (.ref x)
 have hx2:(Value.builtin "BaseException.__getattribute__" == Value.builtin "object.__getattribute__")=false:=by decide +kernel
 have hx1:(onTheHeap (Value.ref D) && Value.builtin "BaseException.__getattribute__" == Value.builtin "object.__getattribute__")=false:=by rw[hx2]; rfl
 unfold getAttr? getAttrBy?; unfold getAttrBy
 refine wpAny_bind (wpAny_mkText (wpAny_bind (wpAny_attempt (wpAny_holding ?_))))
 refine wpAny_bind (l0.at (wpAny_bind (l1.at ?_)))
 simp only[hx1]
 show wpAny _ _ (getAttrByItsOwn _ _ _ _ _ _) _ _ _
 unfold getAttrByItsOwn hookBefore
 refine wpAny_bind ?_
 show wpAny _ _ (typeLookup (.ref D) "__getattr__") _ _ _
 refine l3.at ?_
 unfold callGetattribute boundAndCalled
 refine wpAny_bind (wpAny_attempt (wpAny_holding ?_))
 show wpAny _ _ (bindSpecial _ _ >>= _) _ _ _
 rw[f3]
 refine wpAny_bind (wpAny_pure ?_)
 refine wpAny_call (rF (s:=⟨hp,ge,dw,tt+1,oo⟩) c X p ?_)
 exact handed_on rfl (wpAny_pure h)
theorem nD (c:ExcCls K D):PySem.W.KitX K (.ref x) (.ref D) (ExcAt x D) where
 ty:=fun _ _ _ p=>p.ty
 it:=fun _ _ X _=>by
  obtain⟨cd,hc,_⟩:=PySem.W.any_some c.hd
  unfold PySem.W.clsIn at hc
  split at hc
  ·rename_i c' d' cd' sl' ho
   intro A' Q' E' s' k q
   unfold isType loadHead
   exact wpAny_bind (wpAny_loadPart (k _ _ (X _ _ ho)) (wpAny_pure q))
  ·cases hc
 ne:=fun h tp dd its n sl X htp=>by
  obtain⟨cd,hc,_⟩:=PySem.W.any_some c.hd
  refine Bool.eq_false_iff.mpr fun q=>?_
  have e:D=tp:=Value.ref.inj (beq_iff_eq.mp q)
  subst e
  unfold PySem.W.clsIn at hc
  split at hc
  ·rename_i c' d' cd' sl' ho
   have z:=(X _ _ ho).symm.trans htp
   cases z
  ·cases hc
 ca:=fun X p k=>nQ c X p k
end
end L2
namespace L2
open PySem PySem.Spec PyProof.Rows
structure Flt (P:Program) (w:World) (outer:List Env) (H:Hp) (s:Shared) (H':Hp) (B h:Heap):Prop where
 stays:B.StaysIn h
 frames:h.FunFrames B outer
 slot:∀ b o,s.heap.get? b=some o->H b=none->b ∈ frs outer->∃ sl,h.get? b=some { o with slots:=sl }
 free:∀ b o,s.heap.get? b=some o->H b=none->H' b=none
 tups:∀ b xs,H b=some (.tup xs)->H' b=some (.tup xs)
 frzs:∀ b o u,H b=some (.frz o u)->H' b=some (.frz o u)
 tbls:∀ b ps,H b=some (.tbl ps)->∃ more,H' b=some (.tbl (ps++more))
 kb:∀ b o,s.heap.get? b=some o->H b=none->b ∉ frs outer->B.get? b=some o
 tb:∀ b o,s.heap.get? b=some o->b ∉ frs outer->∃ o',B.get? b=some o'
 hok:HOk P w H' B
variable{H:Hp}
section
variable {P:Program}{w:World}{outer:List Env}{H H':Hp}{s:Shared}{B h h':Heap}
theorem Flt.un (f:Flt P w outer H s H' B h):Un (frs outer) [] H H' s.heap h where
 keep:=fun b o q n hb _=>f.stays b o (f.kb b o q n hb)
 slot:=fun b o q n hb _=>f.slot b o q n hb
 free:=fun b o q n _=>f.free b o q n
 there:=fun b o q _=>by
  by_cases hb:b ∈ frs outer
  ·obtain⟨_,o2,ho2,_⟩:=f.frames.mem hb
   exact⟨o2,ho2⟩
  ·obtain⟨o2,e2⟩:=f.tb b o q hb
   exact⟨o2,f.stays b o2 e2⟩
 tups:=f.tups
 frzs:=f.frzs
 tbls:=f.tbls
theorem Flt.ok (f:Flt P w outer H s H' B h):HOk P w H' h:=f.hok.kept f.stays
theorem Flt.next (f:Flt P w outer H s H' B h) (st:B.StaysIn h') (fr:h'.FunFrames B outer) (u:h.UpToSlots h'):Flt P w outer H s H' B h' :=
 ⟨st,fr,fun b o q n hb=>by
  obtain⟨sl,e1⟩:=f.slot b o q n hb
  obtain⟨_,o2,ho2,hnf⟩:=f.frames.mem hb
  rw[e1] at ho2
  cases ho2
  obtain⟨sl2,e2⟩:=u b _ e1 hnf
  exact⟨sl2,e2⟩,f.free,f.tups,f.frzs,f.tbls,f.kb,f.tb,f.hok⟩
theorem ObjOk.there {H:Hp}{a:Addr}{o:HO} (x:ObjOk P w H h a o):∃ ob,h.get? a=some ob:=by
 cases o with
 | lst xs=>obtain⟨_,_,_,_,e⟩:=x; exact⟨_,e⟩
 | tup xs=>obtain⟨_,_,_,o,e,_⟩:=x; exact⟨o,e⟩
 | dK kvs=>obtain⟨_,_,_,_,o,_,_,e,_⟩:=x; exact⟨o,e⟩
 | dT kvs=>obtain⟨_,_,_,_,o,_,_,e,_⟩:=x; exact⟨o,e⟩
 | set S n=>obtain⟨o,_,_,_,e,_⟩:=x; exact⟨o,e⟩
 | ins C dx fs=>obtain⟨_,_,_,e,_⟩:=x; exact⟨_,e⟩
 | own y=>exact x
 | xd fs=>obtain⟨_,⟨o,_,_,e,_⟩,_⟩:=x; exact⟨o,e⟩
 | rng lo hi=>obtain⟨_,_,_,e⟩:=x; exact⟨_,e⟩
 | frz ob u=>obtain⟨e,_⟩:=x; exact⟨_,e⟩
 | tbl ps=>exact⟨_,show h.get? a=some _ from x⟩
 | met f y=>exact⟨_,show h.get? a=some _ from x⟩
 | ext φ=>obtain⟨_,e,_⟩:=x; exact e
end
section
variable {X:Cx}{pins:List (Addr×Obj)}{σ:St}{H:Hp}{s:Shared}
theorem Inv.tracked {a:Addr}{u:HO} (I:Inv X pins σ H s) (hn:H a=none) (new:X.s₀.heap.get? a=none) (hL:a≠X.env.locals) (hc:∀ x c,X.env.cells.lookup x=some c->c≠a) (hp:∀ p ∈ X.pn++pins,p.1≠a)
  (ok:ObjOk X.prog X.w (upd H a u) s.heap a u):Inv X pins σ (upd H a u) s:=by
 have ne:∀ b o,H b=some o->b≠a:=fun b o e z=>by rw[z,hn] at e; cases e
 have nw:∀ b o,X.s₀.heap.get? b=some o->b≠a:=fun b o e z=>by rw[z,new] at e; cases e
 refine⟨I.ok,I.os,I.bare,⟨I.base.keep,I.base.slot,fun b o q n hx=>?_,I.base.there,fun b xs q=>?_,fun b o v q=>?_,fun b ps q=>?_⟩,I.loc,I.cell,?_,fun x c e=>?_,fun p h=>?_,fun b o e=>?_,I.len⟩
 ·rw[aw (nw b o q)]; exact I.base.free b o q n hx
 ·have e:=I.base.tups b xs q; rw[aw (ne b _ e)]; exact e
 ·have e:=I.base.frzs b o v q; rw[aw (ne b _ e)]; exact e
 ·obtain⟨m,e⟩:=I.base.tbls b ps q; exact⟨m,by rw[aw (ne b _ e)]; exact e⟩
 ·rw[aw (Ne.symm hL)]; exact I.free
 ·rw[aw (hc x c e)]; exact I.freeC x c e
 ·obtain⟨e1,e2,e3⟩:=I.pin p h
  exact⟨e1,by rw[aw (hp p h)]; exact e2,e3⟩
 ·by_cases hb:b=a
  ·subst hb; rw[bi] at e; cases e; exact ok
  ·rw[aw hb] at e
   exact(I.hok b o e).stay (fun _ _ _ q=>q) (fun c q=>by rw[aw (ne c _ q)]; exact q) fun c xs q=>by rw[aw (ne c _ q)]; exact q
theorem Inv.gone {i:Nat}{x:Str}{h':Heap}{v:Option Value}{m:Str->Option Value}{t:Nat} (I:Inv X pins σ H s) (hN:X.N.Nodup) (hi:X.N[i]?=some x)
  (hm:∀ (i:Nat) (x:Str) (v:V),X.N[i]?=some x->σ[i]?=some (some v)->Vis X.env.scope x->∃ u,RelV v u/\sF X.env s.heap m x u)
  (hn':h'.Ns X.env.locals (fun y=>if y=x then v else m y)) (hs:Heap.SameBut X.env.locals s.heap h'):Inv X pins (σ.set i none) H { s with heap:=h',toks:=t }:=by
 obtain⟨m0,⟨oL,es,ep,hoL,r0⟩,_⟩:=id I.loc
 have cne:=I.cne
 refine⟨I.ok,I.os,I.bare,⟨fun b o e n hb hx=>?_,fun b o e n hb hx=>?_,I.base.free,fun b o e hx=>?_,I.base.tups,I.base.frzs,I.base.tbls⟩,⟨_,hn',fun j y v' e1 e2 e3=>?_⟩,fun y c e=>?_,I.free,I.freeC,fun p hp=>?_,fun b ob e=>?_,by simpa using I.len⟩
 ·exact(hs.2 b (Nat.ne_of_lt (Nat.lt_of_lt_of_le (Heap.lt_size e) I.ok.above))).trans (I.base.keep b o e n hb hx)
 ·obtain⟨sl,e1⟩:=I.base.slot b o e n hb hx
  exact⟨sl,(hs.2 b (Nat.ne_of_lt (Nat.lt_of_lt_of_le (Heap.lt_size e) I.ok.above))).trans e1⟩
 ·obtain⟨o',e1⟩:=I.base.there b o e hx
  exact⟨o',(hs.2 b (Nat.ne_of_lt (Nat.lt_of_lt_of_le (Heap.lt_size e) I.ok.above))).trans e1⟩
 ·by_cases hj:j=i
  ·subst hj
   rw[List.getElem?_set] at e2
   split at e2
   ·split at e2 <;> cases e2
   ·exact absurd rfl ‹¬ j=j›
  ·rw[List.getElem?_set_ne (Ne.symm hj)] at e2
   obtain⟨u',r',q⟩:=hm j y v' e1 e2 e3
   refine⟨u',r',?_⟩
   rcases q with ⟨k,e⟩ | ⟨k,c,e,z⟩
   ·refine .inl ⟨k,?_⟩
    have:y≠x:=fun e=>hj (fS hN e1 (e ▸ hi))
    simp[this,e]
   ·exact .inr ⟨k,c,e,z.sameBut hs (cne y c e)⟩
 ·obtain⟨w',z⟩:=I.cell y c e
  exact⟨w',z.sameBut hs (cne y c e)⟩
 ·obtain⟨e,n,ne,nf,d⟩:=I.pin p hp
  exact⟨(hs.2 p.1 ne).trans e,n,ne,nf,d⟩
 ·refine(I.hok b ob e).stay (fun c w' hc q=>(hs.2 c ?_).trans q) (fun _ q=>q) fun _ _ q=>q
  rintro rfl
  rcases hc with rfl | hc
  ·rw[I.free] at e; cases e
  ·rw[I.free] at hc; cases hc
end
noncomputable abbrev Cx.marked (X:Cx) (e:Addr):Cx:={ X with A:=X.A.mark (some (.ref e)),calm:=false,xe:=fun _ _=>False }
variable{pins:List (Addr×Obj)}{X:Cx}{σ:St}
theorem Inv.mark {s:Shared} (I:Inv X pins σ H s) (e:Addr):Inv (X.marked e) pins σ H s :=
 ⟨⟨I.ok.mod,I.ok.kind,I.ok.glob,I.ok.blt,I.ok.above,I.ok.inj,I.ok.has,I.ok.cab,fun z=>Bool.noConfusion z,I.ok.frames,I.ok.stk,I.ok.exf,I.ok.bs,I.ok.bsz,I.ok.noex,I.ok.exfs,I.ok.funs,I.ok.frf⟩,I.os,I.bare,I.base,I.loc,I.cell,I.free,I.freeC,I.pin,I.hok,I.len⟩
theorem Inv.unmark {s s0:Shared}{pins0:List (Addr×Obj)}{σ0:St}{H0:Hp}{e:Addr} (I:Inv (X.marked e) pins σ H s) (I0:Inv X pins0 σ0 H0 s0):Inv X pins σ H s :=
 ⟨I0.ok,I.os,I.bare,I.base,I.loc,I.cell,I.free,I.freeC,I.pin,I.hok,I.len⟩
structure RoomQ (k:Nat) (A:Around):Prop where
 dp:A.depth+3*k+5<recursionLimit
 un:A.units+16*k+200<cLine
theorem Room.qm {k:Nat}{A:Around} (r:Room k A) (e:Value):RoomQ k (A.mark (some e)):=⟨r.dp,r.un⟩
theorem RoomQ.deeper {k:Nat}{A:Around} (r:RoomQ (k+1) A) (env:Env):RoomQ k (A.deeper env) :=
 ⟨by have:=r.dp; show A.depth+1+3*k+5<_; omega,by have:=r.un; show A.units+3+16*k+200<_; omega⟩
structure FnOkQ (P:Program) (w:World) (K:PySem.W.Frag) (mg:Str->Option Value) (base:Heap) (k:Nat) (f:Addr) (fd:FuncData) (ps:List Str) (sp:Sp):Prop where
 len:∀ vs H Q E,sp vs H Q E->vs.length=ps.length
 run:∀ (A:Around) (outer:List Env) (s:Shared) (H:Hp) (args:Args) (us:List Value) (vs:List V) (Q:VK) (E:XK),RoomQ k A->Env0 P w K mg base A outer s H->BindsTo s fd args (ps.zip us)->Vals vs us->sp vs H Q E ->
  codeAny (model P w) A (.call (.ref f) args) (CR CX0 outer P w H s Q E) s
noncomputable def kY (P:Program) (w:World) (K:PySem.W.Frag) (mg:Str->Option Value) (base:Heap) (N:List Str) (qual:Str) (scope:Scope) (f:Addr) (cd:Value) (A:Around) (outer:List Env) (s:Shared) (H:Hp) (E:XK):Cx :=
 { cP CX0 P w K mg base N qual scope f cd A outer s H E with calm:=false,xe:=fun _ _=>False }
variable{K:PySem.W.Frag}
theorem rD {P:Program}{w:World}{mg:Str->Option Value}{base:Heap}{k:Nat}{f:Addr}{name qual:Str}{params:Arguments}{body:List Stmt}{scope:Scope}{dV kV doc pm cdv ct oc:Value}{an od:Option Addr}
  {osl:Array (Option Value)}{N ps:List Str}{sp:Sp} (lk:K.lookup f=some ⟨oc,od,.func (W.fnOf name qual params body scope dV kV doc pm an cdv ct),osl⟩) (hcd:W.codeIn K cdv qual=true) (S:FnScope N ps scope)
  (len:∀ vs H Q E,sp vs H Q E->vs.length=ps.length)
  (hbody:∀ (A:Around) (outer:List Env) (s:Shared) (H:Hp) (vs:List V) (Q:VK) (E:XK),RoomQ k (A.deeper (envOfC qual scope s.heap.objs.size f cdv))->sp vs H Q E ->
   ∃ t,PSs (kY P w K mg base N qual scope f cdv A outer s H E) body t/\t { nx:=fun _ H'=>Q .non H',rt:=Q } (start N vs) H) :
  FnOkQ P w K mg base (k+1) f (W.fnOf name qual params body scope dV kV doc pm an cdv ct) ps sp:=by
 refine⟨len,fun A outer s H args us vs Q E hr e0 hb r hsp=>?_⟩
 have hl:=len _ _ _ _ hsp
 have KX:K.In s.heap:=e0.mod.kin.keeps fun b o e=>(e0.bs b o e).1
 have lim:s.heap.NoLimit:=e0.mod.nolimit.keeps fun b o e=>(e0.bs b o e).1
 have hkind:∀ y ∈ ps.zip us,scope.names.lookup y.1=some .local∨(scope.names.lookup y.1=some .cell/\((cellsFrom (s.heap.objs.size+1) scope.names []).lookup y.1).isSome=true):=fun⟨n,v⟩ hy=>by
  rcases S.par n (List.of_mem_zip hy).1 with q | q
  ·exact .inl q
  ·exact .inr ⟨q,PySem.W.cellsFrom_some _ _ _ (.inl q)⟩
 have hdp:A.depth<recursionLimit:=by have:=hr.dp; omega
 refine codeAny_call_function hdp (KX _ _ lk) rfl S.co S.gen rfl (PySem.W.codeRec_of KX hcd) (hb _ _ _ _ ?_)
 refine wpAny_newFunctionEnv_cells S.kind hkind fun env he s1 x=>?_
 subst he
 refine⟨lim.keeps x.toInCall.keep,codeAny_func ?_⟩
 obtain⟨t,ht,hq⟩:=hbody A outer s H vs Q E (hr.deeper _) hsp
 have e1:Env0 P w K mg base { A with handled:=none } outer s H:=⟨e0.frames,e0.mod,e0.bs,e0.bsz,e0.funs,e0.frf,e0.hok,e0.bare⟩
 have I0:Inv (cP CX0 P w K mg base N qual scope f cdv { A with handled:=none } outer s H E) [] (start N vs) H s1:=eI S rfl e1 hl r x
 have I:Inv (kY P w K mg base N qual scope f cdv A outer s H E) [] (start N vs) H s1 :=
  ⟨⟨I0.ok.mod,I0.ok.kind,I0.ok.glob,I0.ok.blt,I0.ok.above,I0.ok.inj,I0.ok.has,I0.ok.cab,fun z=>Bool.noConfusion z,Around.frames_deeper e0.frames,I0.ok.stk,I0.ok.exf,I0.ok.bs,I0.ok.bsz,I0.ok.noex,I0.ok.exfs,I0.ok.funs,I0.ok.frf⟩,I0.os,I0.bare,I0.base,I0.loc,I0.cell,I0.free,I0.freeC,I0.pin,I0.hok,I0.len⟩
 refine wpAny_mono (ht [] s1 (start N vs) H _ I hq) (fun fl s' hs=>?_) fun e s' hs=>False.elim hs
 have fin:∀ {σ':St}{H':Hp}{v:V}{u:Value},Inv (kY P w K mg base N qual scope f cdv A outer s H E) [] σ' H' s'->RelV v u->Q v H'->CE outer P w H s Q u s' :=
  fun {σ' H' v u} J rv q=>⟨v,H',J.os,J.bare,J.base,J.hok,rv,q⟩
 cases fl with
 | ret u=>
  obtain⟨v,σ',H',J,rv,q⟩:=hs
  exact fin J rv q
 | next=>
  obtain⟨σ',H',J,q⟩:=hs
  exact fin (v:=V.non) (u:=Value.none) J rfl q
 | brk=>
  obtain⟨_,_,_,q⟩:=hs
  exact False.elim q
 | cont=>
  obtain⟨_,_,_,q⟩:=hs
  exact False.elim q
section
variable {X:Cx}{k:Nat}{f:Addr}{fd:FuncData}{ps:List Str}{sp:Sp}{x:Str}{p pos:Pos}{e:Expr}{es:List Expr}{t:TA}
theorem mU (F:FnOkQ X.prog X.w X.K X.mg X.base k f fd ps sp) (hr:RoomQ k X.A) (hg:Gl X x) (hm:X.mg x=some (.ref f)) (hk:W.keepIn X.K (.ref f)=true) (hb:Binds X.K fd ps [])
  (ha:PA X (e::es) t) (hdb:(x == ("__debug__" : Str))=false:=by decide) (he:starEach (e::es) X.env=(false,eval e X.env)::starEach es X.env:=by rfl) (hpl:(backTo pos (starEach es X.env)).any (·.1)=false:=by rfl) :
  PE X (.Call (.Name x p) (e::es) [] pos) (fun σ H Q=>t σ H fun vs H1=>sp vs H1 Q E0):=by
 intro pins s σ H Q I h
 refine wpAny_Call_Name_kw (cV I hg hm ?_ hdb)
 refine PySem.W.callWith_K (h₀:=X.base) I.ok.mod.kin hk (thn (ha pos pins s σ H _ I h) fun us s1 ⟨vs,H1,I1,r,q⟩=>⟨I1.kIn,?_⟩) he hpl
 have hl:us.length=ps.length:=by rw[<- r.length]; exact F.len _ _ _ _ q
 have hb1:=hb s1 us I1.kIn (by rw[tG]; exact hl)
 rw[tG] at hb1
 refine wpAny_call (codeAny_mono (F.run X.A X.stack s1 H1 ⟨us,[]⟩ us vs Q E0 hr I1.env0 hb1 r q) fun r s' hq=>?_)
 cases r with
 | error e=>exact False.elim hq
 | ok fl=>
  cases fl with
  | ret u=>exact I1.after hq
  | next=>exact False.elim hq
  | brk=>exact False.elim hq
  | cont=>exact False.elim hq
noncomputable def pq:V->Value
 | .ref a=>.ref a
 | .ty n=>.type n
 | _=>.none
theorem aI:cq X (.builtin "isinstance") (fun xs H Q=>∃ (a D:Addr) (c:V) (b:Bool),xs=[V.ref a,c]/\(∃ z,c=.ref z∨∃ n,c=.ty n)/\H a=some (.ext (ExcAt a D))/\ExcCls X.K D/\PySem.W.kitOne X.K (.ref D) (pq c)=some b/\Q (.bl b) H):=by
 intro pins s σ H xs us Q I r h
 obtain⟨a,D,c,b,rfl,hc,ha,ec,ek,q⟩:=h
 obtain⟨u1,u2,rfl,r1,r2⟩:=gK r
 cases (show u1=Value.ref a from r1)
 have e2:u2=pq c:=by
  rcases hc with ⟨z,rfl | ⟨n,rfl⟩⟩
  ·exact r2
  ·exact r2
 subst e2
 obtain⟨hx,_,_⟩:=(show ObjOk X.prog X.w H s.heap a (.ext (ExcAt a D)) from I.hok a _ ha)
 exact PySem.W.kia_one (nD ec) I.kIn hx ek (fun z=>nomatch z) fun tk=>⟨.bl b,H,I.tok _,U,q⟩
end
structure Deed (P:Program) (w:World) (K:PySem.W.Frag) (mg:Str->Option Value) (base:Heap) (k:Nat) (s:Shared) (H:Hp) (outer:List Env) (g:Addr) (sp:Hp->VK->XK->Prop):Prop where
 fn:PySem.W.FnAt g s.heap
 un:H g=none
 nf:g ∉ frs outer
 run:∀ (A':Around) (outer':List Env) (s':Shared) (H':Hp) (Q:VK) (E:XK),Room k A'->Env0 P w K mg base A' outer' s' H' ->
  (∀ b o,s.heap.get? b=some o->H b=none->b ∉ frs outer->s'.heap.get? b=some o/\H' b=none)->(∀ b o u,H b=some (.frz o u)->H' b=some (.frz o u))->sp H' Q E->codeAny (model P w) A' (.call (.ref g) ⟨[],[]⟩) (CR (CXr P w) outer' P w H' s' Q E) s'
noncomputable def sTry (K:PySem.W.Frag) (g R:Addr) (i j:Nat) (sp:Hp->VK->XK->Prop) (tb:TS):TS:=fun D σ H=>σ[i]?=some (some (.ref g))/\∃ E:XK,sp H (fun _ H1=>D.nx σ H1) E /\
 ∀ C a H1,E C (some a) H1->H1 a=none->∃ Ca,C=.ref Ca/\PySem.W.exmOne K (.ref Ca) (.ref R)=some true /\
  tb { nx:=fun σ' H2=>D.nx (σ'.set j none) H2,rt:=fun _ _=>False } (σ.set j (some (.ref a))) (upd H1 a (.ext (ExcAt a Ca)))
theorem qB {k i j:Nat}{g R:Addr}{sp:Hp->VK->XK->Prop}{x c en:Str}{np cp ep cp2 hp tp:Pos}{b₀:Stmt}{suite:List Stmt}{tb:TS}
  (hd:Deed X.prog X.w X.K X.mg X.base k X.s₀ X.H₀ X.outer g sp) (hr:Room k X.A) (hex:X.ex=[]) (hstk:X.stack=X.env::X.outer) (hfr:X.env.frame=some X.env.locals)
  (hx:PE X.nox (.Name x np) (fF i)) (hcg:Gl X c) (hcm:X.mg c=some (.ref R)) (hN:X.N.Nodup) (hj:X.N[j]?=some en) (hlj:X.env.scope.names.lookup en=some .local) (hs:∀ e,PSs (X.marked e) (b₀::suite) tb)
  (hdb:(c == ("__debug__" : Str))=false:=by decide) (hsw:swapsWith (.Call (.Name x np) [] [] cp) none ep.line X.env=pure false:=by rfl) :
  PS X (.Try [.Expr (.Call (.Name x np) [] [] cp) ep] [.ExceptHandler (some (.Name c cp2)) (some en) (b₀::suite) hp] [] [] tp) (sTry X.K g R i j sp tb):=by
 intro pins s σ H D I ⟨hg,E,hsp,hE⟩
 refine wpAny_Try_except (wpAny_execs_cons (wpAny_Expr_any (wpAny_Call_Name_kw ?_) I.quiet hsw))
 refine wpAny_mono (hx pins s σ H (fun v H1=>v=.ref g/\H1=H) (I.wish _) ⟨.ref g,hg,U,U⟩) (fun u s1 ⟨v,H1,I1,r1,ev,eH⟩=>?_) fun _ _ z=>False.elim z
 subst ev; subst eH
 obtain rfl:u=Value.ref g:=r1
 have I1:Inv X pins σ H1 s1:=I1.unwish
 have keep:∀ b o,X.s₀.heap.get? b=some o->X.H₀ b=none->b ∉ frs X.outer->s1.heap.get? b=some o/\H1 b=none:=fun b o q n hb=>
  ⟨I1.base.keep b o q n hb (by rw[hex]; exact fun z=>nomatch z),I1.base.free b o q n (by rw[hex]; exact fun z=>nomatch z)⟩
 have hfa:PySem.W.FnAt g s1.heap:=by
  obtain⟨oc,od,fd,sl,e⟩:=hd.fn
  exact⟨oc,od,fd,sl,(keep g _ e hd.un hd.nf).1⟩
 refine PySem.W.callWith_F0 hfa (wpAny_call (codeAny_mono (hd.run X.A X.stack s1 H1 _ E hr I1.env0 keep I1.base.frzs hsp) fun r s' hq=>?_))
 cases r with
 | ok fl=>
  cases fl with
  | ret u=>
   obtain⟨v,H2,I2,rv,q⟩:=I1.after hq
   exact wpAny_execs_nil (wpAny_execs_nil ⟨σ,H2,I2,q⟩)
  | next=>exact False.elim hq
  | brk=>exact False.elim hq
  | cont=>exact False.elim hq
 | error e=>
  obtain⟨a,C,a0,H',B,rfl,fl,os,bare,un,kb,tb',hok,hEq⟩:=hq
  have nox:∀ b:Addr,b ∉ ([]:List Addr):=fun b z=>nomatch z
  have f0:Flt X.prog X.w X.stack H1 s1 H' B s'.heap:=⟨fl.1,fl.2.2.1,fun b o q n hb=>un.slot b o q n hb (nox b),fun b o q n=>un.free b o q n (nox b),un.tups,un.frzs,un.tbls,kb,tb',hok⟩
  have hAf:X.A.frames=some (X.env::X.outer):=by rw[<- hstk]; exact I.ok.frames
  rw[hstk] at fl
  refine wpAny_looks_onW hAf hfr fl fun h2 held u2=>?_
  have f2:=f0.next held.1 (by rw[hstk]; exact held.2.2.1) u2
  refine wpAny_landsW held fun h3 fl3 u3=>?_
  have f3:=f2.next fl3.1 (by rw[hstk]; exact fl3.2.2.1) u3
  have hna:H' a=none:=by
   cases q:H' a with
   | none=>rfl
   | some o=>
    obtain⟨ob,e⟩:=ObjOk.there (hok a o q)
    rw[fl3.2.1] at e; cases e
  obtain⟨Ca,rfl,hex2,hq⟩:=hE C a H' hEq hna
  have I3:Inv X pins σ H' { s' with heap:=h3 }:=I1.call' (s':={ s' with heap:=h3 }) (ch:=[]) os f3.un f3.ok bare fun b z=>absurd z (nox b)
  have xAt:∀ {h:Heap},Heap.FlyingW B (X.env::X.outer) a (.ref Ca) a0 h->ExcAt a Ca h:=fun {h} z=>by
   obtain⟨oe,vs,e1,e2,e3,_⟩:=z.first
   exact⟨oe,vs,e1,e2,e3⟩
  refine wpAny_handleBy_cons (codeAny_handlers_test ?_) (by intro q; cases q)
  refine cV (X:=X.marked a) (I3.mark a) hcg hcm ?_ hdb
  refine(PySem.W.exm_one (I3.kIn) (xAt fl3).ty hex2).here ?_
  refine codeAny_handlers_suite_as ?_
  refine wpAny_setFlight_noneW fl3.1 fl3.2.2.1 fl3.2.2.2 fun h4 k1 k2 k3 k4=>?_
  have fl4:Heap.FlyingW B (X.env::X.outer) a (.ref Ca) a0 h4:=⟨k1,fl3.2.1,k2,k3⟩
  have f4:=f3.next k1 (by rw[hstk]; exact k2) fun b o hb hn=>⟨o.slots,k4 b o hb hn⟩
  have I4:Inv X pins σ H' { s' with heap:=h4 }:=I1.call' (s':={ s' with heap:=h4 }) (ch:=[]) os f4.un f4.ok bare fun b z=>absurd z (nox b)
  obtain⟨ox,vx,ex1,ex2,ex3⟩:=xAt fl4
  have nfrm:a ∉ frs X.stack:=fun z=>by
   obtain⟨_,o,ho,hnf⟩:=f4.frames.mem z
   rw[ex1] at ho; cases ho
   exact hnf vx ex3
  have old:∀ b o,s1.heap.get? b=some o->b≠a:=fun b o q z=>by
   subst z
   obtain⟨o',e'⟩:=tb' b o q nfrm
   rw[fl3.2.1] at e'; cases e'
  have I5:Inv X pins σ (upd H' a (.ext (ExcAt a Ca))) { s' with heap:=h4 }:=by
   refine I4.tracked hna ?_ ?_ ?_ ?_ ⟨xAt fl4,⟨ox,ex1⟩,fun ha hb ⟨o,vs,y1,y2,y3⟩ kp=>⟨o,vs,kp o y1,y2,y3⟩⟩
   ·cases q:X.s₀.heap.get? a with
    | none=>rfl
    | some o=>
     obtain⟨o',e'⟩:=I1.base.there a o q (by rw[hex]; exact nox a)
     exact absurd rfl (old a o' e')
   ·obtain⟨m,⟨oL,_,_,hoL,_⟩,_⟩:=I1.loc
    exact Ne.symm (old _ _ hoL)
   ·intro y cc ec
    obtain⟨v,o,ho,_⟩:=I1.cell y cc ec
    exact old _ _ ho
   ·intro p hp
    exact old _ _ (I1.pin p hp).1
  refine fH (X:=X.marked a) (i:=j) (v:=.ref a) (I5.mark a) hN hj (.inl hlj) rfl (fun s5 I6=>?_) (.inr hlj)
  refine wpAny_mono (hs a pins s5 (σ.set j (some (.ref a))) _ _ I6 hq) (fun f s6 z=>?_) fun _ _ z=>False.elim z
  cases f with
  | next=>
   obtain⟨σ',H2,I7,q⟩:=z
   have I7:Inv X pins σ' H2 s6:=I7.unmark I
   obtain⟨m,hn,hm⟩:=id I7.loc
   refine wpAny_nameGoes_keeps hlj hn (by rw[I.ok.kind]; rfl) fun h' v hn' hs'=>?_
   exact⟨σ'.set j none,H2,I7.gone hN hj hm hn' hs',q⟩
  | ret u=>obtain⟨_,_,_,_,_,q⟩:=z; exact False.elim q
  | brk=>obtain⟨_,_,_,q⟩:=z; exact False.elim q
  | cont=>obtain⟨_,_,_,q⟩:=z; exact False.elim q
theorem passG {X:Cx}{E:XK} (hstk:X.stack=X.env::X.outer) (hfr:X.env.frame=some X.env.locals) (hex:X.ex=[]) {s:Shared}{e:Value}{s':Shared} (I:Inv X pins σ H s)
  (h:CXr X.prog X.w X.stack H s E e s') {E1:Value->Shared->Prop}:wpAny (model X.prog X.w) X.A (leaving X.env e) (fun _ s''=>CXr X.prog X.w X.outer X.H₀ X.s₀ E e s'') E1 s':=by
 obtain⟨a,C,a0,H',B,rfl,fl,os,bare,un,kb,tb,hok,hE⟩:=h
 have nox:∀ b:Addr,b ∉ ([]:List Addr):=fun b z=>nomatch z
 have nxx:∀ b:Addr,b ∉ X.ex:=fun b=>by rw[hex]; exact nox b
 have f0:Flt X.prog X.w X.stack H s H' B s'.heap:=⟨fl.1,fl.2.2.1,fun b o q n hb=>un.slot b o q n hb (nox b),fun b o q n=>un.free b o q n (nox b),un.tups,un.frzs,un.tbls,kb,tb,hok⟩
 have hAf:X.A.frames=some (X.env::X.outer):=by rw[<- hstk]; exact I.ok.frames
 have sfr:frs X.stack=X.env.locals::frs X.outer:=by rw[hstk]; unfold frs; rw[List.filterMap_cons,hfr]
 have nfr:∀ b o,X.s₀.heap.get? b=some o->b ∉ frs X.outer->b ∉ frs X.stack:=fun b o eb hb z=>by
  rw[sfr] at z
  rcases sR.mp z with z | z
  ·exact absurd (Nat.lt_of_lt_of_le (Heap.lt_size eb) I.ok.above) (by rw[z]; exact Nat.lt_irrefl _)
  ·exact hb z
 rw[hstk] at fl
 refine wpAny_leaves_onW hAf hfr fl fun h' fl' ups=>?_
 refine⟨a,C,a0,H',B,U,fl',os.trans I.os,bare,⟨fun b o q n hb _=>?_,fun b o q n hb hx=>?_,fun b o q n hx=>?_,fun b o q hx=>?_,fun b xs q=>un.tups b xs (I.base.tups b xs q),fun b o u q=>un.frzs b o u (I.base.frzs b o u q),fun b ps q=>?_⟩,fun b o q n hb=>?_,fun b o q hb=>?_,hok,hE⟩
 ·exact fl'.1 b o (kb b o (I.base.keep b o q n hb (nxx b)) (I.base.free b o q n (nxx b)) (nfr b o q hb))
 ·obtain⟨sl,e1⟩:=I.base.slot b o q n hb (nxx b)
  obtain⟨sl2,e2⟩:=un.slot b _ e1 (I.base.free b o q n (nxx b)) (by rw[sfr]; exact sH _ hb) (nox b)
  obtain⟨_,o2,ho2,hnf⟩:=f0.frames.mem (show b ∈ frs X.stack by rw[sfr]; exact sH _ hb)
  rw[e2] at ho2
  cases ho2
  obtain⟨sl3,e3⟩:=ups b _ e2 hnf
  exact⟨sl3,e3⟩
 ·obtain⟨sl,e1⟩:=I.base.any q n (nxx b)
  exact un.free b _ e1 (I.base.free b o q n (nxx b)) (nox b)
 ·obtain⟨o1,e1⟩:=I.base.there b o q (nxx b)
  by_cases hb:b ∈ frs X.stack
  ·obtain⟨_,o2,ho2,hnf⟩:=f0.frames.mem hb
   obtain⟨sl2,e2⟩:=ups b _ ho2 hnf
   exact⟨_,e2⟩
  ·obtain⟨o2,e2⟩:=tb b o1 e1 hb
   exact⟨o2,fl'.1 b o2 e2⟩
 ·obtain⟨more,e1⟩:=I.base.tbls b ps q
  obtain⟨more2,e2⟩:=un.tbls b _ e1
  exact⟨more++more2,by rw[<- Array.append_assoc]; exact e2⟩
 ·exact kb b o (I.base.keep b o q n hb (nxx b)) (I.base.free b o q n (nxx b)) (nfr b o q hb)
 ·obtain⟨o1,e1⟩:=I.base.there b o q (nxx b)
  exact tb b o1 e1 (nfr b o q hb)
noncomputable def jF (P:Program) (w:World) (K:PySem.W.Frag) (mg:Str->Option Value) (base:Heap) (N:List Str) (qual:Str) (scope:Scope) (g:Addr) (cd:Value) (cl:List (Str×Addr)) (A:Around) (outer:List Env) (s:Shared) (H:Hp) (E:XK):Cx where
 prog:=P
 w:=w
 K:=K
 mg:=mg
 base:=base
 A:=A.deeper (PySem.W.envX qual scope s.heap.objs.size g cd cl)
 N:=N
 s₀:=s
 H₀:=H
 env:=PySem.W.envX qual scope s.heap.objs.size g cd cl
 outer:=outer
 stack:=PySem.W.envX qual scope s.heap.objs.size g cd cl::outer
 ex:=[]
 calm:=true
 fn:=fun _=>false
 pn:=[]
 xe:=fun e s'=>wpAny (model P w) (A.deeper (PySem.W.envX qual scope s.heap.objs.size g cd cl)) (leaving (PySem.W.envX qual scope s.heap.objs.size g cd cl) e) (fun _ s''=>CXr P w outer H s E e s'') (fun e' s''=>CXr P w outer H s E e' s'') s'
theorem mV {P:Program}{w:World}{mg:Str->Option Value}{base:Heap}{N:List Str}{qual:Str}{scope:Scope}{g:Addr}{cd:Value}{cl:List (Str×Addr)}{A:Around}{outer:List Env}{s:Shared}{E:XK} :
  cI (CXr P w) (jF P w K mg base N qual scope g cd cl A outer s H E) E:=fun pins σ H1 s1 e s' I h=>passG (X:=jF P w K mg base N qual scope g cd cl A outer s H E) rfl rfl rfl I h
structure LamAt (h:Heap) (H:Hp) (fs:List Addr) (N:List Str) (σ:St) (qual:Str) (params:Arguments) (body:Expr) (scope:Scope) (cl:List (Str×Addr)) (g c':Addr):Prop where
 fn:∃ pm ctv,h.get? g=some (PySem.W.kla_obj "<lambda>" qual params body scope cl pm c' ctv)
 gn:H g=none/\g ∉ fs
 code:∃ o vs t,H c'=some (.frz o (.own 0))/\o.data=.fields vs/\vs[1]?=some (.str qual t)
 cells:∀ x c,cl.lookup x=some c->(∃ v,h.IsCell c v)/\H c=none/\c ∉ fs
 vals:∀ (i:Nat) (x:Str) (v:V),N[i]?=some x->σ[i]?=some (some v)->∃ u c,RelV v u/\cl.lookup x=some c/\h.IsCell c (some u)
theorem nV {P:Program}{w:World}{K:PySem.W.Frag}{mg:Str->Option Value}{base:Heap}{k:Nat}{s:Shared}{outer:List Env}{g c':Addr}{N:List Str}{qual:Str}{params:Arguments}{body:Expr}{scope:Scope}{cl:List (Str×Addr)}{tb:XK->TE}
  (L:LamAt s.heap H (frs outer) N σ qual params body scope cl g c') (hl:σ.length=N.length) (hk:scope.kind=.function) (hco:scope.isCoroutine=false) (hgen:scope.isGenerator=false) (hcell:∀ x ∈ scope.names,x.2≠.cell)
  (hfree:∀ x:Str,scope.names.lookup x=some .free->∃ c,cl.lookup x=some c) (hN:∀ x ∈ N,scope.names.lookup x=some .free) (hinj:∀ x y c,cl.lookup x=some c->cl.lookup y=some c->x=y)
  (hbind:∀ (pm cd ctv:Value),bindArgs (PySem.W.kla_fn "<lambda>" qual params body scope cl pm cd ctv) ⟨[],[]⟩=pure [])
  (hbody:∀ (A:Around) (outer:List Env) (s:Shared) (H:Hp) (E:XK),Room k (A.deeper (PySem.W.envX qual scope s.heap.objs.size g (.ref c') cl))->PE (jF P w K mg base N qual scope g (.ref c') cl A outer s H E) body (tb E)) :
  Deed P w K mg base (k+1) s H outer g (fun H1 Q E=>tb E σ H1 Q):=by
 obtain⟨pm,ctv,hg⟩:=L.fn
 refine⟨⟨_,_,_,_,hg⟩,L.gn.1,L.gn.2,fun A' outer' s' H' Q E hr e0 keep kfrz hq=>?_⟩
 have hg':=(keep g _ hg L.gn.1 L.gn.2).1
 have lim:s'.heap.NoLimit:=e0.mod.nolimit.keeps fun b o e=>(e0.bs b o e).1
 obtain⟨oc,vs,t,h1,h2,h3⟩:=L.code
 have hcode:s'.heap.CodeRec (.ref c') qual:=by
  obtain⟨e1,_⟩:=e0.hok c' _ (kfrz c' oc _ h1)
  exact⟨c',oc,vs,t,U,e1,h2,h3⟩
 refine PySem.W.kla_callFunE hr.depth hg' rfl hco hgen rfl hcode ?_
 rw[hbind]
 refine wpAny_pure (wpAny_newFunctionEnv hcell (fun _ z=>nomatch z) (fun h₁ hns hsb=>?_) hk)
 have hk₁:∀ b o,s'.heap.get? b=some o->h₁.get? b=some o:=fun b o e=>(hsb.2 b (Nat.ne_of_lt (Heap.lt_size e))).trans (Heap.get?_push_of_some _ e)
 refine⟨lim.keeps hk₁,?_⟩
 show codeAny _ _ (.expr body (PySem.W.envX qual scope s'.heap.objs.size g (.ref c') cl)) _ _
 have hcl:∀ x c,cl.lookup x=some c->(∃ v,s'.heap.IsCell c v)/\H' c=none:=fun x c e=>by
  obtain⟨⟨v,o,ho,hv⟩,n,nf⟩:=L.cells x c e
  obtain⟨k1,k2⟩:=keep c o ho n nf
  exact⟨⟨v,o,k1,hv⟩,k2⟩
 have I:Inv (jF P w K mg base N qual scope g (.ref c') cl A' outer' s' H' E) [] σ H' { s' with heap:=h₁,toks:=s'.toks+0 }:=by
  refine⟨⟨e0.mod,hk,U,U,Nat.le_refl _,hinj,fun y hy=>?_,fun y c z=>Bool.noConfusion z,fun _=>hr.hd,Around.frames_deeper e0.frames,.inr ⟨U,U⟩,(fun b z=>nomatch z),e0.bs,e0.bsz,(fun b _ _ z=>nomatch z),(fun b z=>nomatch z),e0.funs,e0.frf⟩,
   rfl,e0.bare,Un.kept hk₁,⟨_,hns,fun i y v h1 h2 h3=>?_⟩,fun y c h=>?_,e0.hok.fresh (Nat.le_refl _),fun y c h=>(hcl y c h).2,(fun p hp=>nomatch hp),e0.hok.kept hk₁,hl⟩
  ·have hy:scope.names.lookup y=some .cell∨scope.names.lookup y=some .free:=hy
   rcases hy with hy | hy
   ·exact absurd rfl (hcell _ (PySem.mem_of_lookup hy))
   ·exact hfree y hy
  ·obtain⟨u,c,r,e,o,ho,hv⟩:=L.vals i y v h1 h2
   refine⟨u,r,.inr ⟨.inr (hN y (sL h1)),c,e,?_⟩⟩
   obtain⟨_,n,nf⟩:=L.cells y c e
   exact⟨o,hk₁ _ _ (keep c o ho n nf).1,hv⟩
  ·obtain⟨⟨v,z⟩,_⟩:=hcl y c h
   exact⟨v,z.keeps hk₁⟩
 refine PySem.W.kla_codeExpr (wpAny_mono (hbody A' outer' s' H' E (hr.deeper _) [] _ σ H' Q I hq) (fun u s2 ⟨v,H2,J,r,q⟩=>?_) fun e s2 z=>z)
 exact⟨v,H2,J.os,J.bare,J.base,J.hok,r,q⟩
noncomputable def BM (base:Heap) (mg:Str->Option Value):Prop:=∃ bm ob,mg "__builtins__" = some (.ref bm)/\bm≠builtinsNs/\base.get? bm=some ob/\ob.cls=.type "module" /\ ob.dict=some builtinsNs/\ob.data=.plain
structure RefOk (P:Program) (w:World) (K:PySem.W.Frag) (mg:Str->Option Value) (base:Heap) (k kd:Nat) (f:Addr) (rs:(Hp->VK->XK->Prop)->Hp->VK->Prop):Prop where
 run:∀ (A:Around) (outer:List Env) (s:Shared) (H:Hp) (g:Addr) (spD:Hp->VK->XK->Prop) (Q:VK),Room k A->Env0 P w K mg base A outer s H->Deed P w K mg base kd s H outer g spD->rs spD H Q ->
  codeAny (model P w) A (.call (.ref f) ⟨[.ref g],[]⟩) (CR CX0 outer P w H s Q E0) s
noncomputable def rT (Pt:Addr) (qual:Str) (lpos:Pos) (js:List Nat) (rs:(Hp->VK->XK->Prop)->Hp->VK->Prop) (tb:XK->TE):TE:=fun σ H Q=>∃ ps:Array Value,H Pt=some (.tbl ps)/\TriplesOk ps.toList /\
 ((codeAmong lpos ps.toList=none/\∀ (c':Addr) (oc:Obj) (vs:Array Value) (t:Tok),H c'=none->oc.data=.fields vs->vs[1]?=some (.str qual t) ->
   rs (fun H1 Q1 E1=>tb E1 (js.map fun j=>(σ[j]?).join) H1 Q1) (upd (upd H Pt (.tbl (ps++#[rawInt lpos.line,rawInt lpos.col,.ref c']))) c' (.frz oc (.own 0))) Q) ∨
  ∃ (c':Addr) (oc:Obj) (vs:Array Value) (t:Tok),codeAmong lpos ps.toList=some (.ref c')/\H c'=some (.frz oc (.own 0))/\oc.data=.fields vs/\vs[1]?=some (.str qual t)/\rs (fun H1 Q1 E1=>tb E1 (js.map fun j=>(σ[j]?).join) H1 Q1) H Q)
section
variable {X:Cx}{pins:List (Addr×Obj)}{σ:St}{H:Hp}{s:Shared}{c Pt:Addr}{ps:Array Value}{params:Arguments}{body:Expr}{scope:Scope}{lpos:Pos}{clos:List (Str×Addr)}{Q:Value->Shared->Prop}{E:Value->Shared->Prop}
theorem nB (I:Inv X pins σ H s) (hbm:BM X.base X.mg) (hP:H Pt=some (.tbl ps)):s.heap.BuiltinsAt X.mg Pt:=by
 obtain⟨bm,ob,b1,b2,b3,b4,b5,b6⟩:=hbm
 obtain⟨e1,e2⟩:=I.bs _ _ b3
 refine⟨bm,ob,b1,b2,fun q=>?_,fun q=>?_,e1,b4,b5,b6⟩
 ·obtain⟨o,es,ep,e,hd,_⟩:=I.mod.glob
  rw[q,e] at b3; cases b3; rw[hd] at b6; cases b6
 ·rw[q,hP] at e2; cases e2
theorem re (I:Inv X pins σ H s) (hP:H Pt=some (.tbl ps)):mainGlobals≠Pt:=fun q=>by
 obtain⟨o,es,ep,e,_⟩:=I.mod.glob
 have:=(I.bs _ _ e).2
 rw[q,hP] at this; cases this
theorem nv (I:Inv X pins σ H s) (hcode:X.env.code=.ref c) (hC:PySem.W.CodeHd X.base c Pt) (hbm:BM X.base X.mg) (hP:H Pt=some (.tbl ps)) (ht:TriplesOk ps.toList) (hcl:closureFor scope X.env=pure clos) (hdef:defaultsOf params X.env=([],[]))
  (hn:codeAmong lpos ps.toList=none)
  (h:∀ (c' g:Addr) (s1:Shared) (oc:Obj) (vs:Array Value) (t:Tok) (pm ctv:Value),Inv X pins σ (upd (upd H Pt (.tbl (ps++#[rawInt lpos.line,rawInt lpos.col,.ref c']))) c' (.frz oc (.own 0))) s1->H c'=none->s.heap.objs.size<=c'->oc.data=.fields vs->vs[1]?=some (.str (X.env.qual ++ "<lambda>") t) ->
   s1.heap.get? g=some (PySem.W.kla_obj "<lambda>" (X.env.qual ++ "<lambda>") params body scope clos pm c' ctv)->s.heap.objs.size<=g->g≠c'->(∀ b o,b≠Pt->s.heap.get? b=some o->s1.heap.get? b=some o)->Q (.ref g) s1) :
  wpAny (model X.prog X.w) X.A (eval (.Lambda params body scope lpos) X.env) Q E s:=by
 have hPg:s.heap.get? Pt=some (PySem.W.tabObj ps):=I.hok Pt _ hP
 refine PySem.W.kla_eval hdef (PySem.W.kla_makeFunction (mg:=X.mg) hcl I.ok.glob (I.mod.glob.keeps I.bk) hcode (hC.keeps I.bk) hPg ht hn (re I hP) (nB I hbm hP) fun c' ctv h' tk hx hge hlt hrec htb=>?_)
 obtain⟨c2,oc,vs,t,e2,hoc,hd,hv⟩:=hrec
 cases e2
 have hcn:H c'=none:=I.hok.fresh hge
 have hcP:c'≠Pt:=fun z=>by rw[z,hP] at hcn; cases hcn
 have hne:∀ b u,H b=some u->b≠c':=fun b u e z=>by rw[z,hcn] at e; cases e
 have hPs:Pt<s.heap.objs.size:=Heap.lt_size hPg
 have hsz:s.heap.objs.size<=h'.objs.size:=Nat.le_of_lt (Nat.lt_of_le_of_lt hge hlt)
 refine h c' h'.objs.size _ oc vs t _ ctv (I.un (t':=tk) ⟨fun b o e n _ _=>?_,fun b o e n _ _=>⟨o.slots,?_⟩,fun b o e n _=>?_,fun b o e _=>?_,fun b xs e=>?_,fun b o u e=>?_,fun b qs e=>?_⟩ fun b u e=>?_) hcn hge hd hv (Heap.get?_push_size _ rfl) hsz (Nat.ne_of_gt hlt)
  fun b o hb e=>Heap.get?_push_of_some _ (hx b o hb e)
 ·exact Heap.get?_push_of_some _ (hx b o (fun z=>by rw[z,hP] at n; cases n) e)
 ·exact Heap.get?_push_of_some _ (hx b o (fun z=>by rw[z,hP] at n; cases n) e)
 ·rw[aw (Nat.ne_of_lt (Nat.lt_of_lt_of_le (Heap.lt_size e) hge)),aw (fun z=>by rw[z,hP] at n; cases n)]; exact n
 ·by_cases hb:b=Pt
  ·subst hb; exact⟨_,Heap.get?_push_of_some _ htb⟩
  ·exact⟨o,Heap.get?_push_of_some _ (hx b o hb e)⟩
 ·rw[aw (hne b _ e),aw (fun z=>by rw[z,hP] at e; cases e)]; exact e
 ·rw[aw (hne b _ e),aw (fun z=>by rw[z,hP] at e; cases e)]; exact e
 ·by_cases hb:b=Pt
  ·subst hb
   rw[hP] at e; cases e
   exact⟨_,by rw[aw (Ne.symm hcP),bi]⟩
  ·exact⟨#[],by rw[aw (hne b _ e),aw hb,e]; simp⟩
 ·by_cases hb:b=c'
  ·subst hb
   rw[bi] at e; cases e
   exact⟨Heap.get?_push_of_some _ hoc,oc,Heap.get?_push_of_some _ hoc⟩
  ·rw[aw hb] at e
   by_cases hb2:b=Pt
   ·subst hb2
    rw[bi] at e; cases e
    exact Heap.get?_push_of_some _ htb
   ·rw[aw hb2] at e
    refine(I.hok b u e).stay (fun d v hd2 q=>Heap.get?_push_of_some _ (hx d v ?_ q)) (fun d q=>?_) fun d xs q=>?_
    ·rcases hd2 with z | z
     ·rw[z]; exact hb2
     ·intro y; rw[y,hP] at z; cases z
    ·rw[aw (hne d _ q),aw (fun z=>by rw[z,hP] at q; cases q)]; exact q
    ·rw[aw (hne d _ q),aw (fun z=>by rw[z,hP] at q; cases q)]; exact q
theorem ju {c':Addr} (I:Inv X pins σ H s) (hcode:X.env.code=.ref c) (hC:PySem.W.CodeHd X.base c Pt) (hbm:BM X.base X.mg) (hP:H Pt=some (.tbl ps)) (ht:TriplesOk ps.toList) (hcl:closureFor scope X.env=pure clos) (hdef:defaultsOf params X.env=([],[]))
  (hn:codeAmong lpos ps.toList=some (.ref c'))
  (h:∀ (g:Addr) (s1:Shared) (pm ctv:Value),Inv X pins σ H s1->s1.heap.get? g=some (PySem.W.kla_obj "<lambda>" (X.env.qual ++ "<lambda>") params body scope clos pm c' ctv)->s.heap.objs.size<=g->(∀ b o,s.heap.get? b=some o->s1.heap.get? b=some o)->Q (.ref g) s1) :
  wpAny (model X.prog X.w) X.A (eval (.Lambda params body scope lpos) X.env) Q E s:=by
 have hPg:s.heap.get? Pt=some (PySem.W.tabObj ps):=I.hok Pt _ hP
 refine PySem.W.kla_eval hdef (PySem.W.kla_makeFunctionHit (mg:=X.mg) hcl I.ok.glob (I.mod.glob.keeps I.bk) hcode (hC.keeps I.bk) hPg ht hn (nB I hbm hP) fun ctv h' tk hk hsz=>?_)
 have kp:∀ b o,s.heap.get? b=some o->(h'.push { cls:=.type "function",data:=.func (PySem.W.kla_fn "<lambda>" (X.env.qual ++ "<lambda>") params body scope clos ((X.mg "__name__").getD .none) (.ref c') ctv) }).get? b=some o:=fun b o e=>Heap.get?_push_of_some _ (hk b o e)
 exact h h'.objs.size _ _ ctv (I.kept (t':=tk) kp) (Heap.get?_push_size _ rfl) hsz kp
end
section
variable {X:Cx}{k kd:Nat}{f c Pt:Addr}{rs:(Hp->VK->XK->Prop)->Hp->VK->Prop}{x:Str}{p pos lpos:Pos}{params:Arguments}{body:Expr}{scope:Scope}{N':List Str}{tb:XK->TE}
theorem eu (js:List Nat) (F:RefOk X.prog X.w X.K X.mg X.base k (kd+1) f rs) (hr:Room k X.A) (hg:Gl X x) (hm:X.mg x=some (.ref f)) (hk:W.keepIn X.K (.ref f)=true)
  (hcode:X.env.code=.ref c) (hC:PySem.W.CodeHd X.base c Pt) (hbm:BM X.base X.mg) (hfn:∀ y,X.fn y=true) (hstk:X.stack=X.env::X.outer) (hfrm:X.env.frame=some X.env.locals)
  (hkd:scope.kind=.function) (hco:scope.isCoroutine=false) (hgen:scope.isGenerator=false) (hcell:∀ y ∈ scope.names,y.2≠.cell) {esc:Scope} (hsc:X.env.scope=esc) (hcells':∀ y ∈ scope.names,y.2=.free->esc.names.lookup y.1=some .cell)
  (hNF:∀ y ∈ N',scope.names.lookup y=some .free) (hNJ:js.map (fun j=>X.N[j]?)=N'.map some)
  (hbind:∀ (qual:Str) (cl:List (Str×Addr)) (pm cd ctv:Value),bindArgs (PySem.W.kla_fn "<lambda>" qual params body scope cl pm cd ctv) ⟨[],[]⟩=pure [])
  (hbody:∀ (g c':Addr) (cl:List (Str×Addr)) (A:Around) (outer:List Env) (s:Shared) (H:Hp) (E:XK),Room kd (A.deeper (PySem.W.envX (X.env.qual ++ "<lambda>") scope s.heap.objs.size g (.ref c') cl)) ->
   PE (jF X.prog X.w X.K X.mg X.base N' (X.env.qual ++ "<lambda>") scope g (.ref c') cl A outer s H E) body (tb E))
  (hdef:defaultsOf params X.env=([],[]):=by rfl) (hdb:(x == ("__debug__" : Str))=false:=by decide) (he:starEach [.Lambda params body scope lpos] X.env=[(false,eval (.Lambda params body scope lpos) X.env)]:=by rfl) :
  PE X (.Call (.Name x p) [.Lambda params body scope lpos] [] pos) (rT Pt (X.env.qual ++ "<lambda>") lpos js rs tb):=by
 intro pins s σ H Q I ⟨ps,hP,ht,hq⟩
 have hcells:∀ y ∈ scope.names,y.2=.free->X.env.kindOf y.1=some .cell:=fun y hy e=>by
  show X.env.scope.names.lookup y.1=_
  rw[hsc]; exact hcells' y hy e
 have hfr:∀ y ∈ scope.names,y.2=.free->∃ d,X.env.cells.lookup y.1=some d:=fun y hy e=>I.ok.has _ (.inl (hcells y hy e))
 have hcl:=cj scope X.env hfr
 have csub:∀ y d,(bR X.env.cells scope.names []).lookup y=some d->X.env.cells.lookup y=some d:=fun y d e=>ck scope.names [] hfr (fun _ _ z=>nomatch z) e
 have hlen:js.length=N'.length:=by have:=congrArg List.length hNJ; simpa using this
 have hPg:s.heap.get? Pt=some (PySem.W.tabObj ps):=I.hok Pt _ hP
 have go:∀ (g c':Addr) (s1:Shared) (H1:Hp) (oc:Obj) (vs:Array Value) (t:Tok) (pm ctv:Value),Inv X pins σ H1 s1->H1 c'=some (.frz oc (.own 0))->oc.data=.fields vs->vs[1]?=some (.str (X.env.qual ++ "<lambda>") t) ->
   s1.heap.get? g=some (PySem.W.kla_obj "<lambda>" (X.env.qual ++ "<lambda>") params body scope (bR X.env.cells scope.names []) pm c' ctv)->H1 g=none->s.heap.objs.size<=g ->
   rs (fun H1 Q1 E1=>tb E1 (js.map fun j=>(σ[j]?).join) H1 Q1) H1 Q->wpAny (model X.prog X.w) X.A (call (.ref f) [.ref g]) (EP X pins σ Q) X.xe s1:=by
  intro g c' s1 H1 oc vs t pm ctv I1 h1 h2 h3 hgo hgn hge hrs
  have nst:∀ b,b ∈ frs X.stack->b<s.heap.objs.size:=fun b hb=>by
   obtain⟨_,o,ho,_⟩:=I.stack.mem hb
   exact Heap.lt_size ho
  have hcc:∀ y d,X.env.cells.lookup y=some d->d ∉ frs X.stack:=fun y d e z=>by
   have z2:=I.stkSub d z
   rcases sR.mp z2 with z2 | z2
   ·exact I.cne y d e z2
   ·obtain⟨_,o,ho,_⟩:=I.ok.funs.mem z2
    exact absurd (Nat.lt_of_lt_of_le (Heap.lt_size ho) (I.ok.cab y d (hfn y) e)) (Nat.lt_irrefl _)
  have L:LamAt s1.heap H1 (frs X.stack) N' (js.map fun j=>(σ[j]?).join) (X.env.qual ++ "<lambda>") params body scope (bR X.env.cells scope.names []) g c':=by
   refine⟨⟨pm,ctv,hgo⟩,⟨hgn,fun z=>absurd (Nat.lt_of_lt_of_le (nst g z) hge) (Nat.lt_irrefl _)⟩,⟨oc,vs,t,h1,h2,h3⟩,fun y d e=>?_,fun i y v e1 e2=>?_⟩
   ·exact⟨I1.cell y d (csub y d e),I1.freeC y d (csub y d e),hcc y d (csub y d e)⟩
   ·have hyF:=hNF y (sL e1)
    obtain⟨d,hd⟩:=br (cells:=X.env.cells) scope.names [] (PySem.mem_of_lookup hyF)
    have hi:(js.map (fun j=>X.N[j]?))[i]?=some (some y):=by rw[hNJ,sN,e1]; rfl
    rw[sN] at hi e2
    cases hj:js[i]? with
    | none=>rw[hj] at hi; cases hi
    | some j=>
     rw[hj] at hi e2
     have hXN:X.N[j]?=some y:=by simpa using hi
     have hσ:σ[j]?=some (some v):=by
      have e3:(σ[j]?).join=some v:=by simpa using e2
      cases q:σ[j]? with
      | none=>rw[q] at e3; cases e3
      | some o=>rw[q] at e3; cases o with
       | none=>cases e3
       | some v'=>cases e3; rfl
     obtain⟨m,hn,hm⟩:=I1.loc
     have hkc:=hcells _ (PySem.mem_of_lookup hyF) rfl
     obtain⟨u,r,lk⟩:=hm j y v hXN hσ (.inr (.inl hkc))
     rcases lk with ⟨kk,_⟩ | ⟨_,d2,hd2,hcell2⟩
     ·rw[show X.env.kindOf y=some .cell from hkc] at kk; cases kk
     ·have e4:=csub y d hd
      rw[e4] at hd2; cases hd2
      exact⟨u,d,r,hd,hcell2⟩
  have D:=nV (P:=X.prog) (w:=X.w) (K:=X.K) (mg:=X.mg) (base:=X.base) (k:=kd) (tb:=tb) L (by rw[sI,hlen]) hkd hco hgen hcell (fun y hy=>br scope.names [] (PySem.mem_of_lookup hy)) hNF (fun y z d e1 e2=>I.ok.inj y z d (csub y d e1) (csub z d e2))
   (fun pm cd ctv=>hbind _ _ pm cd ctv) (fun A outer s H E hr=>hbody g c' _ A outer s H E hr)
  refine wpAny_call (codeAny_mono (F.run X.A X.stack s1 H1 g _ Q hr I1.env0 D hrs) fun r s' hq=>?_)
  cases r with
  | error e=>exact False.elim hq
  | ok fl=>
   cases fl with
   | ret u=>exact I1.after hq
   | next=>exact False.elim hq
   | brk=>exact False.elim hq
   | cont=>exact False.elim hq
 refine wpAny_Call_Name_kw (cV I hg hm ?_ hdb)
 refine PySem.W.callWith_K (h₀:=X.base) I.ok.mod.kin hk ?_ he rfl
 rw[he]
 show wpAny _ _ (spliced ((false,eval (.Lambda params body scope lpos) X.env)::backTo pos [])) _ _ s
 refine Calls.spliced_cons ?_
 rcases hq with ⟨hn,hq⟩ | ⟨c',oc,vs,t,hn,h1,h2,h3,hq⟩
 ·refine nv I hcode hC hbm hP ht hcl hdef hn fun c' g s1 oc vs t pm ctv I1 hcn hcs h2 h3 hgo hge hgc kp=>Calls.spliced_nil ⟨I1.kIn,?_⟩
  have hgP:g≠Pt:=Ne.symm (Nat.ne_of_lt (Nat.lt_of_lt_of_le (Heap.lt_size hPg) hge))
  exact go g c' s1 _ oc vs t pm ctv I1 bi h2 h3 hgo (by rw[aw hgc,aw hgP]; exact I.hok.fresh hge) hge (hq c' oc vs t hcn h2 h3)
 ·refine ju I hcode hC hbm hP ht hcl hdef hn fun g s1 pm ctv I1 hgo hge kp=>Calls.spliced_nil ⟨I1.kIn,?_⟩
  exact go g c' s1 _ oc vs t pm ctv I1 h1 h2 h3 hgo (I.hok.fresh hge) hge hq
end
variable{rs:(Hp->VK->XK->Prop)->Hp->VK->Prop}{fd:FuncData}
section
variable {P:Program}{w:World}{K:PySem.W.Frag}{mg:Str->Option Value}{base:Heap}
theorem FunG.okC {x qual:Str}{st:Stmt}{dV:Value}{f:Addr}{N ps:List Str}{k:Nat}{sp:Sp} (F:FunG K x qual st dV f fd) (S:FnScope N ps (ac st)) (len:∀ vs H Q E,sp vs H Q E->vs.length=ps.length)
  (hbody:∀ (cdv:Value) (A:Around) (outer:List Env) (s:Shared) (H:Hp) (vs:List V) (Q:VK) (E:XK),fd.code=cdv->Room k (A.deeper (envOfC qual (ac st) s.heap.objs.size f cdv))->sp vs H Q E ->
   ∃ t,PSs (cP CX0 P w K mg base N qual (ac st) f cdv A outer s H E).nox (ai st) t/\t { nx:=fun _ H'=>Q .non H',rt:=Q } (start N vs) H):FnOk P w K mg base CX0 (k+1) f fd ps sp:=by
 obtain⟨oc,od,kV,doc,pm,an,cdv,ct,osl,rfl,lk,hcd⟩:=F.ex
 refine nL lk hcd S len fun A outer s H vs Q E hr hsp=>?_
 obtain⟨t,h,q⟩:=hbody cdv A outer s H vs Q E rfl hr hsp
 exact⟨t,h.nox,q⟩
theorem FunG.okR {x qual:Str}{st:Stmt}{dV:Value}{f:Addr}{N ps:List Str}{k:Nat}{sp:Sp} (F:FunG K x qual st dV f fd) (S:FnScope N ps (ac st)) (len:∀ vs H Q E,sp vs H Q E->vs.length=ps.length)
  (hbody:∀ (cdv:Value) (A:Around) (outer:List Env) (s:Shared) (H:Hp) (vs:List V) (Q:VK) (E:XK),Room k (A.deeper (envOfC qual (ac st) s.heap.objs.size f cdv))->sp vs H Q E ->
   ∃ t,PSs (cP (CXr P w) P w K mg base N qual (ac st) f cdv A outer s H E) (ai st) t/\t { nx:=fun _ H'=>Q .non H',rt:=Q } (start N vs) H):FnOk P w K mg base (CXr P w) (k+1) f fd ps sp:=by
 obtain⟨oc,od,kV,doc,pm,an,cdv,ct,osl,rfl,lk,hcd⟩:=F.ex
 exact nL lk hcd S len fun A outer s H vs Q E hr hsp=>hbody cdv A outer s H vs Q E hr hsp
theorem FunG.okQ {x qual:Str}{st:Stmt}{dV:Value}{f:Addr}{N ps:List Str}{k:Nat}{sp:Sp} (F:FunG K x qual st dV f fd) (S:FnScope N ps (ac st)) (len:∀ vs H Q E,sp vs H Q E->vs.length=ps.length)
  (hbody:∀ (cdv:Value) (A:Around) (outer:List Env) (s:Shared) (H:Hp) (vs:List V) (Q:VK) (E:XK),RoomQ k (A.deeper (envOfC qual (ac st) s.heap.objs.size f cdv))->sp vs H Q E ->
   ∃ t,PSs (kY P w K mg base N qual (ac st) f cdv A outer s H E) (ai st) t/\t { nx:=fun _ H'=>Q .non H',rt:=Q } (start N vs) H):FnOkQ P w K mg base (k+1) f fd ps sp:=by
 obtain⟨oc,od,kV,doc,pm,an,cdv,ct,osl,rfl,lk,hcd⟩:=F.ex
 exact rD lk hcd S len fun A outer s H vs Q E hr hsp=>hbody cdv A outer s H vs Q E hr hsp
theorem FunG.refOk {x qual y:Str}{st:Stmt}{f:Addr}{N:List Str}{k kd:Nat} (F:FunG K x qual st .none f fd) (S:FnScope N [y] (ac st)) (hb:Binds K fd [y] [])
  (hbody:∀ (cdv:Value) (A:Around) (outer:List Env) (s:Shared) (H:Hp) (g:Addr) (spD:Hp->VK->XK->Prop) (Q:VK),Room k (A.deeper (envOfC qual (ac st) s.heap.objs.size f cdv))->Deed P w K mg base kd s H outer g spD->rs spD H Q ->
   ∃ t,PSs (cP CX0 P w K mg base N qual (ac st) f cdv A outer s H E0).nox (ai st) t/\t { nx:=fun _ H'=>Q .non H',rt:=Q } (start N [.ref g]) H):RefOk P w K mg base (k+1) kd f rs:=by
 obtain⟨oc,od,kV,doc,pm,an,cdv,ct,osl,rfl,lk,hcd⟩:=F.ex
 refine⟨fun A outer s H g spD Q hr e0 D hrs=>?_⟩
 have r:Vals [V.ref g] [Value.ref g]:=.cons rfl .nil
 have KX:K.In s.heap:=e0.mod.kin.keeps fun b o e=>(e0.bs b o e).1
 have lim:s.heap.NoLimit:=e0.mod.nolimit.keeps fun b o e=>(e0.bs b o e).1
 have hkind:∀ z ∈ [y].zip [Value.ref g],(ac st).names.lookup z.1=some .local∨((ac st).names.lookup z.1=some .cell/\((cellsFrom (s.heap.objs.size+1) (ac st).names []).lookup z.1).isSome=true):=fun⟨n,v⟩ hy=>by
  rcases S.par n (List.of_mem_zip hy).1 with q | q
  ·exact .inl q
  ·exact .inr ⟨q,PySem.W.cellsFrom_some _ _ _ (.inl q)⟩
 have hbt:BindsTo s (W.fnOf x qual (aj st) (ai st) (ac st) .none kV doc pm an cdv ct) ⟨[.ref g],[]⟩ ([y].zip [Value.ref g]):=hb s [.ref g] KX rfl
 refine codeAny_call_function hr.depth (KX _ _ lk) rfl S.co S.gen rfl (PySem.W.codeRec_of KX hcd) (hbt _ _ _ _ ?_)
 refine wpAny_newFunctionEnv_cells S.kind hkind fun env he s1 z=>?_
 subst he
 refine⟨lim.keeps z.toInCall.keep,codeAny_func ?_⟩
 obtain⟨t,ht,hq⟩:=hbody cdv A outer s H g spD Q (hr.deeper _) D hrs
 have I:Inv (cP CX0 P w K mg base N qual (ac st) f cdv A outer s H E0) [] (start N [.ref g]) H s1:=eI S hr.hd e0 rfl r z
 refine wpAny_mono (ht.nox [] s1 (start N [.ref g]) H _ I hq) (fun fl s' hs=>?_) fun e s' hs=>hs
 have fin:∀ {σ':St}{H':Hp}{v:V}{u:Value},Inv (cP CX0 P w K mg base N qual (ac st) f cdv A outer s H E0) [] σ' H' s'->RelV v u->Q v H'->CE outer P w H s Q u s' :=
  fun {σ' H' v u} J rv q=>⟨v,H',J.os,J.bare,J.base,J.hok,rv,q⟩
 cases fl with
 | ret u=>
  obtain⟨v,σ',H',J,rv,q⟩:=hs
  exact fin J rv q
 | next=>
  obtain⟨σ',H',J,q⟩:=hs
  exact fin (v:=V.non) (u:=Value.none) J rfl q
 | brk=>
  obtain⟨_,_,_,q⟩:=hs
  exact False.elim q
 | cont=>
  obtain⟨_,_,_,q⟩:=hs
  exact False.elim q
end
theorem lF {P:Program}{w:World}{mg mb:Str->Option Value}{k:Nat}{fa a c Pt:Addr}{x:Str}{sp:Sp}{s₁:Shared}{vs:List Value}{ns:List Int}
  (KX:K.In s₁.heap) (hns:s₁.heap.Ns mainGlobals mg) (hb:s₁.heap.Ns builtinsNs mb) (hbb:∀ x:Str,x ≠ "__name__" -> mb x=bootBuiltins x) (hlim:s₁.heap.NoLimit) (hg:s₁.gens = #[])
  (ha:s₁.heap.get? a=some { cls:=.type "list",data:=.seq vs.toArray }) (hi:IntsAre vs ns) (hl:ns.length<=sizeLine) (hr:Room k callerA)
  (hPt:s₁.heap.get? Pt=some (PySem.W.tabObj #[])) (hPK:K.lookup Pt=none) (hC:PySem.W.CodeHd s₁.heap c Pt) (hbm:BM s₁.heap mg)
  (F:∀ base:Heap,K.In base->base.Ns mainGlobals mg->BM base mg->FnOk P w K mg base CX0 k fa fd [x] sp) (hbind:∀ (s:Shared) (u:Value),BindsTo s fd ⟨[u],[]⟩ [(x,u)])
  (hsp:∀ H:Hp,H Pt=some (.tbl #[])->SqL K H a (ns.map V.int)->sp [.ref a] H (fun v _=>v=.bl true) fun _ _ _=>False) :
  codeAny (model P w) callerA (.call (.ref fa) ⟨[.ref a],[]⟩) (fun r s'=>r=.ok (.ret (.bool true))/\OldK s₁.heap s'.heap/\s'.os=s₁.os/\AllBare s'.gens) s₁:=by
 have rv:=gJ hi
 have lenV:=hi.length
 have haP:a≠Pt:=fun z=>by rw[z,hPt] at ha; cases ha
 have core:∀ H:Hp,H Pt=some (.tbl #[])->(∀ b,b≠Pt->H b=none∨∃ o xs,H b=some (.frz o (.lst xs)))->SqL K H a (ns.map V.int)->HOk P w H s₁.heap->(∀ b,H b≠none->b=a∨b=Pt)->(H a≠none->K.lookup a=none) ->
   codeAny (model P w) callerA (.call (.ref fa) ⟨[.ref a],[]⟩) (fun r s'=>r=.ok (.ret (.bool true))/\OldK s₁.heap s'.heap/\s'.os=s₁.os/\AllBare s'.gens) s₁:=by
  intro H hT hO hS hok hA hK
  have base_of:∀ {b:Addr}{o:Obj},s₁.heap.get? b=some o->H b=none->(gI s₁.heap H).get? b=some o:=fun e n=>nI e n
  have noA:∀ {b:Addr}{o:Obj},s₁.heap.get? b=some o->(∀ vs n,o.data≠.seq vs n)->(∀ vs,o.data≠.fields vs)->H b=none:=fun {b o} e d1 d2=>by
   cases q:H b with
   | none=>rfl
   | some u=>
    rcases hA b (by rw[q]; simp) with e' | e'
    ·subst e'; rw[ha] at e; cases e; exact absurd rfl (d1 _ _)
    ·subst e'; rw[hPt] at e; cases e; exact absurd rfl (d2 _)
  have nsK:∀ {b:Addr}{m:Str->Option Value},s₁.heap.Ns b m->(gI s₁.heap H).Ns b m:=fun {b m} ⟨o,es,ep,e,d,r⟩=>⟨o,es,ep,base_of e (noA e (fun _ _ z=>by rw[d] at z; cases z) fun _ z=>by rw[d] at z; cases z),d,r⟩
  have hKb:K.In (gI s₁.heap H):=fun b o e=>base_of (KX b o e) (by
   cases q:H b with
   | none=>rfl
   | some u=>
    rcases hA b (by rw[q]; simp) with e' | e'
    ·subst e'; rw[hK (by rw[q]; simp)] at e; cases e
    ·subst e'; rw[hPK] at e; cases e)
  have hM:Mod K mg (gI s₁.heap H):=⟨hKb,nsK hns,⟨mb,nsK hb,hbb⟩,let ⟨mc,h1,h2⟩:=hlim; ⟨mc,nsK h1,h2⟩⟩
  have hB:BM (gI s₁.heap H) mg:=by
   obtain⟨bm,ob,b1,b2,b3,b4,b5,b6⟩:=hbm
   exact⟨bm,ob,b1,b2,base_of b3 (noA b3 (fun _ _ z=>by rw[b6] at z; cases z) fun _ z=>by rw[b6] at z; cases z),b4,b5,b6⟩
  have e0:Env0 P w K mg (gI s₁.heap H) callerA [] s₁ H:=⟨U,hM,fun b o e=>oY e,Nat.le_of_eq (lK _ _),trivial,fun b hb=>absurd (show b ∈ ([]:List Addr) from hb) (by simp),hok,.of_eq hg⟩
  refine codeAny_mono ((F _ hKb (nsK hns) hB).run callerA [] s₁ H ⟨[.ref a],[]⟩ [.ref a] [.ref a] _ _ hr e0 (hbind s₁ (.ref a)) (.cons rfl .nil) (hsp H hT hS)) fun r s' h=>?_
  cases r with
  | error e=>exact False.elim h
  | ok fl=>
   cases fl with
   | next=>exact False.elim h
   | brk=>exact False.elim h
   | cont=>exact False.elim h
   | ret u=>
    obtain⟨v,H',os,bare,un,hok',r',q⟩:=h
    have q':v=.bl true:=q
    subst q'
    obtain rfl:u=Value.bool true:=r'
    refine⟨U,⟨fun b o e=>?_,fun b o e=>un.there b o e (by simp)⟩,os,bare⟩
    by_cases hbP:b=Pt
    ·subst hbP
     rw[hPt] at e; cases e
     obtain⟨more,e2⟩:=un.tbls b _ hT
     have e3:s'.heap.get? b=some { cls:=.none,data:=.fields (#[]++more) }:=hok' b _ e2
     exact .inr (.inl ⟨(hC.tab hPt).isCodeTable,U,#[],more,U,e3⟩)
    ·refine .inl ?_
     cases q:H b with
     | none=>exact un.keep b o e q (by intro z; exact absurd (show b ∈ ([]:List Addr) from z) (by simp)) (by simp)
     | some u=>
      rcases hO b hbP with z | ⟨ob,xs,z⟩
      ·rw[q] at z; cases z
      ·have z2:=un.frzs b ob _ z
       obtain⟨e1,_⟩:=hok b _ z
       obtain⟨e2,_⟩:=hok' b _ z2
       rw[e] at e1; cases e1
       exact e2
 cases hk:K.lookup a with
 | some o=>
  have e:=KX a o hk
  rw[ha] at e
  cases e
  refine core (fun b=>if b=Pt then some (.tbl #[]) else none) (if_pos rfl) (fun b hb=>.inl (if_neg hb)) (.inr ⟨_,vs.toArray,_,hk,U,U,U,by rw[sU,lenV]; exact hl,by simpa using rv⟩) (fun b u z=>?_) (fun b z=>?_) fun z=>absurd (if_neg haP) z
  ·by_cases hb:b=Pt
   ·have z':=(if_pos hb).symm.trans z
    cases z'
    subst hb
    exact hPt
   ·have z':=(if_neg hb).symm.trans z
    cases z'
  ·by_cases hb:b=Pt
   ·exact .inr hb
   ·exact absurd (if_neg hb) z
 | none=>
  refine core (fun b=>if b=Pt then some (.tbl #[]) else if b=a then some (.frz { cls:=.type "list",data:=.seq vs.toArray } (.lst (ns.map V.int))) else none) (if_pos rfl) (fun b hb=>?_) (.inl (.inr ⟨{ cls:=.type "list",data:=.seq vs.toArray },(if_neg haP).trans (if_pos rfl)⟩)) (fun b u z=>?_) (fun b z=>?_) fun _=>hk
  ·by_cases hb2:b=a
   ·exact .inr ⟨_,_,(if_neg hb).trans (if_pos hb2)⟩
   ·exact .inl ((if_neg hb).trans (if_neg hb2))
  ·by_cases hb:b=Pt
   ·have z':=(if_pos hb).symm.trans z
    cases z'
    subst hb
    exact hPt
   ·have z1:=(if_neg hb).symm.trans z
    by_cases hb2:b=a
    ·have z':=(if_pos hb2).symm.trans z1
     cases z'
     subst hb2
     exact⟨ha,by rw[sI]; exact hl,vs,_,rv,ha⟩
    ·have z':=(if_neg hb2).symm.trans z1
     cases z'
  ·by_cases hb:b=Pt
   ·exact .inr hb
   ·by_cases hb2:b=a
    ·exact .inl hb2
    ·exact absurd ((if_neg hb).trans (if_neg hb2)) z
theorem walk_ofT {l:PySem.W.OpenLaw}{n k:Nat}{q:Program}{loose:List Str}{XP:(Str->Option Value)->Heap->Prop}{YP:World->Heap->Prop}{d:DefRec}{K:Params->PySem.W.Frag}{sp:PySem.W.Frag->Addr->Sp}{x:Str}{Pt:Addr}
  (hn:l.most=some n) (hn2:n<=sizeLine) (hdf:d.params.defaults=[]) (hr:Room k callerA)
  (hY:∀ (w:World) (h:Heap),YP w h->(K w.params).In h/\h.get? Pt=some (PySem.W.tabObj #[]))
  (F:∀ (w:World) (mg:Str->Option Value) (fa:Addr) (h:Heap),(K w.params).In h->h.Ns mainGlobals mg->mg d.name=some (.ref fa) ->
   ∃ (fd:FuncData) (c:Addr),(K w.params).lookup Pt=none/\W.codeHdIn (K w.params) c Pt=true/\(∀ (s:Shared) (u:Value),BindsTo s fd ⟨[u],[]⟩ [(x,u)]) /\
    ∀ base:Heap,(K w.params).In base->base.Ns mainGlobals mg->BM base mg->FnOk l.prog w (K w.params) mg base CX0 k fa fd [x] (sp (K w.params) Pt))
  (hsp:∀ (K:PySem.W.Frag) (H:Hp) (a:Addr) (ns:List Int),ns.length<=n->H Pt=some (.tbl #[])->SqL K H a (ns.map V.int)->sp K Pt [.ref a] H (fun v _=>v=.bl true) fun _ _ _=>False) :
  PySem.W.WalkO q loose XP YP l.row.toRowW d [] (fun f vs=>PySem.call f vs):=by
 refine Att.attach_call hn hdf fun w s₀ s₁ mg mb fa o pm cd doc a vs ns G Y ho hd hcd hmg hobj hints hlen hg=>?_
 obtain⟨KX,hPt⟩:=hY w _ Y
 obtain⟨fd,c,hPK,hch,hb,hF⟩:=F w mg fa _ KX G.T.g hmg
 obtain⟨bm,ob,b1,b2,b3,b4,b5,b6⟩:=G.T.bmain
 exact lF KX G.T.g G.T.b G.T.builtins G.T.nolimit hg hobj hints (Nat.le_trans hlen hn2) hr hPt hPK (PySem.W.codeHd_of_K KX hch) ⟨bm,ob,b1,b2,b3,b4,b5,b6⟩ hF hb fun H hT hS=>hsp (K w.params) H a ns hlen hT hS
noncomputable def aQ (K:PySem.W.Frag) (C R:Addr) (Ds:List (Addr×Bool)):Bool :=
 ((W.findIn K (.ref C) "__getattribute__" == some (some (.builtin "BaseException.__getattribute__"))) && (W.findIn K (.ref C) "__getattr__" == some none) && (PySem.W.mroIn K C (.type "BaseException") == some true) && W.hasDictIn K C && (W.findIn K (.ref C) "__class__" == some (some (.builtin "object.__class__"))) && (PySem.W.specialIn K (.builtin "object.__class__") "__get__" == some (some (.builtin "getset_descriptor.__get__"))) &&
  (PySem.W.takesIn K (.builtin "object.__class__") == some true) && (PySem.W.mroIn K C (.type "object") == some true)) &&
 ((PySem.W.exmOne K (.ref C) (.ref R) == some true) && (Ds.all fun p=>PySem.W.kitOne K (.ref C) (.ref p.1) == some p.2) && (PySem.W.kitOne K (.ref C) (.type "ValueError") == some true)) && PySem.W.excIn K C jP "ValueError.__new__"
section
variable {K:PySem.W.Frag}{C R:Addr}{Ds:List (Addr×Bool)}
theorem aW (h:aQ K C R Ds=true):PySem.W.excIn K C jP "ValueError.__new__" = true:=by
 unfold aQ at h
 exact(Bool.and_eq_true_iff.mp h).2
theorem gm (h:aQ K C R Ds=true):ExcCls K C:=by
 unfold aQ at h
 simp only[Bool.and_eq_true,beq_iff_eq] at h
 obtain⟨⟨⟨⟨⟨⟨⟨⟨⟨a0,b0⟩,c0⟩,a2⟩,a3⟩,a4⟩,a5⟩,a6⟩,_⟩,_⟩:=h
 exact⟨a0,b0,c0,a2,a3,a4,a5,a6⟩
theorem ki (h:aQ K C R Ds=true):PySem.W.exmOne K (.ref C) (.ref R)=some true:=by
 unfold aQ at h
 simp only[Bool.and_eq_true,beq_iff_eq] at h
 exact h.1.2.1.1
theorem lS (h:aQ K C R Ds=true):PySem.W.kitOne K (.ref C) (.type "ValueError")=some true:=by
 unfold aQ at h
 simp only[Bool.and_eq_true,beq_iff_eq] at h
 exact h.1.2.2
theorem kh (h:aQ K C R Ds=true) (i:Nat) {D:Addr}{b:Bool} (e:Ds[i]?=some (D,b)):PySem.W.kitOne K (.ref C) (.ref D)=some b:=by
 unfold aQ at h
 simp only[Bool.and_eq_true,beq_iff_eq] at h
 have:=List.all_eq_true.mp h.1.2.1.2 (D,b) (sL e)
 simpa using this
end
noncomputable def cF (i:Int):Prop:=i.natAbs.log2<1920
theorem dR {i:Int} (h:i.natAbs<2 ^ 1000):cF i:=by
 unfold cF
 by_cases h0:i.natAbs=0
 ·rw[h0]; decide
 ·have:=(Nat.log2_lt h0).mpr (show i.natAbs<2 ^ 1000 from h)
  omega
theorem dc {i:Int} (h:cF i):(PySem.Str.ofString (toString i)).length<=1921:=int_text_len_1921 h
theorem rJ (a b:Str):(a++b).length=a.length+b.length:=PySem.Str.length_append a b
theorem dA {a b:Str}{n m:Nat} (h1:a.length<=n) (h2:b.length<=m):(a++b).length<=n+m:=by rw[rJ]; omega
theorem dm:(Str.empty).length<=0:=by decide
section
variable {E:XK}{C:Addr}{D:Ends}{σ:St}{H:Hp}{x y:Str}{i j:Nat}{m n:Int}
theorem rz0 (q:∀ e,E (.ref C) (some e) H):dI E C (tC (.str x)) D σ H:=q
theorem rz1 (hv:σ[i]?=some (some (.int n))) (hn:cF n) (q:∀ e,E (.ref C) (some e) H) (hx:x.length<=1000:=by decide +kernel) :
  dI E C (fun σ H Q=>tJ1 (tC (.str x)) (tJ1 (lg (fF i)) tJ0) Str.empty σ H Q) D σ H:=by
 have l1:=dA dm hx
 have l2:=dA l1 (dc hn)
 exact⟨x,U,aN (by omega),.int n,hv,.inr ⟨n,U,hn,_,U,aN (by omega),aN (by omega),q⟩⟩
end
noncomputable def Asc (n:Nat) (y:Str):Prop:=y.length<=n/\∀ c ∈ y.cps.toList,c<128
theorem Asc.mono {n m:Nat}{y:Str} (h:Asc n y) (hm:n<=m):Asc m y:=⟨Nat.le_trans h.1 hm,h.2⟩
theorem Asc.repr {n:Nat}{y:Str} (h:Asc n y):(reprText y).length<=10*n+2:=by
 have:=PySem.StrLaws.reprText_len y fun c hc=>Nat.lt_of_lt_of_le (h.2 c hc) (by decide)
 have:=h.1
 omega
section
variable {X:Cx}
theorem pY {n:Nat} (h:n<=sizeLine):Builtin.Str.tooLong n=false:=by unfold Builtin.Str.tooLong; exact decide_eq_false (by omega)
theorem kx:∀ {ys:List Str}{us:List Value},Vals (ys.map V.str) us->∃ l:List (Str×Tok),us=strValues l/\l.map (·.1)=ys
 | [],_,.nil=>⟨[],U,U⟩
 | y::ys,_,.cons r t=>by
  obtain⟨k,e⟩:=(show ∃ k,_=Value.str y k from r)
  subst e
  obtain⟨l,rfl,rfl⟩:=kx t
  exact⟨(y,k)::l,U,U⟩
noncomputable def rJoin (K:PySem.W.Frag):V->List V->Hp->VK->Prop:=fun x vs H Q=>∃ (z:Str) (a:Addr) (ys:List Str),x=.str z/\vs=[.ref a]/\SqL K H a (ys.map V.str)/\JoinOk z ys=true/\Q (.str (Txt.join z ys)) H
theorem cB:MtM X "str.join" (rJoin X.K):=by
 intro pins s σ H x vs v us Q I rx rv h
 obtain⟨z,a,ys,rfl,rfl,ha,hok,q⟩:=h
 obtain⟨t,rfl⟩:=rx
 obtain⟨u,rfl,ru⟩:=rv.one
 cases ru
 obtain⟨its,r2,pl,hz⟩:=I.list ha
 obtain⟨l,rfl,rfl⟩:=kx r2
 exact SC.join (l:=l) pl.isList rfl hok fun t' k=>⟨.str (Txt.join z (l.map (·.1))),H,I.tok _,⟨t',U⟩,q⟩
end
theorem iH (k M:Nat):∀ (l:List Str) (acc:Nat),(∀ y ∈ l,y.length<=M)->l.foldl (fun a y=>a+y.length+k) acc<=acc+l.length*(M+k)
 | [],acc,_=>by simp
 | y::l,acc,h=>by
  have h1:=h y sM
  have h2:=iH k M l (acc+y.length+k) fun z hz=>h z (sH _ hz)
  rw[List.foldl_cons,sT,Nat.succ_mul]
  omega
theorem eG {sep:Str}{ys:List Str}{M:Nat} (h:∀ y ∈ ys,y.length<=M) (hs:ys.length*(M+sep.length)<=sizeLine):JoinOk sep ys=true:=by
 unfold JoinOk
 rw[List.foldl_toArray]
 have:=iH sep.length M ys 0 h
 rw[pY (by omega)]
 rfl
noncomputable def tCut (t:TS):TS:=fun D σ H=>∃ Pn:St->Hp->Prop,t { D with nx:=Pn } σ H/\∀ σ' H',Pn σ' H'->D.nx σ' H'
theorem bj {st:Stmt}{t:TS} (h:PS X st t):PS X st (tCut t):=by
 intro pins s σ H D I ⟨Pn,ht,hn⟩
 refine thn (h pins s σ H { D with nx:=Pn } I ht) fun f s1 q=>?_
 cases f with
 | next=>obtain⟨σ',H',I',q⟩:=q; exact⟨σ',H',I',hn _ _ q⟩
 | ret v=>exact q
 | brk=>exact q
 | cont=>exact q
section
variable {E:XK}{C:Addr}{D:Ends}{σ:St}{H:Hp}{x x1 y:Str}{i j:Nat}{m n:Int}
theorem rzR (hv:σ[i]?=some (some (.str y))) (hy:(reprText y).length<=1000) (q:∀ e,E (.ref C) (some e) H) (hx:x.length<=1000:=by decide +kernel) :
  dI E C (fun σ H Q=>tJ1 (tC (.str x)) (tJ1 (l9 (fF i)) tJ0) Str.empty σ H Q) D σ H:=by
 have l1:=dA dm hx
 have l2:=dA l1 hy
 exact⟨x,U,aN (by omega),.str y,hv,y,U,aN (by omega),_,U,aN (by omega),aN (by omega),q⟩
theorem rz11 (hv:σ[i]?=some (some (.int m))) (hm:cF m) (hw:σ[j]?=some (some (.int n))) (hn:cF n) (q:∀ e,E (.ref C) (some e) H) (hx:x.length<=1000:=by decide +kernel) (hx1:x1.length<=1000:=by decide +kernel) :
  dI E C (fun σ H Q=>tJ1 (tC (.str x)) (tJ1 (lg (fF i)) (tJ1 (tC (.str x1)) (tJ1 (lg (fF j)) tJ0))) Str.empty σ H Q) D σ H:=by
 have l1:=dA dm hx
 have l2:=dA l1 (dc hm)
 have l3:=dA l2 hx1
 have l4:=dA l3 (dc hn)
 exact⟨x,U,aN (by omega),.int m,hv,.inr ⟨m,U,hm,_,U,aN (by omega),_,U,aN (by omega),.int n,hw,.inr ⟨n,U,hn,_,U,aN (by omega),aN (by omega),q⟩⟩⟩
end
theorem gA {pos p2:Pos}{c:Value}:∀ (l:List Value),TriplesOk l->codeAmong pos (l++[rawInt p2.line,rawInt p2.col,c])=(match codeAmong pos l with | some x=>some x | none=>if ((p2.line:Int) == (pos.line:Int) && (p2.col:Int) == (pos.col:Int))=true then some c else none)
 | [],_=>by
  show codeAmong pos [rawInt p2.line,rawInt p2.col,c]=_
  unfold codeAmong rawInt
  rfl
 | .int a t::.int b u::x::r,h=>by
  have ih:=gA (pos:=pos) (p2:=p2) (c:=c) r h
  show codeAmong pos (.int a t::.int b u::x::(r++[rawInt p2.line,rawInt p2.col,c]))=_
  unfold codeAmong
  by_cases hc:(a == (pos.line:Int) && b == (pos.col:Int))=true
  ·rw[if_pos hc,if_pos hc]
  ·rw[if_neg hc,if_neg hc]
   exact ih
theorem dP {p2:Pos}{c:Value}:∀ (l:List Value),TriplesOk l->TriplesOk (l++[rawInt p2.line,rawInt p2.col,c])
 | [],_=>trivial
 | .int a t::.int b u::x::r,h=>dP (p2:=p2) (c:=c) r h
structure Tb (L:Kn) (Pt:Addr) (qual:Str):Prop where
 ex:∃ ps:Array Value,(Pt,HO.tbl ps) ∈ L/\TriplesOk ps.toList/\∀ pos,codeAmong pos ps.toList=none∨∃ (c':Addr) (oc:Obj) (vs:Array Value) (t:Tok),codeAmong pos ps.toList=some (.ref c')/\(c',HO.frz oc (.own 0)) ∈ L/\oc.data=.fields vs/\vs[1]?=some (.str qual t)
theorem Tb.new {L:Kn}{Pt:Addr}{qual:Str} (h:(Pt,HO.tbl #[]) ∈ L):Tb L Pt qual:=⟨#[],h,trivial,fun _=>.inl rfl⟩
theorem jY {Z L:Kn}{Pt:Addr}{qual:Str}{lpos:Pos}{js:List Nat}{tb:XK->TE}{Q:VK} (h:Has H (Z++L)) (T:Tb L Pt qual)
  (k:∀ H' L',Has H' (Z++L')->Tb L' Pt qual->(∀ z ∈ L,z.1≠Pt->z ∈ L')->rs (fun H1 Q1 E1=>tb E1 (js.map fun j=>(σ[j]?).join) H1 Q1) H' Q):rT Pt qual lpos js rs tb σ H Q:=by
 obtain⟨ps,m,tr,hps⟩:=T.ex
 refine⟨ps,h.at_ _ (sJ _ m),tr,?_⟩
 rcases hps lpos with hn | ⟨c',oc,vs,t,h1,h2,h3,h4⟩
 ·refine .inl ⟨hn,fun c' oc vs t hc' ho hv=>?_⟩
  obtain⟨X,Y,rfl⟩:=List.append_of_mem m
  have hPne:c'≠Pt:=fun z=>by
   rw[z,h.at_ (Pt,_) (sJ _ m)] at hc'
   cases hc'
  have h5:Has H ((Pt,HO.tbl ps)::(Z++(X++Y))):=by
   have:Has H ((Z++X)++(Pt,HO.tbl ps)::Y):=by rw[tj]; exact h
   have:=this.out
   rw[tj] at this
   exact this
  have h6:=(h5.put (.tbl (ps++#[rawInt lpos.line,rawInt lpos.col,.ref c']))).alloc (by rw[aw hPne]; exact hc') (.frz oc (.own 0))
  have h7:=Has.comm (X:=[(c',HO.frz oc (.own 0)),(Pt,HO.tbl (ps++#[rawInt lpos.line,rawInt lpos.col,.ref c']))]) (Y:=Z) h6
  have etl:(ps++#[rawInt lpos.line,rawInt lpos.col,Value.ref c']).toList=ps.toList++[rawInt lpos.line,rawInt lpos.col,.ref c']:=by simp
  have keep:∀ z ∈ X++(Pt,HO.tbl ps)::Y,z.1≠Pt->z ∈ (c',HO.frz oc (.own 0))::(Pt,HO.tbl (ps++#[rawInt lpos.line,rawInt lpos.col,.ref c']))::(X++Y):=fun z hz ne=>by
   rcases sY.mp hz with hz | hz
   ·simp[hz]
   ·rcases sR.mp hz with rfl | hz
    ·exact absurd rfl ne
    ·simp[hz]
  refine k _ _ h7 ⟨_,sH _ sM,by rw[etl]; exact dP _ tr,fun pos=>?_⟩ keep
  rw[etl,gA _ tr]
  rcases hps pos with hn2 | ⟨c2,oc2,vs2,t2,g1,g2,g3,g4⟩
  ·rw[hn2]
   dsimp only
   by_cases hc:((lpos.line:Int) == (pos.line:Int) && (lpos.col:Int) == (pos.col:Int))=true
   ·rw[if_pos hc]
    exact .inr ⟨c',oc,vs,t,U,sM,ho,hv⟩
   ·rw[if_neg hc]
    exact .inl rfl
  ·rw[g1]
   refine .inr ⟨c2,oc2,vs2,t2,U,keep _ g2 fun e=>?_,g3,g4⟩
   have q1:=h.at_ _ (sJ _ g2)
   have q2:=h.at_ _ (sJ _ m)
   dsimp only at q1 q2
   rw[show c2=Pt from e,q2] at q1
   cases q1
 ·exact .inr ⟨c',oc,vs,t,h1,h.at_ _ (sJ _ h2),h3,h4,k H L h T fun z hz _=>hz⟩
section
variable {E:XK}{C:Addr}{D:Ends}{σ:St}{H:Hp}{x x1 x2:Str}{i j:Nat}{m n:Int}{a:Addr}
theorem rX (hv:σ[i]?=some (some (.int n))) (hn:cF n) (q:∀ e,E (.ref C) (some e) H) (hx:x.length<=1000:=by decide +kernel) (hx1:x1.length<=1000:=by decide +kernel) :
  dI E C (fun σ H Q=>tJ1 (tC (.str x)) (tJ1 (lg (fF i)) (tJ1 (tC (.str x1)) tJ0)) Str.empty σ H Q) D σ H:=by
 have l1:=dA dm hx
 have l2:=dA l1 (dc hn)
 have l3:=dA l2 hx1
 exact⟨x,U,aN (by omega),.int n,hv,.inr ⟨n,U,hn,_,U,aN (by omega),_,U,aN (by omega),aN (by omega),q⟩⟩
end
section
variable {X:Cx}{K:PySem.W.Frag}
theorem oV (hK:X.K=K) (hu:X.A.units+64<cLine):OpR X (compareOp .Eq) (qy K false):=by subst hK; exact mZ hu
end
section
variable {X:Cx}
noncomputable def qw:V->List V->Hp->VK->Prop:=fun x vs H Q=>∃ (z y:Str),x=.str z/\vs=[.str y]/\(y.length == 0)=false/\z.length<=sizeLine/\(Txt.split z y).length<=sizeLine/\∀ l,H l=none->Q (.ref l) (upd H l (.lst ((Txt.split z y).map V.str)))
theorem kr : ∀ (l : List (Str×Tok)), Vals ((l.map (·.1)).map V.str) (strValues l)
  | []=>.nil
  | (_, k) :: l => .cons ⟨k, rfl⟩ (kr l)
theorem dY:MtM X "str.split" qw:=by
 intro pins s σ H x vs v us Q I rx rv h
 obtain⟨z,y,rfl,rfl,hy,hz,hn,q⟩:=h
 obtain⟨t,rfl⟩:=rx
 obtain⟨u,rfl,ru⟩:=rv.one
 obtain⟨u,rfl⟩:=ru
 have fin:∀ (l:List (Str×Tok)) (k:Nat),s.toks<=k->l.map (·.1)=Txt.split z y->EP X pins σ Q (.ref s.heap.objs.size) { s with toks:=k,heap:=s.heap.push { cls:=.type "list",data:=.seq (strValues l).toArray } }:=fun l k hk e=>by
  rw[<- e] at hn q
  exact⟨.ref s.heap.objs.size,_,I.laid (t':=k) (fun b o e=>Heap.get?_push_of_some _ e) (Nat.le_refl _) (show ObjOk X.prog X.w _ _ _ (.lst ((l.map (·.1)).map V.str)) from⟨by rw[sI]; exact hn,strValues l,0,kr l,Heap.get?_push_size _ rfl⟩),U,q _ (I.hok.fresh (Nat.le_refl _))⟩
 cases h1:(decide (z.length<y.length) || decide (Builtin.Str.strKind z<Builtin.Str.strKind y))
 ·cases hf:(Builtin.Str.occurrences z y 0 z.length (z.length+1)).isEmpty
  ·have e:Txt.split z y=Builtin.Str.partsBetween z (Builtin.Str.occurrences z y 0 z.length (z.length+1)) y.length:=(if_neg (ne_true_of_eq_false h1)).trans (if_neg (ne_true_of_eq_false hf))
   refine call_meets F.slot_str_split (typeIs_str _ _ _) F.entry_str_split (F.args_str_split_2 _ _) (meets_str_split_sep z y t u h1 hy hf hz (by rw[<- e]; exact hn)) ?_
   rw[strsFrom_eq]
   exact fin (numbered s.toks _) _ (Nat.le_add_right _ _) ((numbered_texts _ _).trans e.symm)
  ·exact call_meets F.slot_str_split (typeIs_str _ _ _) F.entry_str_split (F.args_str_split_2 _ _) (meets_str_split_not_found z y t u h1 hy hf)
    (fin [(z,t)] s.toks (Nat.le_refl _) ((if_neg (ne_true_of_eq_false h1)).trans (if_pos hf)).symm)
 ·exact call_meets F.slot_str_split (typeIs_str _ _ _) F.entry_str_split (F.args_str_split_2 _ _) (meets_str_split_cannot_occur z y t u h1)
   (fin [(z,t)] s.toks (Nat.le_refl _) (if_pos h1).symm)
end
noncomputable def Its (z:Str):It:=⟨fun i _=>i<z.cps.size,fun i H x H'=>H'=H/\∃ c,z.cps[i]?=some c/\x=.str ⟨#[c]⟩,fun i _=>z.cps.size<=i⟩
theorem l7 {P:Program}{w:World}{tg:Expr} (it:Addr) (z:Str) (t:Tok):Turn P w K tg (Its z) [it] it (fun i h=>h.IsStrIter it "str_ascii_iterator" z t i) where
 mem:=by simp
 obj:=fun i h st b hb=>by
  have e:b=it:=by simpa using hb
  subst e
  obtain⟨o,e,c,d⟩:=st
  exact⟨o,e,fun v z=>by rw[d] at z; cases z⟩
 keep:=fun i h h' st k=>by obtain⟨o,e,r⟩:=st; exact⟨o,k it (by simp) o e,r⟩
 item:=by
  intro X hP hw hK hc i pins s σ H E I hf st hg
  subst hP hw hK
  obtain⟨f0,f1,f2,f3,f4,f5⟩:=hf it (by simp)
  have hx:z.cps[i]?=some (z.cps[i]'hg):=Array.getElem?_eq_getElem hg
  refine wpAny_pyNext_ascii_item st hx fun h' st' sb=>?_
  have I1:Inv X pins σ H { s with heap:=h',toks:=s.toks+1 }:=I.turned (t':=s.toks+1) (fun b o hb e=>(sb.2 b hb).trans e) f0 f1 f3 f4 f5
  obtain⟨o,e,c,d⟩:=id st'
  exact⟨_,U,kS (s:={ s with heap:=h',toks:=s.toks+1 }) e c d (by decide) ⟨.str _,H,I1,⟨_,U⟩,⟨U,_,hx,U⟩,st',fun b hb=>(hf b hb).1⟩⟩
 done:=by
  intro X hP hw hK hc i pins s σ H E I hf st hg
  subst hP hw hK
  obtain⟨f0,f1,f2,f3,f4,f5⟩:=hf it (by simp)
  exact wpAny_pyNext_ascii_end (I.ok.hd hc) st (Array.getElem?_eq_none hg) fun h' eb=>⟨U,I.turned (t':=s.toks) (fun b o hb e=>eb b o hb e) f0 f1 f3 f4 f5⟩
 self:=fun _ _ _ _ _ st h=>wpAny_pyIter_striter_ascii st h
noncomputable def iStr (tl:TE):TI:=fun σ H R=>tl σ H fun x H1=>∃ z,x=.str z/\z.cps.all (· < 128)=true/\R (Its z) H1
theorem qE {tg:Expr}{l:Expr}{tl:TE} (hl:PE X l tl):PI X tg l (iStr tl):=by
 intro pins s σ H R I h
 refine thn (hl pins s σ H _ I h) fun v s1 ⟨x,H1,I1,r1,q1⟩=>?_
 obtain⟨z,rfl,ha,q⟩:=q1
 obtain⟨t,rfl⟩:=r1
 refine wpAny_pyIter_ascii ha ?_
 refine⟨s1.heap.objs.size,[s1.heap.objs.size],_,_,H1,U,I1.kept (t':=s1.toks) fun b o e=>Heap.get?_push_of_some _ e,l7 _ z t,⟨_,Heap.get?_push_size _ rfl,U,U⟩,fun b hb=>?_,q⟩
 have e:b=s1.heap.objs.size:=by simpa using hb
 subst e
 exact I1.fpOk (Nat.le_refl _) (I1.hok.fresh (Nat.le_refl _))
theorem pj {z:Str}{g:TG}{tb:TS}{D:Ends} (Pv:Nat->St->Hp->Prop) (h0:Pv 0 σ H)
  (hs:∀ i c σ H,z.cps[i]?=some c->Pv i σ H->g (.str ⟨#[c]⟩) σ H fun σ2 H2=>tb { D with nx:=Pv (i+1),ct:=Pv (i+1),bk:=D.nx } σ2 H2) (hd:∀ σ H,Pv z.cps.size σ H->D.nx σ H) :
  ∃ W:Nat->Nat->St->Hp->Prop,(∃ m,W 0 m σ H)/\∀ i m σ H,W i m σ H ->
   ((Its z).stop i H/\D.nx σ H)∨((Its z).go i H/\∃ N:St->Hp->Prop,(∀ σ' H',N σ' H'->∃ m',m'<m/\W (i+1) m' σ' H')/\∀ x H',(Its z).yld i H x H'->g x σ H' fun σ2 H2=>tb { D with nx:=N,ct:=N,bk:=D.nx } σ2 H2):=by
 refine⟨fun i m σ H=>m=z.cps.size - i/\i<=z.cps.size/\Pv i σ H,⟨_,U,Nat.zero_le _,h0⟩,?_⟩
 rintro i m σ H ⟨rfl,hi,p⟩
 by_cases hlt:i<z.cps.size
 ·refine .inr ⟨hlt,Pv (i+1),fun σ' H' p'=>⟨z.cps.size - (i+1),by omega,U,hlt,p'⟩,fun x H' y=>?_⟩
  obtain⟨rfl,c,hc,rfl⟩:=y
  exact hs i c σ H' hc p
 ·have e:i=z.cps.size:=by omega
  subst e
  exact .inl ⟨Nat.le_refl _,hd σ H p⟩
theorem jG {c:Nat}:∀ {l1 l2 r1 r2:List Nat},c ∉ l1->c ∉ l2->l1++c::r1=l2++c::r2->l1=l2/\r1=r2
 | [],[],_,_,_,_,e=>⟨U,(List.cons.inj e).2⟩
 | [],b::_,_,_,_,h2,e=>absurd (sR.mpr (.inl (List.cons.inj e).1)) h2
 | a::_,[],_,_,h1,_,e=>absurd (sR.mpr (.inl (List.cons.inj e).1.symm)) h1
 | a::l1,b::l2,r1,r2,h1,h2,e=>by
  have e1:=(List.cons.inj e).1
  have:=jG (fun m=>h1 (sH _ m)) (fun m=>h2 (sH _ m)) (List.cons.inj e).2
  exact⟨by rw[e1,this.1],this.2⟩
theorem Str.appL (x y:Str):(x++y).cps.toList=x.cps.toList++y.cps.toList:=by
 show(x.cps++y.cps).toList=_
 simp
theorem me {x y:Str} (h:x.cps.toList=y.cps.toList):x=y:=Str.ext' (Array.toList_inj.mp h)
theorem jz {c:Nat}:∀ {as bs:List Str},as≠[]->bs≠[]->(∀ a ∈ as,c ∉ a.cps.toList)->(∀ b ∈ bs,c ∉ b.cps.toList)->Str.join ⟨#[c]⟩ as=Str.join ⟨#[c]⟩ bs->as=bs
 | [],_,h,_,_,_,_=>absurd rfl h
 | _,[],_,h,_,_,_=>absurd rfl h
 | [a],[b],_,_,_,_,e=>by
  have e:a=b:=e
  rw[e]
 | [a],b::b'::r,_,_,ha,_,e=>by
  have e:a=b++⟨#[c]⟩++Str.join ⟨#[c]⟩ (b'::r):=e
  refine absurd ?_ (ha a sM)
  rw[e,Str.appL,Str.appL]
  simp
 | a::a'::r,[b],_,_,_,hb,e=>by
  have e:a++⟨#[c]⟩++Str.join ⟨#[c]⟩ (a'::r)=b:=e
  refine absurd ?_ (hb b sM)
  rw[<- e,Str.appL,Str.appL]
  simp
 | a::a'::r,b::b'::r',_,_,ha,hb,e=>by
  have e:a++⟨#[c]⟩++Str.join ⟨#[c]⟩ (a'::r)=b++⟨#[c]⟩++Str.join ⟨#[c]⟩ (b'::r'):=e
  have e2:=congrArg (fun x:Str=>x.cps.toList) e
  rw[Str.appL,Str.appL,Str.appL,Str.appL] at e2
  have e3:a.cps.toList++c::(Str.join ⟨#[c]⟩ (a'::r)).cps.toList=b.cps.toList++c::(Str.join ⟨#[c]⟩ (b'::r')).cps.toList:=by simpa using e2
  obtain⟨h1,h2⟩:=jG (ha a sM) (hb b sM) e3
  rw[me h1,jz (as:=a'::r) (bs:=b'::r') (by simp) (by simp) (fun x hx=>ha x (sH _ hx)) (fun x hx=>hb x (sH _ hx)) (me h2)]
theorem mh (x y:Str):Txt.split x y≠[]:=by
 unfold Txt.split
 split
 ·simp
 ·split
  ·simp
  ·rw[StrLaws.partsBetween_eq]
   cases Builtin.Str.occurrences x y 0 x.length (x.length+1) <;> simp[StrLaws.partsFrom]
theorem fJ {c:Nat}{ys:List Str} (hne:ys≠[]) (hf:∀ y ∈ ys,c ∉ y.cps.toList):Txt.split (Str.join ⟨#[c]⟩ ys) ⟨#[c]⟩=ys :=
 jz (mh _ _) hne (StrLaws.split_free _ c) hf (StrLaws.join_split _ _)
noncomputable def SqB (b:Bool) (K:PySem.W.Frag) (H:Hp) (a:Addr) (xs:List V):Prop:=match b with | true=>SqL K H a xs | false=>SqT K H a xs
noncomputable def ItB (b:Bool) (K:PySem.W.Frag) (a:Addr):It:=match b with | true=>Itl K a | false=>Itt K a
theorem ItB.go {b:Bool}{a:Addr}{xs:List V}{i:Nat}{x:V} (h:SqB b K H a xs) (e:xs[i]?=some x):(ItB b K a).go i H:=by
 cases b <;> exact⟨xs,x,h,e⟩
theorem ItB.yld {b:Bool}{H H':Hp}{a:Addr}{xs:List V}{i:Nat}{x:V} (y:(ItB b K a).yld i H x H') (h:SqB b K H a xs):H'=H/\xs[i]?=some x:=by
 cases b <;> exact⟨y.1,y.2 xs h⟩
theorem ItB.stop {b:Bool}{a:Addr}{xs:List V}{i:Nat} (h:SqB b K H a xs) (e:xs.length<=i):(ItB b K a).stop i H:=by
 cases b <;> exact⟨xs,h,e⟩
noncomputable def iSeq (K:PySem.W.Frag) (tl:TE):TI:=fun σ H R=>tl σ H fun x H1=>∃ a b,x=.ref a/\(∃ xs,SqB b K H1 a xs)/\R (ItB b K a) H1
theorem qF {tg:Expr}{l:Expr}{tl:TE} (hl:PE X l tl):PI X tg l (iSeq X.K tl):=by
 intro pins s σ H R I h
 refine thn (hl pins s σ H _ I h) fun v s1 ⟨x,H1,I1,r1,q1⟩=>?_
 obtain⟨a,b,e,⟨xs,hq⟩,q⟩:=q1
 subst e
 cases r1
 cases b with
 | true=>
  obtain⟨its,rv,p,hz⟩:=I1.list hq
  refine wpAny_pyIter_list p.isList ?_
  refine⟨s1.heap.objs.size,[s1.heap.objs.size],_,_,H1,U,I1.kept (t':=s1.toks) fun b o e=>Heap.get?_push_of_some _ e,gM a _,⟨_,Heap.get?_push_size _ rfl,U,U⟩,fun b hb=>?_,q⟩
  have e:b=s1.heap.objs.size:=by simpa using hb
  subst e
  exact I1.fpOk (Nat.le_refl _) (I1.hok.fresh (Nat.le_refl _))
 | false=>
  obtain⟨its,rv,p,hz⟩:=I1.tuple hq
  refine wpAny_pyIter_tuple (show s1.heap.IsTuple a its.toArray from p) ?_
  refine⟨s1.heap.objs.size,[s1.heap.objs.size],_,_,H1,U,I1.kept (t':=s1.toks) fun b o e=>Heap.get?_push_of_some _ e,fD a _,⟨_,Heap.get?_push_size _ rfl,U,U⟩,fun b hb=>?_,q⟩
  have e:b=s1.heap.objs.size:=by simpa using hb
  subst e
  exact I1.fpOk (Nat.le_refl _) (I1.hok.fresh (Nat.le_refl _))
noncomputable def nT (n:Int):Str:=Str.ofString (toString n)
theorem fU (m:Nat):(nT (m:Int)).cps.toList=(Nat.toDigits 10 m).map Char.toNat:=PySem.W.KIN.signs_num m
theorem dy (m:Nat):∀ c ∈ (nT (m:Int)).cps.toList,48<=c/\c<=57:=fun c hc=>by
 rw[fU] at hc
 obtain⟨ch,hch,e⟩:=sZ.mp hc
 have r:=digit_range (Nat.isDigit_of_mem_toDigits (by decide) (by decide) hch)
 rw[<- e]
 exact r
theorem nS (m:Nat):Nat.toDigits 10 m≠[]:=fun e=>by
 have h:=toDigits_len_ge 10 m
 rw[e] at h
 exact absurd h (by decide)
theorem nk (m:Nat):(nT (m:Int)).cps.toList≠[]:=fun e=>by
 rw[fU] at e
 exact nS m (List.map_eq_nil_iff.mp e)
theorem nU (m:Nat):(Nat.toDigits 10 m).head?.map Char.toNat=some 48->m=0:=by
 induction m using Nat.strongRecOn with
 | _ m ih=>
  intro e
  by_cases h:m<10
  ·rw[Nat.toDigits_of_lt_base h] at e
   have:∀ d:Nat,d<10->([Nat.digitChar d].head?.map Char.toNat=some 48)->d=0:=by decide
   exact this m h e
  ·have hm:m % 10<10:=Nat.mod_lt m (by decide)
   have t:Nat.toDigits 10 (m / 10)++Nat.toDigits 10 (m % 10)=Nat.toDigits 10 (10*(m / 10)+m % 10):=Nat.toDigits_append_toDigits (by decide) (by omega) hm
   rw[Nat.div_add_mod] at t
   rw[<- t,List.head?_append,show ∀ (a b:Option Char),a.isSome=true->a.or b=a from fun a b h=>by cases a <;> first | rfl | cases h] at e
   rotate_left
   ·rw[List.isSome_head?]; exact nS _
   have:=ih (m / 10) (by omega) e
   omega
theorem oZ {m:Nat}{c:Nat} (h:(nT (m:Int)).cps.toList[0]?=some c) (hc:c=48):m=0:=by
 subst hc
 rw[fU,<- List.head?_eq_getElem?,List.head?_map] at h
 exact nU m h
theorem eY (k:Str):∀ D:List (Str×List Str),KTD.inKeys k (D.map fun p=>(p.1,KTD.Dat.tup (p.2.map PyData.str)))=(D.any fun p=>decide (k=p.1))
 | []=>rfl
 | p::D=>by rw[sX,List.any_cons,KTD.inKeys,eY k D]
theorem j5 :OpR X (compareOp .NotIn) (fun x y H Q=>∃ k a D,x=V.str k/\y=V.ref a/\oh X.K a D/\Q (.bl (!(D.any fun p=>decide (k=p.1)))) H):=by
 intro pins s σ H x y v u Q I rx ry h
 obtain⟨k,a,D,rfl,rfl,T,q⟩:=h
 obtain⟨t,rfl⟩:=(show ∃ t,v=Value.str k t from rx)
 cases (show u=Value.ref a from ry)
 refine KTD.notin_text (gN I T) ⟨.bl (!KTD.inKeys k (D.map fun(p:Str×List Str)=>(p.1,KTD.Dat.tup (p.2.map PyData.str)))),H,I.tok _,U,?_⟩
 rw[eY]; exact q
section
variable {X:Cx}
theorem gu:cq X (.type "int") (fun xs H Q=>∃ (z:Str) (n:Int),xs=[.str z]/\intText? z=some n/\z.length<=640/\Q (.int n) H):=by
 intro pins s σ H xs us Q I r h
 obtain⟨z,n,rfl,h0,h1,q⟩:=h
 obtain⟨u,rfl,t,rfl⟩:=c8 r
 exact PySem.W.KIN.call_text h0 h1 ⟨.int n,H,I.tok _,⟨_,U⟩,q⟩
noncomputable def rP (X:Cx) (e:Expr) (y:Str):Prop:=∀ (s:Shared) (Q:Value->Shared->Prop),(∀ t k,s.toks<t->t<k->Q (.str y t) { s with toks:=k })->wpAny (model X.prog X.w) X.A (eval e X.env) Q X.xe s
noncomputable def iy (b:Str) (n:Nat):Str:=⟨(List.replicate n b.cps).foldl (fun x y=>x++y) #[]⟩
theorem jo {a b:Str}{n:Nat}{j1 j2 j3:Nat}{p1 p2 p3 p4 p5:Pos} (ha:(a.length == 0)=false) (hb:(b.length == 0)=false) (hn:2<=n) (hn2:n<=1000) (hl:b.length<=1000) (hr:((iy b n).length == 0)=false) (hz:(a++iy b n).length<=sizeLine) (hz2:(iy b n).length<=sizeLine) :
  rP X (.BinOp (.Constant (.str a) j1 p1) .Add (.BinOp (.Constant (.str b) j2 p2) .Mult (.Constant (.int n) j3 p3) p4) p5) (a++iy b n):=by
 intro s Q h
 refine wpAny_BinOp (Calls.Constant_str (wpAny_BinOp (Calls.Constant_str (wpAny_Constant_int ?_))))
 have e1:(decide ((n:Int) < -2 ^ 63) || decide ((n:Int) ≥ 2 ^ 63))=false:=by
  rw[Bool.or_eq_false_iff]
  exact⟨decide_eq_false (by omega),decide_eq_false (by omega)⟩
 refine PySem.P.mul_str e1 (fun _ _=>?_) (fun _ _=>?_) ?_
 ·have h63:((2:Int) ^ 63 - 1) / n ≥ 1000:=by
   have:(1000:Int)*n<=2 ^ 63 - 1:=by omega
   exact(Int.le_ediv_iff_mul_le (by omega)).mpr this
  omega
 ·have:b.length*n<=1000*1000:=Nat.mul_le_mul hl hn2
  unfold Builtin.Str.tooLong
  simp
  refine Nat.le_trans this ?_
  decide
 ·rw[if_neg (by omega),if_neg (by rw[hb,Bool.or_false]; exact ne_true_of_eq_false (by rw[beq_eq_false_iff_ne]; omega))]
  refine⟨hz2,?_⟩
  refine PySem.P.add_str ?_
  rw[if_neg (by rw[ha]; decide),if_neg (by show ¬ ((iy b n).length == 0)=true; rw[hr]; decide)]
  refine⟨hz,?_⟩
  exact h _ _ (by show s.toks<s.toks+1+1+1+1; omega) (Nat.lt_succ_self _)
noncomputable def tRepl (to:TE) (y z:Str):TE:=fun σ H Q=>to σ H fun v H1=>∃ x,v=.str x/\x.length+(x.length+1)*z.length<=16777216/\Q (.str (Txt.replace x y z)) H1
theorem oU {o e f:Expr}{apos cpos:Pos}{to:TE}{y z:Str} (ho:PE X o to) (he:rP X e y) (hf:rP X f z) (hyz:(y == z)=false) (m:M2 X o "replace" apos e f cpos):PE X (.Call (.Attribute o "replace" apos) [e,f] [] cpos) (tRepl to y z):=by
 intro pins s σ H Q I h
 refine wpAny_Call_method m.base m.few m.line PySem.F.plainAttrs_str PySem.F.slot_str_replace PySem.F.type_str_replace (thn (ho pins s σ H _ I h) fun u s1 ⟨v,H1,I1,rx,x,ex,hx,q⟩=>?_)
 subst ex
 obtain⟨t,rfl⟩:=rx
 refine⟨typeIs_str _ _ _,fun b e=>(by cases e),?_⟩
 rw[m.trees]
 refine Calls.callWith_builtin rfl (Calls.evalArgs_plain (Calls.spliced_cons (he s1 _ fun t1 k1 a1 b1=>Calls.spliced_cons (hf _ _ fun t2 k2 a2 b2=>Calls.spliced_nil ?_))))
 have a3:k1<t2:=a2
 have n1:t1≠0:=Nat.ne_of_gt (Nat.lt_of_le_of_lt (Nat.zero_le _) a1)
 have n2:t2≠0:=Nat.ne_of_gt (Nat.lt_of_le_of_lt (Nat.zero_le _) a3)
 have n3:t1≠t2:=Nat.ne_of_lt (Nat.lt_trans b1 a3)
 have tl:Builtin.Str.tooLong (x.length+(Builtin.Str.occurrences x y 0 x.length (x.length+1)).length*z.length)=false:=by
  have:=PySem.StrLaws.occ_length_le x y 0 x.length (x.length+1)
  have:(Builtin.Str.occurrences x y 0 x.length (x.length+1)).length*z.length<=(x.length+1)*z.length:=Nat.mul_le_mul_right _ this
  unfold Builtin.Str.tooLong
  simp
  refine Nat.le_trans (Nat.le_trans (Nat.add_le_add_left this _) hx) ?_
  decide
 refine call_gives PySem.F.slot_str_replace (typeIs_str _ _ _) PySem.F.entry_str_replace (PySem.F.args_str_replace_3 _ _ _) (gives_str_replace x y z t t1 t2 fun _=>⟨?_,?_,hyz,tl⟩) ?_
 ·exact Bool.or_eq_false_iff.mpr ⟨beq_eq_false_iff_ne.mpr n1,beq_eq_false_iff_ne.mpr n2⟩
 ·exact beq_eq_false_iff_ne.mpr n3
 ·have I2:Inv X pins σ H1 { s1 with toks:=k2 }:=I1.tok _
  unfold Txt.replace at q
  split
  ·next c=>
   rw[if_pos c] at q
   exact⟨.str x,H1,I2,⟨_,U⟩,q⟩
  ·next c=>
   rw[if_neg c] at q
   exact⟨fits_replaced y hx,⟨.str _,H1,I2.tok _,⟨_,U⟩,q⟩⟩
end
theorem nj {m:Nat} (hl:(nT (m:Int)).length<=640):intText? (nT (m:Int))=some (m:Int):=by
 have hd:∀ c ∈ (nT (m:Int)).cps.toList,48<=c/\c<=57:=fun c hc=>dy m c hc
 have hne:(nT (m:Int)).cps.toList≠[]:=nk m
 have e:=PySem.intText_digits hd hne (Nat.le_trans hl (by decide))
 rw[show(nT (m:Int)).cps.toList=_ from PySem.W.KIN.signs_num m,PySem.W.KIN.val_back] at e
 exact e
end L2
namespace L2
open PySem PySem.Spec PyProof.Rows
section
variable {X:Cx}
noncomputable def oM:V->List V->Hp->VK->Prop:=fun x vs H Q=>∃ (l:Addr) (xs:List V) (y:V) (k:Nat),x=.ref l/\vs=[.int k,y]/\H l=some (.lst xs)/\k<=xs.length/\xs.length<=100000/\Q .non (upd H l (.lst (xs.take k++y::xs.drop k)))
theorem Vals.app2 {xs ys:List V}{a b:List Value} (h:Vals xs a) (g:Vals ys b):Vals (xs++ys) (a++b):=by
 induction h with
 | nil=>exact g
 | cons a _ ih=>exact .cons a ih
theorem lJ (l:Addr) (its:List Value) (n k:Nat) (z:Int) (ez:z=k) (t:Tok) (u:Value) (hk:k<=its.length) (hz:its.length<=100000) :
  Meets (Builtin.«list.insert» ⟨[.ref l,.int z t,u],[]⟩) (fun _ R s=>s.heap.get? l=some { cls:=.type "list",dict:=none,data:=.seq its.toArray n,slots:=#[] }/\R (.ok (.ret Value.none)) { s with heap:=s.heap.update l (Obj.mapSeq fun xs=>have k:=if z<0 then(z+((xs.size:Nat):Int)).toNat else min z.toNat xs.size; (xs.extract 0 k).push u++xs.extract k),toks:=s.toks }):=by
 have fit:Builtin.List.listFitsIndex z=true:=by
  unfold Builtin.List.listFitsIndex
  have p:(2:Int) ^ 63=9223372036854775808:=by decide
  rw[p]
  simp only[Bool.and_eq_true,decide_eq_true_eq]
  constructor <;> omega
 have hsz:its.toArray.size<=sizeLine:=by rw[sU]; exact Nat.le_of_lt (sizeOk (by omega))
 exact AutoSeq1.list_insert_list_int_val_1 l its.toArray n z t u (by rw[fit]; decide) hsz
theorem lC:MtM X "list.insert" oM:=by
 intro pins s σ H x vs v us Q I rx rv h
 obtain⟨l,xs,y,k,rfl,rfl,hH,hk,hz,q⟩:=h
 cases rx
 obtain⟨u0,u,rfl,r0,ru⟩:=gK rv
 obtain⟨z,ez⟩:∃ z:Int,z=k:=⟨_,U⟩
 rw[<- ez] at r0
 obtain⟨t,rfl⟩:=(show ∃ t,u0=Value.int z t from r0)
 obtain⟨_,its,n,r,hl,e⟩:=I.lstM hH
 refine call_meets F.slot_list_insert ⟨_,e,U⟩ F.entry_list_insert (F.args_list_insert_3 _ _ _) (lJ l its n k z ez t u (by omega) (by omega)) ⟨e,?_⟩
 refine⟨.non,_,I.lset (its':=its.take k++u::its.drop k) hH e ?_ ((r.take k).app2 (.cons ru (r.drop k))) ?_,U,q⟩
 ·apply Array.toList_inj.mp
  have hk2:(if z<0 then(z+((its.toArray.size:Nat):Int)).toNat else min z.toNat its.toArray.size)=k:=by
   rw[if_neg (by omega),sU]; omega
  simp only[hk2]
  simp
  exact List.take_of_length_le (by rw[List.length_drop]; omega)
 ·rw[sW,sT,tx,List.length_drop]
  have h2:xs.length+1<sizeLine:=sizeOk (by omega)
  omega
end
end L2
set_option maxHeartbeats 4000000
namespace P
open PySem L2
noncomputable def top (i:Nat):Stmt:=PySem.Challenge.pw_lazyrails_k54_program_texts_refused.main.body.getD i (.Pass ⟨0,0,0,0⟩)
noncomputable abbrev cx:Stmt:=top 65
noncomputable abbrev cy:Stmt:=top 50
noncomputable abbrev io:Stmt:=top 57
noncomputable abbrev cu:Stmt:=top 56
noncomputable abbrev eT:Stmt:=top 55
noncomputable abbrev fM:Stmt:=top 59
noncomputable abbrev im:Stmt:=top 58
noncomputable abbrev fL:Stmt:=top 62
noncomputable abbrev cv:Stmt:=top 61
noncomputable abbrev jf:Stmt:=top 63
noncomputable abbrev gG:Stmt:=top 64
noncomputable abbrev cU:Stmt:=top 60
noncomputable abbrev iR:Stmt:=top 52
noncomputable abbrev cr:Stmt:=top 51
noncomputable abbrev ik:Stmt:=top 54
noncomputable abbrev gH:Stmt:=top 47
noncomputable abbrev ip:Stmt:=top 29
noncomputable abbrev iZ:Stmt:=top 28
noncomputable abbrev iT:Stmt:=top 27
noncomputable abbrev iS:Stmt:=top 48
noncomputable abbrev jd:Stmt:=top 46
noncomputable abbrev iq:Stmt:=top 30
noncomputable abbrev iX:Stmt:=top 33
noncomputable abbrev iY:Stmt:=top 41
noncomputable abbrev iW:Stmt:=top 34
noncomputable abbrev iV:Stmt:=top 39
noncomputable abbrev jc:Stmt:=top 40
noncomputable abbrev iU:Stmt:=top 43
noncomputable abbrev iu:Stmt:=top 42
noncomputable abbrev ir:Stmt:=b8 (top 44) 0
noncomputable abbrev jj:Stmt:=b8 (top 44) 6
noncomputable abbrev ja:Stmt:=b8 (top 44) 3
noncomputable abbrev jh:Stmt:=b8 (top 44) 7
noncomputable abbrev jg:Stmt:=b8 (top 44) 8
noncomputable abbrev ji:Stmt:=b8 (top 44) 9
noncomputable abbrev jb:Stmt:=b8 (top 44) 1
noncomputable abbrev je:Stmt:=b8 (top 44) 2
noncomputable abbrev i9:Stmt:=b8 (top 44) 4
set_option genInjectivity false in
set_option genSizeOf false in
structure Adr where
 f_law:Addr
 d_law:FuncData
 v_law:Value
 f_draws:Addr
 d_draws:FuncData
 v_draws:Value
 f_Jq:Addr
 d_Jq:FuncData
 v_Jq:Value
 f_parts:Addr
 d_parts:FuncData
 v_parts:Value
 f_row:Addr
 d_row:FuncData
 v_row:Value
 f_Jb:Addr
 d_Jb:FuncData
 v_Jb:Value
 f_Js:Addr
 d_Js:FuncData
 v_Js:Value
 f_Jr:Addr
 d_Jr:FuncData
 v_Jr:Value
 f_names:Addr
 d_names:FuncData
 v_names:Value
 f_J5:Addr
 d_J5:FuncData
 v_J5:Value
 f_Jg:Addr
 d_Jg:FuncData
 v_Jg:Value
 f_told:Addr
 d_told:FuncData
 v_told:Value
 f_is:Addr
 d_is:FuncData
 v_is:Value
 f_whole:Addr
 d_whole:FuncData
 v_whole:Value
 f_Jt:Addr
 d_Jt:FuncData
 v_Jt:Value
 f_Jc:Addr
 d_Jc:FuncData
 v_Jc:Value
 f_Jn:Addr
 d_Jn:FuncData
 v_Jn:Value
 f_Jh:Addr
 d_Jh:FuncData
 v_Jh:Value
 f_Jp:Addr
 d_Jp:FuncData
 v_Jp:Value
 f_Ju:Addr
 d_Ju:FuncData
 v_Ju:Value
 f_J7:Addr
 d_J7:FuncData
 v_J7:Value
 f_Jj:Addr
 d_Jj:FuncData
 v_Jj:Value
 f_Jk:Addr
 d_Jk:FuncData
 v_Jk:Value
 f_Ji:Addr
 d_Ji:FuncData
 v_Ji:Value
 f_Jl:Addr
 d_Jl:FuncData
 v_Jl:Value
 f_Jm:Addr
 d_Jm:FuncData
 v_Jm:Value
 f_J8:Addr
 d_J8:FuncData
 v_J8:Value
 f_Jo:Addr
 d_Jo:FuncData
 v_Jo:Value
 f_J9:Addr
 d_J9:FuncData
 v_J9:Value
 f_Jd:Addr
 d_Jd:FuncData
 v_Jd:Value
 f_J0:Addr
 d_J0:FuncData
 v_J0:Value
 f_Je:Addr
 d_Je:FuncData
 v_Je:Value
 f_J2:Addr
 d_J2:FuncData
 v_J2:Value
 f_J3:Addr
 d_J3:FuncData
 v_J3:Value
 f_J1:Addr
 d_J1:FuncData
 v_J1:Value
 f_Ja:Addr
 d_Ja:FuncData
 v_Ja:Value
 f_J6:Addr
 d_J6:FuncData
 v_J6:Value
 f_Jf:Addr
 d_Jf:FuncData
 v_Jf:Value
 c_Program:Addr
 c_RailError:Addr
 c_NoKind:Addr
 c_NoEnd:Addr
 c_NoSide:Addr
 c_NoNote:Addr
 c_NoPiece:Addr
 c_NoRod:Addr
 c_NoPoint:Addr
 c_NoBell:Addr
 c_SameEnd:Addr
 c_Linked:Addr
 c_NotLinked:Addr
 c_Occupied:Addr
 c_NoStand:Addr
 c_NoMany:Addr
 c_NoStretch:Addr
 c_NoRow:Addr
 c_NoMark:Addr
 c_NoCounter:Addr
 c_NoWidth:Addr
 c_NoValue:Addr
 c_FallsOut:Addr
 c_NoText:Addr
 p_law:Addr
 u_FIGURES:Value
 u_LAST_NOTE:Value
 u_LAST_WORDS:Value
 u_PARTS:Value
 u_WIDEST:Value
noncomputable def dN (t:Adr) (i:Nat):List (Addr×Bool):=[(t.c_NoKind,i == 0),(t.c_NoEnd,i == 1),(t.c_NoSide,i == 2),(t.c_NoNote,i == 3),(t.c_NoPiece,i == 4),(t.c_NoRod,i == 5),(t.c_NoPoint,i == 6),(t.c_NoBell,i == 7),(t.c_SameEnd,i == 8),(t.c_Linked,i == 9),(t.c_NotLinked,i == 10),(t.c_Occupied,i == 11),(t.c_NoStand,i == 12),(t.c_NoMany,i == 13),(t.c_NoStretch,i == 14),(t.c_NoRow,i == 15),(t.c_NoMark,i == 16),(t.c_NoCounter,i == 17),(t.c_NoWidth,i == 18),(t.c_NoValue,i == 19),(t.c_FallsOut,i == 20),(t.c_NoText,i == 21)]
noncomputable def fw (i:Nat):List (Str×Bool):=[("NoKind",i == 0),("NoEnd",i == 1),("NoSide",i == 2),("NoNote",i == 3),("NoPiece",i == 4),("NoRod",i == 5),("NoPoint",i == 6),("NoBell",i == 7),("SameEnd",i == 8),("Linked",i == 9),("NotLinked",i == 10),("Occupied",i == 11),("NoStand",i == 12),("NoMany",i == 13),("NoStretch",i == 14),("NoRow",i == 15),("NoMark",i == 16),("NoCounter",i == 17),("NoWidth",i == 18),("NoValue",i == 19),("FallsOut",i == 20),("NoText",i == 21),("plain",false)]
noncomputable def fT (i:Nat):Str:=((["NoKind","NoEnd","NoSide","NoNote","NoPiece","NoRod","NoPoint","NoBell","SameEnd","Linked","NotLinked","Occupied","NoStand","NoMany","NoStretch","NoRow","NoMark","NoCounter","NoWidth","NoValue","FallsOut","NoText"]:List Str)[i]?).getD ""
structure Txt (K:PySem.W.Frag) (mg:Str->Option Value) (t:Adr):Prop where
 F_law:FunG K "law" "law" cx t.v_law t.f_law t.d_law
 F_draws:FunG K "_law_draws" "_law_draws" cy t.v_draws t.f_draws t.d_draws
 F_Jq:FunG K "_law_program" "_law_program" io t.v_Jq t.f_Jq t.d_Jq
 F_parts:FunG K "_law_parts" "_law_parts" cu t.v_parts t.f_parts t.d_parts
 F_row:FunG K "_law_row" "_law_row" eT t.v_row t.f_row t.d_row
 F_Jb:FunG K "_law_program_text" "_law_program_text" fM t.v_Jb t.f_Jb t.d_Jb
 F_Js:FunG K "_law_copied" "_law_copied" im t.v_Js t.f_Js t.d_Js
 F_Jr:FunG K "_law_refused" "_law_refused" fL t.v_Jr t.f_Jr t.d_Jr
 F_names:FunG K "_law_names" "_law_names" cv t.v_names t.f_names t.d_names
 F_J5:FunG K "_law_numbers_spoilt" "_law_numbers_spoilt" jf t.v_J5 t.f_J5 t.d_J5
 F_Jg:FunG K "_law_form_spoilt" "_law_form_spoilt" gG t.v_Jg t.f_Jg t.d_Jg
 F_told:FunG K "_law_told" "_law_told" cU t.v_told t.f_told t.d_told
 F_is:FunG K "_law_is" "_law_is" iR t.v_is t.f_is t.d_is
 F_whole:FunG K "_law_whole" "_law_whole" cr t.v_whole t.f_whole t.d_whole
 F_Jt:FunG K "_law_is_row" "_law_is_row" ik t.v_Jt t.f_Jt t.d_Jt
 F_Jc:FunG K "read_program" "read_program" gH t.v_Jc t.f_Jc t.d_Jc
 F_Jn:FunG K "read_line" "read_line" ip t.v_Jn t.f_Jn t.d_Jn
 F_Jh:FunG K "read_number" "read_number" iZ t.v_Jh t.f_Jh t.d_Jh
 F_Jp:FunG K "is_plain" "is_plain" iT t.v_Jp t.f_Jp t.d_Jp
 F_Ju:FunG K "row_of" "row_of" iS t.v_Ju t.f_Ju t.d_Ju
 F_J7:FunG K "write_program" "write_program" jd t.v_J7 t.f_J7 t.d_J7
 F_Jj:FunG K "write_line" "write_line" iq t.v_Jj t.f_Jj t.d_Jj
 F_Jk:FunG K "check_side" "check_side" iX t.v_Jk t.f_Jk t.d_Jk
 F_Ji:FunG K "check_width" "check_width" iY t.v_Ji t.f_Ji t.d_Ji
 F_Jl:FunG K "check_note" "check_note" iW t.v_Jl t.f_Jl t.d_Jl
 F_Jm:FunG K "check_mark" "check_mark" iV t.v_Jm t.f_Jm t.d_Jm
 F_J8:FunG K "check_counter" "check_counter" jc t.v_J8 t.f_J8 t.d_J8
 F_Jo:FunG K "check_row" "check_row" iU t.v_Jo t.f_Jo t.d_Jo
 F_J9:FunG K "check_stretch" "check_stretch" iu t.v_J9 t.f_J9 t.d_J9
 F_Jd:FunG K "__init__" "Program.__init__" ir t.v_Jd t.f_Jd t.d_Jd
 F_J0:FunG K "check_beginning" "Program.check_beginning" jj t.v_J0 t.f_J0 t.d_J0
 F_Je:FunG K "many" "Program.many" ja t.v_Je t.f_Je t.d_Je
 F_J2:FunG K "check_rows" "Program.check_rows" jh t.v_J2 t.f_J2 t.d_J2
 F_J3:FunG K "check_part" "Program.check_part" jg t.v_J3 t.f_J3 t.d_J3
 F_J1:FunG K "check_called" "Program.check_called" ji t.v_J1 t.f_J1 t.d_J1
 F_Ja:FunG K "marks" "Program.marks" jb t.v_Ja t.f_Ja t.d_Ja
 F_J6:FunG K "widths" "Program.widths" je t.v_J6 t.f_J6 t.d_J6
 F_Jf:FunG K "rows" "Program.rows" i9 t.v_Jf t.f_Jf t.d_Jf
 m_law:mg "law" = some (.ref t.f_law)
 e_law:t.v_law=.none
 m_draws:mg "_law_draws" = some (.ref t.f_draws)
 e_draws:t.v_draws=.none
 m_Jq:mg "_law_program" = some (.ref t.f_Jq)
 e_Jq:t.v_Jq=.none
 m_parts:mg "_law_parts" = some (.ref t.f_parts)
 e_parts:t.v_parts=.none
 m_row:mg "_law_row" = some (.ref t.f_row)
 e_row:t.v_row=.none
 m_Jb:mg "_law_program_text" = some (.ref t.f_Jb)
 e_Jb:t.v_Jb=.none
 m_Js:mg "_law_copied" = some (.ref t.f_Js)
 e_Js:t.v_Js=.none
 m_Jr:mg "_law_refused" = some (.ref t.f_Jr)
 e_Jr:t.v_Jr=.none
 m_names:mg "_law_names" = some (.ref t.f_names)
 e_names:t.v_names=.none
 m_J5:mg "_law_numbers_spoilt" = some (.ref t.f_J5)
 e_J5:t.v_J5=.none
 m_Jg:mg "_law_form_spoilt" = some (.ref t.f_Jg)
 e_Jg:t.v_Jg=.none
 m_told:mg "_law_told" = some (.ref t.f_told)
 e_told:t.v_told=.none
 m_is:mg "_law_is" = some (.ref t.f_is)
 e_is:t.v_is=.none
 m_whole:mg "_law_whole" = some (.ref t.f_whole)
 e_whole:t.v_whole=.none
 m_Jt:mg "_law_is_row" = some (.ref t.f_Jt)
 e_Jt:t.v_Jt=.none
 m_Jc:mg "read_program" = some (.ref t.f_Jc)
 e_Jc:t.v_Jc=.none
 m_Jn:mg "read_line" = some (.ref t.f_Jn)
 e_Jn:t.v_Jn=.none
 m_Jh:mg "read_number" = some (.ref t.f_Jh)
 e_Jh:t.v_Jh=.none
 m_Jp:mg "is_plain" = some (.ref t.f_Jp)
 e_Jp:t.v_Jp=.none
 m_Ju:mg "row_of" = some (.ref t.f_Ju)
 e_Ju:t.v_Ju=.none
 m_J7:mg "write_program" = some (.ref t.f_J7)
 e_J7:t.v_J7=.none
 m_Jj:mg "write_line" = some (.ref t.f_Jj)
 e_Jj:t.v_Jj=.none
 m_Jk:mg "check_side" = some (.ref t.f_Jk)
 e_Jk:t.v_Jk=.none
 m_Ji:mg "check_width" = some (.ref t.f_Ji)
 e_Ji:t.v_Ji=.none
 m_Jl:mg "check_note" = some (.ref t.f_Jl)
 e_Jl:t.v_Jl=.none
 m_Jm:mg "check_mark" = some (.ref t.f_Jm)
 e_Jm:t.v_Jm=.none
 m_J8:mg "check_counter" = some (.ref t.f_J8)
 e_J8:t.v_J8=.none
 m_Jo:mg "check_row" = some (.ref t.f_Jo)
 e_Jo:t.v_Jo=.none
 m_J9:mg "check_stretch" = some (.ref t.f_J9)
 e_J9:t.v_J9=.none
 e_Jd:t.v_Jd=.none
 M_J0:Meth K t.c_Program "check_beginning" t.f_J0
 e_J0:t.v_J0=.none
 M_Je:Meth K t.c_Program "many" t.f_Je
 e_Je:t.v_Je=.none
 M_J2:Meth K t.c_Program "check_rows" t.f_J2
 e_J2:t.v_J2=.none
 M_J3:Meth K t.c_Program "check_part" t.f_J3
 e_J3:t.v_J3=.none
 M_J1:Meth K t.c_Program "check_called" t.f_J1
 e_J1:t.v_J1=.none
 M_Ja:Meth K t.c_Program "marks" t.f_Ja
 e_Ja:t.v_Ja=.none
 M_J6:Meth K t.c_Program "widths" t.f_J6
 e_J6:t.v_J6=.none
 M_Jf:Meth K t.c_Program "rows" t.f_Jf
 e_Jf:t.v_Jf=.none
 cl_Program:Cls K t.c_Program
 m_Program:mg "Program" = some (.ref t.c_Program)
 mk_Program:Mk K t.c_Program t.f_Jd
 n_Program_mark_sides:NoAttr K t.c_Program "mark_sides"
 n_Program_counter_widths:NoAttr K t.c_Program "counter_widths"
 n_Program_stretches:NoAttr K t.c_Program "stretches"
 m_RailError:mg "RailError" = some (.ref t.c_RailError)
 m_NoKind:mg "NoKind" = some (.ref t.c_NoKind)
 m_NoEnd:mg "NoEnd" = some (.ref t.c_NoEnd)
 m_NoSide:mg "NoSide" = some (.ref t.c_NoSide)
 m_NoNote:mg "NoNote" = some (.ref t.c_NoNote)
 m_NoPiece:mg "NoPiece" = some (.ref t.c_NoPiece)
 m_NoRod:mg "NoRod" = some (.ref t.c_NoRod)
 m_NoPoint:mg "NoPoint" = some (.ref t.c_NoPoint)
 m_NoBell:mg "NoBell" = some (.ref t.c_NoBell)
 m_SameEnd:mg "SameEnd" = some (.ref t.c_SameEnd)
 m_Linked:mg "Linked" = some (.ref t.c_Linked)
 m_NotLinked:mg "NotLinked" = some (.ref t.c_NotLinked)
 m_Occupied:mg "Occupied" = some (.ref t.c_Occupied)
 m_NoStand:mg "NoStand" = some (.ref t.c_NoStand)
 m_NoMany:mg "NoMany" = some (.ref t.c_NoMany)
 m_NoStretch:mg "NoStretch" = some (.ref t.c_NoStretch)
 m_NoRow:mg "NoRow" = some (.ref t.c_NoRow)
 m_NoMark:mg "NoMark" = some (.ref t.c_NoMark)
 m_NoCounter:mg "NoCounter" = some (.ref t.c_NoCounter)
 m_NoWidth:mg "NoWidth" = some (.ref t.c_NoWidth)
 m_NoValue:mg "NoValue" = some (.ref t.c_NoValue)
 m_FallsOut:mg "FallsOut" = some (.ref t.c_FallsOut)
 m_NoText:mg "NoText" = some (.ref t.c_NoText)
 x_NoSide:aQ K t.c_NoSide t.c_RailError (dN t 2)=true
 x_NoNote:aQ K t.c_NoNote t.c_RailError (dN t 3)=true
 x_NoMark:aQ K t.c_NoMark t.c_RailError (dN t 16)=true
 x_NoCounter:aQ K t.c_NoCounter t.c_RailError (dN t 17)=true
 x_NoWidth:aQ K t.c_NoWidth t.c_RailError (dN t 18)=true
 x_NoStretch:aQ K t.c_NoStretch t.c_RailError (dN t 14)=true
 x_NoRow:aQ K t.c_NoRow t.c_RailError (dN t 15)=true
 x_FallsOut:aQ K t.c_FallsOut t.c_RailError (dN t 20)=true
 x_NoText:aQ K t.c_NoText t.c_RailError (dN t 21)=true
 tb_law:∃ c,t.d_law.code=.ref c/\W.codeHdIn K c t.p_law=true
 tn_law:K.lookup t.p_law=none
 z_ValueError:mg "ValueError" = none
 z_abs:mg "abs" = none
 z_all:mg "all" = none
 z_bool:mg "bool" = none
 z_enumerate:mg "enumerate" = none
 z_int:mg "int" = none
 z_isinstance:mg "isinstance" = none
 z_len:mg "len" = none
 z_list:mg "list" = none
 z_range:mg "range" = none
 z_str:mg "str" = none
 z_tuple:mg "tuple" = none
 z_zip:mg "zip" = none
 g_FIGURES:mg "FIGURES" = some t.u_FIGURES
 r_FIGURES:RelV (.str "0123456789") t.u_FIGURES
 g_LAST_NOTE:mg "LAST_NOTE" = some t.u_LAST_NOTE
 r_LAST_NOTE:RelV (.int 9999) t.u_LAST_NOTE
 g_LAST_WORDS:mg "LAST_WORDS" = some t.u_LAST_WORDS
 x_LAST_WORDS:∃ (a:Addr) (o:Obj) (its:Array Value) (n:Nat),t.u_LAST_WORDS=.ref a/\K.lookup a=some o/\o.cls=.type "tuple" /\ o.data=.seq its n/\its.size<=sizeLine/\Vals [.str "ask",.str "go",.str "end"] its.toList
 g_PARTS:mg "PARTS" = some t.u_PARTS
 x_PARTS:∃ a,t.u_PARTS=.ref a/\oh K a [("bell",["note"]),("set",["mark","side"]),("ask",["mark","row","row"]),("bump",["counter","row"]),("go",["row"]),("call",["stretch"]),("end",[])]
 g_WIDEST:mg "WIDEST" = some t.u_WIDEST
 r_WIDEST:RelV (.int 8) t.u_WIDEST
variable{motive:List Value->Prop}
section
variable {K:PySem.W.Frag}{mg:Str->Option Value}{t:Adr}
@[elab_as_elim] theorem lx1 (h:∀ a,motive [a]):∀ us:List Value,us.length=1->motive us
 | [_],_=>h _
@[elab_as_elim] theorem lx2 (h:∀ a b,motive [a,b]):∀ us:List Value,us.length=2->motive us
 | [_,_],_=>h _ _
@[elab_as_elim] theorem lx3 (h:∀ a b c,motive [a,b,c]):∀ us:List Value,us.length=3->motive us
 | [_,_,_],_=>h _ _ _
@[elab_as_elim] theorem lx4 (h:∀ a b c d,motive [a,b,c,d]):∀ us:List Value,us.length=4->motive us
 | [_,_,_,_],_=>h _ _ _ _
@[elab_as_elim] theorem lx5 (h:∀ a b c d e,motive [a,b,c,d,e]):∀ us:List Value,us.length=5->motive us
 | [_,_,_,_,_],_=>h _ _ _ _ _
@[elab_as_elim] theorem lx7 (h:∀ a b c d e f g,motive [a,b,c,d,e,f,g]):∀ us:List Value,us.length=7->motive us
 | [_,_,_,_,_,_,_],_=>h _ _ _ _ _ _ _
theorem py (T:Txt K mg t):Binds K t.d_draws ["_law_script","_law_many"] []:=(T.e_draws ▸ T.F_draws).binds fun _ _ _ _ _ _ us hl=>lx2 (fun _ _=>rfl) us hl
theorem b_Jq (T:Txt K mg t):Binds K t.d_Jq ["_law_d"] []:=(T.e_Jq ▸ T.F_Jq).binds fun _ _ _ _ _ _ us hl=>lx1 (fun _=>rfl) us hl
theorem pw (T:Txt K mg t):Binds K t.d_parts ["_law_d","_law_at","_law_marks","_law_counters"] []:=(T.e_parts ▸ T.F_parts).binds fun _ _ _ _ _ _ us hl=>lx4 (fun _ _ _ _=>rfl) us hl
theorem b_row (T:Txt K mg t):Binds K t.d_row ["_law_d","_law_k","_law_more","_law_many","_law_marks","_law_counters","_law_later"] []:=(T.e_row ▸ T.F_row).binds fun _ _ _ _ _ _ us hl=>lx7 (fun _ _ _ _ _ _ _=>rfl) us hl
theorem b_Jb (T:Txt K mg t):Binds K t.d_Jb ["_law_marks","_law_widths","_law_parts_here"] []:=(T.e_Jb ▸ T.F_Jb).binds fun _ _ _ _ _ _ us hl=>lx3 (fun _ _ _=>rfl) us hl
theorem b_Js (T:Txt K mg t):Binds K t.d_Js ["_law_parts_here"] []:=(T.e_Js ▸ T.F_Js).binds fun _ _ _ _ _ _ us hl=>lx1 (fun _=>rfl) us hl
theorem b_Jr (T:Txt K mg t):Binds K t.d_Jr ["_law_deed"] []:=(T.e_Jr ▸ T.F_Jr).binds fun _ _ _ _ _ _ us hl=>lx1 (fun _=>rfl) us hl
theorem px (T:Txt K mg t):Binds K t.d_names ["_law_e"] []:=(T.e_names ▸ T.F_names).binds fun _ _ _ _ _ _ us hl=>lx1 (fun _=>rfl) us hl
theorem b_J5 (T:Txt K mg t):Binds K t.d_J5 ["_law_d","_law_at","_law_marks","_law_widths","_law_parts_here"] []:=(T.e_J5 ▸ T.F_J5).binds fun _ _ _ _ _ _ us hl=>lx5 (fun _ _ _ _ _=>rfl) us hl
theorem b_Jg (T:Txt K mg t):Binds K t.d_Jg ["_law_text","_law_way","_law_draw","_law_other"] []:=(T.e_Jg ▸ T.F_Jg).binds fun _ _ _ _ _ _ us hl=>lx4 (fun _ _ _ _=>rfl) us hl
theorem rM (T:Txt K mg t):Binds K t.d_told ["_law_program_here","_law_marks","_law_widths","_law_parts_here"] []:=(T.e_told ▸ T.F_told).binds fun _ _ _ _ _ _ us hl=>lx4 (fun _ _ _ _=>rfl) us hl
theorem r9 (T:Txt K mg t):Binds K t.d_is ["_law_found","_law_due"] []:=(T.e_is ▸ T.F_is).binds fun _ _ _ _ _ _ us hl=>lx2 (fun _ _=>rfl) us hl
theorem pr (T:Txt K mg t):Binds K t.d_whole ["_law_found"] []:=(T.e_whole ▸ T.F_whole).binds fun _ _ _ _ _ _ us hl=>lx1 (fun _=>rfl) us hl
theorem si (T:Txt K mg t):Binds K t.d_Jt ["_law_found","_law_due"] []:=(T.e_Jt ▸ T.F_Jt).binds fun _ _ _ _ _ _ us hl=>lx2 (fun _ _=>rfl) us hl
theorem pA (T:Txt K mg t):Binds K t.d_Jc ["text"] []:=(T.e_Jc ▸ T.F_Jc).binds fun _ _ _ _ _ _ us hl=>lx1 (fun _=>rfl) us hl
theorem b_Jn (T:Txt K mg t):Binds K t.d_Jn ["line"] []:=(T.e_Jn ▸ T.F_Jn).binds fun _ _ _ _ _ _ us hl=>lx1 (fun _=>rfl) us hl
theorem b_Jh (T:Txt K mg t):Binds K t.d_Jh ["word"] []:=(T.e_Jh ▸ T.F_Jh).binds fun _ _ _ _ _ _ us hl=>lx1 (fun _=>rfl) us hl
theorem b_Jp (T:Txt K mg t):Binds K t.d_Jp ["word"] []:=(T.e_Jp ▸ T.F_Jp).binds fun _ _ _ _ _ _ us hl=>lx1 (fun _=>rfl) us hl
theorem b_Ju (T:Txt K mg t):Binds K t.d_Ju ["word","numbers"] []:=(T.e_Ju ▸ T.F_Ju).binds fun _ _ _ _ _ _ us hl=>lx2 (fun _ _=>rfl) us hl
theorem b_J7 (T:Txt K mg t):Binds K t.d_J7 ["program"] []:=(T.e_J7 ▸ T.F_J7).binds fun _ _ _ _ _ _ us hl=>lx1 (fun _=>rfl) us hl
theorem rN (T:Txt K mg t):Binds K t.d_Jj ["word","numbers"] []:=(T.e_Jj ▸ T.F_Jj).binds fun _ _ _ _ _ _ us hl=>lx2 (fun _ _=>rfl) us hl
theorem sj (T:Txt K mg t):Binds K t.d_Jk ["side"] []:=(T.e_Jk ▸ T.F_Jk).binds fun _ _ _ _ _ _ us hl=>lx1 (fun _=>rfl) us hl
theorem b_Ji (T:Txt K mg t):Binds K t.d_Ji ["width"] []:=(T.e_Ji ▸ T.F_Ji).binds fun _ _ _ _ _ _ us hl=>lx1 (fun _=>rfl) us hl
theorem b_Jl (T:Txt K mg t):Binds K t.d_Jl ["note"] []:=(T.e_Jl ▸ T.F_Jl).binds fun _ _ _ _ _ _ us hl=>lx1 (fun _=>rfl) us hl
theorem b_Jm (T:Txt K mg t):Binds K t.d_Jm ["mark","many"] []:=(T.e_Jm ▸ T.F_Jm).binds fun _ _ _ _ _ _ us hl=>lx2 (fun _ _=>rfl) us hl
theorem b_J8 (T:Txt K mg t):Binds K t.d_J8 ["counter","many"] []:=(T.e_J8 ▸ T.F_J8).binds fun _ _ _ _ _ _ us hl=>lx2 (fun _ _=>rfl) us hl
theorem b_Jo (T:Txt K mg t):Binds K t.d_Jo ["row","many"] []:=(T.e_Jo ▸ T.F_Jo).binds fun _ _ _ _ _ _ us hl=>lx2 (fun _ _=>rfl) us hl
theorem sv (T:Txt K mg t):Binds K t.d_J9 ["stretch","many"] []:=(T.e_J9 ▸ T.F_J9).binds fun _ _ _ _ _ _ us hl=>lx2 (fun _ _=>rfl) us hl
theorem sr (T:Txt K mg t):Binds K t.d_Jd ["self","marks","widths","stretches"] []:=(T.e_Jd ▸ T.F_Jd).binds fun _ _ _ _ _ _ us hl=>lx4 (fun _ _ _ _=>rfl) us hl
theorem b_J0 (T:Txt K mg t):Binds K t.d_J0 ["self"] []:=(T.e_J0 ▸ T.F_J0).binds fun _ _ _ _ _ _ us hl=>lx1 (fun _=>rfl) us hl
theorem n8 (T:Txt K mg t):Binds K t.d_Je ["self"] []:=(T.e_Je ▸ T.F_Je).binds fun _ _ _ _ _ _ us hl=>lx1 (fun _=>rfl) us hl
theorem b_J2 (T:Txt K mg t):Binds K t.d_J2 ["self","stretch"] []:=(T.e_J2 ▸ T.F_J2).binds fun _ _ _ _ _ _ us hl=>lx2 (fun _ _=>rfl) us hl
theorem b_J3 (T:Txt K mg t):Binds K t.d_J3 ["self","part","number","stretch"] []:=(T.e_J3 ▸ T.F_J3).binds fun _ _ _ _ _ _ us hl=>lx4 (fun _ _ _ _=>rfl) us hl
theorem b_J1 (T:Txt K mg t):Binds K t.d_J1 ["self","called","stretch"] []:=(T.e_J1 ▸ T.F_J1).binds fun _ _ _ _ _ _ us hl=>lx3 (fun _ _ _=>rfl) us hl
theorem su (T:Txt K mg t):Binds K t.d_Ja ["self"] []:=(T.e_Ja ▸ T.F_Ja).binds fun _ _ _ _ _ _ us hl=>lx1 (fun _=>rfl) us hl
theorem sB (T:Txt K mg t):Binds K t.d_J6 ["self"] []:=(T.e_J6 ▸ T.F_J6).binds fun _ _ _ _ _ _ us hl=>lx1 (fun _=>rfl) us hl
theorem so (T:Txt K mg t):Binds K t.d_Jf ["self","stretch"] []:=(T.e_Jf ▸ T.F_Jf).binds fun _ _ _ _ _ _ us hl=>lx2 (fun _ _=>rfl) us hl
end
noncomputable def Dr (ds:List Int):Prop:=∀ d ∈ ds,0<=d/\d<10 ^ 18
inductive sp_draws (K:PySem.W.Frag) (vs:List V) (H:Hp) (Q:VK) (E_:XK):Prop
 | mk (a:Addr) (ns:List Int) (n:Int) (L:Kn) (_:vs=[.ref a,.int n]) (_:SqL K H a (ns.map V.int)) (_:ns.length<=63) (_:0<=n) (_:n<=1000) (_:Has H L) (_:∀ H' p ds,Has H' ((p,.lst (ds.map V.int))::L)->ds.length=n.toNat->Dr ds->Q (.ref p) H'):sp_draws K vs H Q E_
section
variable {P:Program}{w:World}{K:PySem.W.Frag}{mg:Str->Option Value}{base:Heap}{t:Adr}
theorem scD:FnScope ["_law_script","_law_many","_law_row_here","_law_base","_law_cell","_law_left","_law_turn"] ["_law_script","_law_many"] (ac cy):={}
theorem Dr.snoc {ds:List Int}{d:Int} (h:Dr ds) (h0:0<=d) (h1:d<10 ^ 18):Dr (ds++[d]):=fun x hx=>by
 rcases sY.mp hx with hx | hx
 ·exact h x hx
 ·have:x=d:=by simpa using hx
  subst this; exact⟨h0,h1⟩
theorem fW (ds:List Int) (d:Int):ds.map V.int++[V.int d]=(ds++[d]).map V.int:=by simp
theorem m8 (T:Txt K mg t):FnOk P w K mg base CX0 1 t.f_draws t.d_draws ["_law_script","_law_many"] (sp_draws K):=by
 refine T.F_draws.ok scD (fun vs H Q E h=>?_) (fun cdv A outer s H vs Q E hr h=>?_)
 ·obtain⟨_,_,_,_,rfl,_⟩:=h
  rfl
 ·obtain⟨a,ns,n,L,rfl,hS,hns,hn0,hn1,hL,k⟩:=h
  refine⟨_,(af (aC (i:=2) scD.nd rfl (Or.inl rfl) (aV ad))
   (af (aC (i:=3) scD.nd rfl (Or.inl rfl) ae)
   (af (bv PassesOwn.never rfl (bh (bG dq (pv 0) bY (bX ae))) (az (i:=4) scD.nd rfl (Or.inl rfl))
    (af (aC (i:=5) scD.nd rfl (Or.inl rfl) (aq nY (by rfl) T.z_abs (by rfl) (aa (pv 4) ad)))
     (af (aC (i:=3) scD.nd rfl (Or.inl rfl) (ak ay (ak aL (ak aL (ak dh (pv 3) ae) (pv 5)) (ak dh ae (aO hW (by rfl) T.z_int (by rfl) (aa (bZ cK (pv 4) ae (ar _)) ad)))) ae))
     (ag (aD (ap cK (pv 5) (ak mY ae ae) (ar _))
      (ag (aG (bf PySem.F.plainAttrs_list PySem.F.slot_list_append PySem.F.type_list_append aR (pv 2) (aa (pv 5) ad))))
      (ag (bv PassesOwn.never rfl (bD (by rfl) T.z_range (aa ae ad)) (az (i:=6) scD.nd rfl (Or.inl rfl))
        (ag (aD (ap bW (pv 5) ae (ar _))
          (af (aG (bf PySem.F.plainAttrs_list PySem.F.slot_list_append PySem.F.type_list_append aR (pv 2) (aa (ak ay (pv 5) ae) ad)))
           (ag (aC (i:=5) scD.nd rfl (Or.inl rfl) (ak bN (pv 5) ae))))
          ax)))))))))
   (af (mH PassesOwn.never (ap cK (aq av (by rfl) T.z_len (by rfl) (aa (pv 2) ad)) (pv 1) (ar _))
    (af (aC (i:=3) scD.nd rfl (Or.inl rfl) (ak ay (ak aL (ak dh (pv 3) ae) ae) ae))
     (ag (aG (bf PySem.F.plainAttrs_list PySem.F.slot_list_append PySem.F.type_list_append aR (pv 2) (aa (ak ay (ak bN (ak dh (pv 3) (pv 3)) ae) ae) ad))))))
   (ag (aJ (bG dq (pv 2) bY (bX (pv 1))))))))),?_⟩
  refine⟨by decide,fun r hr0=>?_⟩
  have h1:=hL.alloc hr0 (.lst [])
  have hS1:SqL K (upd H r (.lst [])) a (ns.map V.int):=hS.alloc hr0
  generalize upd H r (.lst [])=H1 at *
  refine⟨_,U,_,U,a,_,U,hS1,fun sl hsl=>?_⟩
  have h2:=h1.alloc hsl (.lst (bQ (ns.map V.int) none (some 63)))
  generalize upd H1 sl (.lst (bQ (ns.map V.int) none (some 63)))=H2 at *
  refine⟨sl,U,⟨_,SqL.of (h2.get 0 U)⟩,?_⟩
  refine bP (K:=K) (a:=sl) (xs:=bQ (ns.map V.int) none (some 63)) (fun i σ H'=>∃ (row:List Int) (b:Int) (c l t:Option V),σ=[some (.ref a),some (.int n),some (.ref r),some (.int b),c,l,t] /\
   Has H' ((r,.lst (row.map V.int))::(sl,.lst (bQ (ns.map V.int) none (some 63)))::L)/\row.length<=60*i/\Dr row/\0<=b/\b<2147483647)
   ⟨[],7,none,none,none,U,h2.swap2,Nat.zero_le _,(fun _ h=>nomatch h),by decide,by decide⟩ (fun i σ H' _ ⟨row,b,c,l,t,_,h,_⟩=>SqL.of (h.get 1 U)) ?_ ?_
  ·rintro i y σ H' hi ⟨row,b,c,l,t,rfl,h3,hlen,hd,b0,b1⟩
   have hi63:i<63:=by
    have h5:=(List.getElem?_eq_some_iff.mp hi).1
    rw[cQ _ _ (by decide),tx,sI] at h5
    omega
   obtain⟨z,rfl⟩:∃ z,y=V.int z:=by
    rw[cQ _ _ (by decide),List.getElem?_take_of_lt (by omega),sN] at hi
    cases e:ns[i]? with
    | none=>rw[e] at hi; cases hi
    | some z=>rw[e] at hi; exact⟨z,(Option.some.inj hi).symm⟩
   refine⟨_,U,_,U,?_⟩
   have hab:0<=(if z<0 then -z else z):=by split <;> omega
   generalize (if z<0 then -z else z)=left at *
   refine⟨_,U,_,_,U,U,.inl ⟨by omega,by omega⟩,_,U,_,_,U,U,_,U,_,_,U,U,.inr ⟨_,U,_,_,U,U,.inl ⟨by decide,by decide⟩,_,_,U,U,_,_,U,U,(show(0:Int)<2147483647 by decide),?_⟩⟩
   have hb0:=Int.emod_nonneg (b*48271+left+2*(if decide (z<0)=true then 1 else 0)) (show(2147483647:Int)≠0 by decide)
   have hb1:=Int.emod_lt_of_pos (b*48271+left+2*(if decide (z<0)=true then 1 else 0)) (show(0:Int)<2147483647 by decide)
   refine⟨_,U,_,_,U,U,⟨by decide,by decide,by decide⟩,_,_,U,U,_,U,?_⟩
   refine rA (fun hc=>?_) (fun hc=>?_)
   ·have hc':left<10 ^ 18:=of_decide_eq_true hc
    refine⟨_,U,.inl ⟨U,_,SqL.of (h3.get 0 U)⟩,_,U,r,_,_,U,U,h3.get 0 U,?_,?_⟩
    ·rw[sI]
     exact sizeOk (by omega)
    ·refine⟨row++[left],_,_,_,_,U,?_,?_,hd.snoc hab hc',hb0,hb1⟩
     ·rw[<- fW]
      exact h3.puti 0 U _
     ·rw[sW,tE]; omega
   ·-- for turn in range(60)
    refine⟨_,U,by decide,by decide,bK (n:=60) (fun j σ H2=>∃ (row2:List Int) (l2:Int) (t2:Option V) (b2:Int),0<=b2/\b2<2147483647/\σ=[some (.ref a),some (.int n),some (.ref r),some (.int b2),some (.int z),some (.int l2),t2] /\
     Has H2 ((r,.lst (row2.map V.int))::(sl,.lst (bQ (ns.map V.int) none (some 63)))::L)/\row2.length<=row.length+j/\Dr row2/\0<=l2) ⟨row,_,_,_,hb0,hb1,U,h3,Nat.le_add_right _ _,hd,hab⟩ ?_ ?_⟩
    ·rintro j σ H2 hj ⟨row2,l2,t2,b2,hb20,hb21,rfl,h4,hlen2,hd2,hl2⟩
     refine⟨_,U,_,_,U,U,_,U,?_⟩
     refine rA (fun hc2=>?_) (fun hc2=>?_)
     ·refine⟨_,U,.inl ⟨U,_,SqL.of (h4.get 0 U)⟩,_,U,_,_,U,U,(show(0:Int)<10007 by decide),r,_,_,U,U,h4.get 0 U,?_,?_⟩
      ·rw[sI]
       exact sizeOk (by omega)
      ·refine⟨_,U,_,_,U,U,⟨by decide,by decide⟩,?_⟩
       refine⟨row2++[l2 % 10007],_,_,_,hb20,hb21,U,?_,?_,hd2.snoc (Int.emod_nonneg _ (by decide)) (Int.lt_trans (Int.emod_lt_of_pos _ (by decide)) (by decide)),Int.ediv_nonneg hl2 (by decide)⟩
       ·rw[<- fW]
        exact h4.puti 0 U _
       ·rw[sW,tE]; omega
     ·exact⟨row2,l2,_,b2,hb20,hb21,U,h4,by omega,hd2,hl2⟩
    ·rintro σ H2 ⟨row2,l2,t2,b2,hb20,hb21,rfl,h4,hlen2,hd2,hl2⟩
     exact⟨row2,b2,_,_,_,U,h4,by omega,hd2,hb20,hb21⟩
  ·rintro σ H' ⟨row,b,c,l,t,rfl,h3,hlen,hd,b0,b1⟩
   have hlx:(bQ (ns.map V.int) none (some 63)).length<=63:=by
    rw[cQ _ _ (by decide),tx]; omega
   refine lY (fun σ H'=>∃ (row:List Int) (b:Int) (c l t:Option V),σ=[some (.ref a),some (.int n),some (.ref r),some (.int b),c,l,t]/\Has H' ((r,.lst (row.map V.int))::L)/\row.length<=4000/\Dr row/\0<=b/\b<2147483647)
    (fun σ H'=>match H' r with | some (.lst xs)=>n.toNat - xs.length | _=>0) ⟨row,b,c,l,t,U,h3.swap2.tail,by omega,hd,b0,b1⟩ ?_ ?_
   ·rintro σ H' ⟨row,b,c,l,t,rfl,h4,hlen,hd,b0,b1⟩
    refine⟨_,U,r,_,U,.inl (SqL.of (h4.get 0 U)),_,U,_,_,U,U,_,U,?_⟩
    rw[sI]
    refine rA (fun hc=>?_) (fun hc=>?_)
    ·have hc':(row.length:Int)<n:=of_decide_eq_true hc
     refine⟨_,U,_,_,U,U,.inl ⟨by omega,by omega⟩,_,_,U,U,_,_,U,U,(show(0:Int)<2147483647 by decide),?_⟩
     have hb0:=Int.emod_nonneg (b*69621+12289) (show(2147483647:Int)≠0 by decide)
     have hb1:=Int.emod_lt_of_pos (b*69621+12289) (show(0:Int)<2147483647 by decide)
     refine⟨_,U,.inl ⟨U,_,SqL.of (h4.get 0 U)⟩,_,U,_,U,_,_,U,U,.inl ⟨?_,?_⟩,_,_,U,U,⟨by decide,by decide⟩,_,_,U,U,(show(0:Int)<10007 by decide),r,_,_,U,U,h4.get 0 U,?_,?_⟩
     ·show -(2 ^ 64)<(b*69621+12289) % 2147483647
      omega
     ·show(b*69621+12289) % 2147483647<2 ^ 64
      omega
     ·rw[sI]
      exact sizeOk (by omega)
     ·have hq0:=Int.emod_nonneg ((b*69621+12289) % 2147483647*((b*69621+12289) % 2147483647) / 4099) (show(10007:Int)≠0 by decide)
      have hq1:=Int.emod_lt_of_pos ((b*69621+12289) % 2147483647*((b*69621+12289) % 2147483647) / 4099) (show(0:Int)<10007 by decide)
      refine⟨⟨row++[(b*69621+12289) % 2147483647*((b*69621+12289) % 2147483647) / 4099 % 10007],_,_,_,_,U,?_,?_,hd.snoc hq0 (Int.lt_trans hq1 (by decide)),hb0,hb1⟩,?_⟩
      ·rw[<- fW]
       exact h4.puti 0 U _
      ·rw[sW,tE]; omega
      ·have e1:H' r=some (.lst (row.map V.int)):=h4.get 0 rfl
       simp only[e1,bi,sW,sI,tE]
       omega
    ·have hc':¬ (row.length:Int)<n:=fun z=>hc (decide_eq_true z)
     refine⟨_,U,_,U,_,U,r,_,U,SqL.of (h4.get 0 U),fun p hp=>?_⟩
     refine k _ p (row.take n.toNat) ?_ (by rw[tx]; omega) (fun d hd'=>hd d (List.mem_of_mem_take hd'))
     have h5:=(h4.tail).alloc hp (.lst (bQ (row.map V.int) none (some n)))
     rw[cQ _ _ hn0,<- List.map_take] at h5 ⊢
     exact h5
   ·rintro σ H' Q1 Q2 hQ ⟨v,e,p,ys,e2,h,w',e3,i,j,e4,e5,c,e6,q⟩
    exact⟨v,e,p,ys,e2,h,w',e3,i,j,e4,e5,c,e6,hQ _ _ q⟩
end
noncomputable def mi:Sp:=fun vs H Q _=>∃ i:Int,vs=[.int i]/\Q (.bl true) H
noncomputable def sp_is:Sp:=fun vs H Q _=>∃ i j:Int,vs=[.int i,.int j]/\Q (.bl (decide (i=j))) H
theorem rh (K:PySem.W.Frag):W.kitOne K (.type "int") (.type "int")=some true:=by kernel_rfl
theorem rj (K:PySem.W.Frag):W.kitOne K (.type "int") (.type "bool")=some false:=by kernel_rfl
theorem rg (K:PySem.W.Frag):W.kitOne K (.type "list") (.type "list")=some true:=by kernel_rfl
section
variable {P:Program}{w:World}{K:PySem.W.Frag}{mg:Str->Option Value}{base:Heap}{t:Adr}
theorem scWh:FnScope ["_law_found"] ["_law_found"] (ac cr):={}
theorem m4 (T:Txt K mg t):FnOk P w K mg base CX0 1 t.f_whole t.d_whole ["_law_found"] mi:=by
 refine T.F_whole.ok scWh (fun vs H Q E h=>?_) (fun cdv A outer s H vs Q E hr h=>?_)
 ·obtain⟨_,rfl,_⟩:=h
  rfl
 ·obtain⟨i,rfl,k⟩:=h
  refine⟨_,(ag (aJ (iC (aq gs (by rfl) T.z_isinstance (by rfl) (aa (pv 0) (aa (fi (v:=.ty "int") (by rfl) T.z_int (by rfl) rfl) ad))) (fQ (mS (aq gs (by rfl) T.z_isinstance (by rfl) (aa (pv 0) (aa (fi (v:=.ty "bool") (by rfl) T.z_bool (by rfl) rfl) ad)))))))),?_⟩
  refine⟨_,U,_,_,_,_,U,.int i,rh K,_,U,cY ?_⟩
  exact⟨_,U,_,_,_,_,U,.int i,rj K,_,U,k⟩
theorem scIs:FnScope ["_law_found","_law_due"] ["_law_found","_law_due"] (ac iR):={}
theorem pM (T:Txt K mg t):FnOk P w K mg base CX0 2 t.f_is t.d_is ["_law_found","_law_due"] sp_is:=by
 refine T.F_is.ok scIs (fun vs H Q E h=>?_) (fun cdv A outer s H vs Q E hr h=>?_)
 ·obtain⟨_,_,rfl,_⟩:=h
  rfl
 ·obtain⟨i,j,rfl,k⟩:=h
  refine⟨_,(ag (aJ (iC (pcl (m4 T) hr T.m_whole T.F_whole.kp (pr T) (aa (pv 0) ad)) (fQ (bZ aZ (pv 0) (pv 1) (ar _)))))),?_⟩
  refine⟨_,U,i,U,_,U,cY ?_⟩
  refine⟨_,U,_,U,U,?_⟩
  have e:decide (V.int i=V.int j)=decide (i=j):=by by_cases h:i=j <;> simp[h]
  rw[e]
  exact k
end
theorem bb (i j:Int):decide (V.int i=V.int j)=decide (i=j):=by by_cases h:i=j <;> simp[h]
inductive sp_Jt (vs:List V) (H:Hp) (Q:VK) (E_:XK):Prop
 | mk (a b:Addr) (xs ys:List Int) (i j:Nat) (L:Kn) (_:vs=[.ref a,.ref b]) (_:Has H L) (_:L[i]?=some (a,.lst (xs.map V.int))) (_:L[j]?=some (b,.lst (ys.map V.int))) (_:xs.length<=100000) (_:∀ H',Has H' L->Q (.bl (decide (xs=ys))) H'):sp_Jt vs H Q E_
theorem n9:∀ {xs ys:List Int},xs.length=ys.length->((xs.zip ys).map fun p=>decide (p.1=p.2)).all id=decide (xs=ys)
 | [],[],_=>rfl
 | x::xs,y::ys,h=>by
  have ih:=n9 (xs:=xs) (ys:=ys) (by simpa using h)
  rw[List.zip_cons_cons,sX,List.all_cons,ih]
  by_cases e:x=y
  ·subst e; simp
  ·simp[e]
section
variable {P:Program}{w:World}{K:PySem.W.Frag}{mg:Str->Option Value}{base:Heap}{t:Adr}
theorem scIr:FnScope ["_law_found","_law_due"] ["_law_found","_law_due"] (ac ik):={}
theorem pN (T:Txt K mg t):FnOk P w K mg base CX0 3 t.f_Jt t.d_Jt ["_law_found","_law_due"] sp_Jt:=by
 refine T.F_Jt.ok scIr (fun vs H Q E h=>?_) (fun cdv A outer s H vs Q E hr h=>?_)
 ·obtain⟨_,_,_,_,_,_,_,rfl,_⟩:=h
  rfl
 ·obtain⟨a,b,xs,ys,i,j,L,rfl,hH,hi,hj,hxl,q⟩:=h
  refine⟨_,(af (aD (PW.pt (dB (df (eh (aq gs (by rfl) T.z_isinstance (by rfl) (aa (pv 0) (aa (fi (v:=.ty "list") (by rfl) T.z_list (by rfl) rfl) ad))))) (cG (ap gR (aq av (by rfl) T.z_len (by rfl) (aa (pv 0) ad)) (aq av (by rfl) T.z_len (by rfl) (aa (pv 1) ad)) (ar _)))))
    (ag (aJ gQ))
    ax)
   (ag (aJ (aq (jJ rfl) (by rfl) T.z_all (by rfl) (aa (dD (esc:=ac ik) (k:=2) ["_law_one","_law_other","_law_found","_law_due"] rfl (qC (by rfl) T.z_zip (aa (pv 0) (aa (pv 1) ad))) (fun _ _ _ _ _=>by exact(fh (K:=K) (n:=2) rfl rfl (aU (az (i:=0) (show List.Nodup (["_law_one","_law_other","_law_found","_law_due"]:List Str) from by decide +kernel) rfl (Or.inl rfl)) (aU (az (i:=1) (show List.Nodup (["_law_one","_law_other","_law_found","_law_due"]:List Str) from by decide +kernel) rfl (Or.inl rfl)) cz)))) (fun _ _ _ _ _=>by exact bB) (fun _ _ _ _ _=>by exact(pcl (pM T) hr T.m_is T.F_is.kp (r9 T) (aa (pv 0) (aa (pv 1) ad)))) rfl (by decide +kernel) (by decide +kernel) rfl (by decide +kernel) (by rfl) (fun _ _ h _=>h) (by decide +kernel)) ad))))),?_⟩
  refine⟨_,U,_,_,_,_,U,.lst (hH.get i hi),rg K,_,U,dM ?_⟩
  refine⟨_,U,a,_,U,.inl (SqL.of (hH.get i hi)),_,U,b,_,U,.inl (SqL.of (hH.get j hj)),U,_,U,?_⟩
  rw[sI,sI,bb]
  refine rB (fun hc=>?_) (fun hc=>?_)
  ·have e:decide (xs=ys)=false:=decide_eq_false (fun z=>hc (by rw[z]))
   rw[e] at q
   exact q _ hH
  ·have hl:xs.length=ys.length:=by omega
   refine⟨_,U,_,U,a,b,U,⟨_,SqL.of (hH.get i hi)⟩,⟨_,SqL.of (hH.get j hj)⟩,fun D hD=>?_⟩
   refine⟨fun n m zs H'=>m=xs.length - n/\n<=xs.length/\zs=((xs.zip ys).take n).map (fun p=>V.bl (decide (p.1=p.2)))/\Has H' ((D,.lst zs)::L),⟨xs.length,by simp,Nat.zero_le _,U,hH.alloc hD _⟩,?_⟩
   rintro n m zs H' ⟨rfl,hn,rfl,h1⟩
   refine⟨h1.get 0 U,?_⟩
   have ga:=h1.get (i+1) (by simpa using hi)
   have gb:=h1.get (j+1) (by simpa using hj)
   by_cases hlt:n<xs.length
   ·refine .inr ⟨⟨_,_,_,_,SqL.of ga,(by rw[sN,sK hlt]; rfl),SqL.of gb,(by rw[sN,sK (by omega)]; rfl)⟩,?_⟩
    rintro x H2 ⟨p,x1,y1,rfl,hp,rfl,hx1,hy1⟩
    have hx2:=hx1 _ (SqL.of ga)
    have hy2:=hy1 _ (SqL.of gb)
    rw[sN,sK hlt] at hx2
    rw[sN,sK (by omega)] at hy2
    cases hx2
    cases hy2
    have h2:=h1.alloc hp (.tup [.int xs[n],.int (ys[n]'(by omega))])
    refine⟨p,_,U,SqT.of (h2.get 0 U),U,_,_,U,_,_,U,U,U,?_⟩
    refine bS ?_
    refine⟨_,U,_,U,_,_,U,?_⟩
    refine⟨?_,h2.get 1 U,xs.length - (n+1),by omega,U,hlt,?_,?_⟩
    ·rw[sI,tx]
     exact sizeOk (by omega)
    ·rw[List.take_succ,sP,sK (by rw[List.length_zip]; omega),List.getElem_zip]
     rfl
    ·exact(h2.puti 1 U _).tail
   ·have en:n=xs.length:=by omega
    refine .inl ⟨⟨_,_,SqL.of ga,SqL.of gb,.inl (by rw[sI]; omega)⟩,?_⟩
    refine⟨D,((xs.zip ys).map fun p=>decide (p.1=p.2)),U,?_,?_⟩
    ·have e:((xs.zip ys).take n).map (fun p=>V.bl (decide (p.1=p.2)))=((xs.zip ys).map fun p=>decide (p.1=p.2)).map V.bl:=by
      rw[List.take_of_length_le (by rw[List.length_zip]; omega),tF]; rfl
     rw[<- e]
     exact SqL.of (h1.get 0 U)
    ·rw[n9 hl]
     exact q _ h1.tail
end
structure PA where
 p:Addr
 dx:Addr
 m:Addr
 w:Addr
 s:Addr
noncomputable def pfl (A:PA):List (Str×V):=[("mark_sides",.ref A.m),("counter_widths",.ref A.w),("stretches",.ref A.s)]
theorem mQ (A:PA):(pfl A).lookup ("mark_sides" : Str)=some (.ref A.m):=by kernel_rfl
theorem mP (A:PA):(pfl A).lookup ("counter_widths" : Str)=some (.ref A.w):=by kernel_rfl
theorem gP (A:PA):(pfl A).lookup ("stretches" : Str)=some (.ref A.s):=by kernel_rfl
theorem c6 (A:PA):(pfl A).lookup ("many" : Str)=none/\(pfl A).lookup ("marks" : Str)=none/\(pfl A).lookup ("widths" : Str)=none/\(pfl A).lookup ("row_at" : Str)=none/\(pfl A).lookup ("check_beginning" : Str)=none/\(pfl A).lookup ("check_rows" : Str)=none/\(pfl A).lookup ("check_part" : Str)=none :=
 ⟨by kernel_rfl,by kernel_rfl,by kernel_rfl,by kernel_rfl,by kernel_rfl,by kernel_rfl,by kernel_rfl⟩
theorem qG (A:PA):(pfl A).lookup ("check_called" : Str)=none:=by kernel_rfl
inductive Rw where
 | bell (n:Int)
 | set (m s:Int)
 | ask (m a b:Int)
 | bump (c r:Int)
 | go (r:Int)
 | call (s:Int)
 | fin
noncomputable def Rw.ws:Rw->Str
 | .bell _ => "bell"
 | .set _ _ => "set"
 | .ask _ _ _ => "ask"
 | .bump _ _ => "bump"
 | .go _ => "go"
 | .call _ => "call"
 | .fin => "end"
noncomputable def Rw.ns:Rw->List Int
 | .bell n=>[n]
 | .set m s=>[m,s]
 | .ask m a b=>[m,a,b]
 | .bump c r=>[c,r]
 | .go r=>[r]
 | .call s=>[s]
 | .fin=>[]
noncomputable def Rw.v (x:Rw):List V:=.str x.ws::x.ns.map V.int
noncomputable def Rw.ps:Rw->List Str
 | .bell _=>["note"]
 | .set _ _=>["mark","side"]
 | .ask _ _ _=>["mark","row","row"]
 | .bump _ _=>["counter","row"]
 | .go _=>["row"]
 | .call _=>["stretch"]
 | .fin=>[]
noncomputable def Rw.last:Rw->Bool
 | .ask _ _ _=>true
 | .go _=>true
 | .fin=>true
 | _=>false
noncomputable def Rw.ok (nm nc nr k ns:Nat):Rw->Prop
 | .bell n=>0<=n/\n<=9999
 | .set m s=>0<=m/\m<nm/\(s=1∨s=2)
 | .ask m a b=>0<=m/\m<nm/\0<=a/\a<nr/\0<=b/\b<nr
 | .bump c r=>0<=c/\c<nc/\0<=r/\r<nr
 | .go r=>0<=r/\r<nr
 | .call s=>(k:Int)<s/\s<ns
 | .fin=>True
theorem Rw.v_eq (x:Rw):x.v=.str x.ws::x.ns.map V.int:=rfl
theorem Rw.len (x:Rw):x.ps.length=x.ns.length:=by cases x <;> rfl
theorem Rw.psl (x:Rw):x.ps.length<=1000:=by cases x <;> simp[Rw.ps]
theorem Rw.nsl (x:Rw):x.ns.length+1<=4:=by cases x <;> simp[Rw.ns]
theorem Rw.lastIn:∀ (x:Rw),x.last=true->(!inV (.str x.ws) [.str "ask",.str "go",.str "end"])=false
 | .ask _ _ _,_=>(by decide +kernel:(!inV (.str ("ask" : Str)) [.str "ask",.str "go",.str "end"])=false)
 | .go _,_=>(by decide +kernel:(!inV (.str ("go" : Str)) [.str "ask",.str "go",.str "end"])=false)
 | .fin,_=>(by decide +kernel:(!inV (.str ("end" : Str)) [.str "ask",.str "go",.str "end"])=false)
 | .bell _,h=>nomatch h
 | .set _ _,h=>nomatch h
 | .bump _ _,h=>nomatch h
 | .call _,h=>nomatch h
theorem nX {n:Nat} (h1:1<=n) (h2:n<=4):¬ (HT.sIx n 0 (some 1)=0/\HT.sIx n n none=n):=by
 match n with
 | 1=>decide
 | 2=>decide
 | 3=>decide
 | 4=>decide
noncomputable def partsD:List (Str×List Str):=[("bell",["note"]),("set",["mark","side"]),("ask",["mark","row","row"]),("bump",["counter","row"]),("go",["row"]),("call",["stretch"]),("end",[])]
theorem Rw.parts (x:Rw):partsD.lookup x.ws=some x.ps:=by cases x <;> rfl
noncomputable def rwV (rs:List (Addr×Rw)):List V:=rs.map fun x=>V.ref x.1
noncomputable abbrev Ss:=List (Addr×List (Addr×Rw))
noncomputable def ssV (ss:Ss):List V:=ss.map fun z=>V.ref z.1
noncomputable def rQ (nm nc nr k ns:Nat) (p:Str) (n:Int):Prop :=
 (p = "note" /\ 0<=n/\n<=9999)∨(p = "mark" /\ 0<=n/\n<nm)∨(p = "side" /\ (n=1∨n=2))∨(p = "counter" /\ 0<=n/\n<nc)∨(p = "row" /\ 0<=n/\n<nr)∨(p = "stretch" /\ (k:Int)<n/\n<ns)
structure PIn (C:Addr) (A:PA) (ms ws:List Int) (ss:Ss) (L:Kn):Prop where
 p:(A.p,HO.ins C A.dx (pfl A)) ∈ L
 m:(A.m,HO.lst (ms.map V.int)) ∈ L
 w:(A.w,HO.lst (ws.map V.int)) ∈ L
 s:(A.s,HO.lst (ssV ss)) ∈ L
 l:∀ z ∈ ss,(z.1,HO.lst (rwV z.2)) ∈ L
 r:∀ z ∈ ss,∀ x ∈ z.2,(x.1,HO.tup x.2.v) ∈ L
structure PInN (C:Addr) (A:PA) (ms ws:List Int) (ss:Ss) (N:Kn):Prop where
 p:(A.p,HO.ins C A.dx (pfl A)) ∈ N
 m:(A.m,HO.lst (ms.map V.int)) ∈ N
 w:(A.w,HO.lst (ws.map V.int)) ∈ N
 s:(A.s,HO.lst (ssV ss)) ∈ N
 l:∀ z ∈ ss,(z.1,HO.lst (rwV z.2)) ∈ N
variable{ss:Ss}
theorem PIn.mono {C:Addr}{A:PA}{ms ws:List Int}{L L':Kn} (h:PIn C A ms ws ss L) (s:∀ z ∈ L,z ∈ L'):PIn C A ms ws ss L' :=
 ⟨s _ h.p,s _ h.m,s _ h.w,s _ h.s,fun z hz=>s _ (h.l z hz),fun z hz x hx=>s _ (h.r z hz x hx)⟩
noncomputable def rR (nm nc:Nat) (ss:Ss):Prop:=∀ (k:Nat) z,ss[k]?=some z->(∀ x ∈ z.2,x.2.ok nm nc z.2.length k ss.length)/\∃ a y,z.2.getLast?=some (a,y)/\y.last=true
variable{z:Addr×List (Addr×Rw)}
theorem cT {k:Nat} (h:ss[k]?=some z):(ssV ss)[k]?=some (.ref z.1):=by unfold ssV; rw[sN,h]; rfl
variable{rs:List (Addr×Rw)}
theorem kD {k:Nat}{z:Addr×Rw} (h:rs[k]?=some z):(rwV rs)[k]?=some (.ref z.1):=by unfold rwV; rw[sN,h]; rfl
inductive sp_Jm (vs:List V) (H:Hp) (Q:VK) (E_:XK):Prop
 | mk (n:Int) (m:Nat) (_:vs=[.int n,.int m]) (_:0<=n) (_:n<m) (_:Q .non H):sp_Jm vs H Q E_
inductive sp_Ji (vs:List V) (H:Hp) (Q:VK) (E_:XK):Prop
 | mk (n:Int) (_:vs=[.int n]) (_:1<=n) (_:n<=8) (_:Q .non H):sp_Ji vs H Q E_
inductive sp_greatest (vs:List V) (H:Hp) (Q:VK) (E_:XK):Prop
 | mk (n:Nat) (_:vs=[.int n]) (_:n<=8) (_:Q (.int (1*2 ^ n - 1)) H):sp_greatest vs H Q E_
inductive sp_many (C:Addr) (vs:List V) (H:Hp) (Q:VK) (E_:XK):Prop
 | mk (A:PA) (st:List V) (_:vs=[.ref A.p]) (_:H A.p=some (.ins C A.dx (pfl A))) (_:H A.s=some (.lst st)) (_:Q (.int st.length) H):sp_many C vs H Q E_
inductive sp_pmarks (C:Addr) (vs:List V) (H:Hp) (Q:VK) (E_:XK):Prop
 | mk (A:PA) (ms:List V) (L:Kn) (_:vs=[.ref A.p]) (_:Has H L) (_:(A.p,HO.ins C A.dx (pfl A)) ∈ L) (_:(A.m,HO.lst ms) ∈ L) (_:∀ H' l,Has H' ((l,.lst ms)::L)->Q (.ref l) H'):sp_pmarks C vs H Q E_
inductive sp_pwidths (C:Addr) (vs:List V) (H:Hp) (Q:VK) (E_:XK):Prop
 | mk (A:PA) (ms:List V) (L:Kn) (_:vs=[.ref A.p]) (_:Has H L) (_:(A.p,HO.ins C A.dx (pfl A)) ∈ L) (_:(A.w,HO.lst ms) ∈ L) (_:∀ H' l,Has H' ((l,.lst ms)::L)->Q (.ref l) H'):sp_pwidths C vs H Q E_
inductive sp_row_at (C:Addr) (vs:List V) (H:Hp) (Q:VK) (E_:XK):Prop
 | mk (A:PA) (st:List V) (k:Nat) (rl:Addr) (rs:List V) (n:Nat) (v:V) (_:vs=[.ref A.p,.int k,.int n]) (_:H A.p=some (.ins C A.dx (pfl A))) (_:H A.s=some (.lst st)) (_:st[k]?=some (.ref rl)) (_:H rl=some (.lst rs)) (_:rs[n]?=some v) (_:Q v H):sp_row_at C vs H Q E_
inductive sp_check_beginning (C:Addr) (vs:List V) (H:Hp) (Q:VK) (E_:XK):Prop
 | mk (A:PA) (ms ws:List Int) (ss:Ss) (L:Kn) (_:vs=[.ref A.p]) (_:Has H L) (_:PIn C A ms ws ss L) (_:(∀ x ∈ ms,x=1∨x=2)) (_:(∀ x ∈ ws,1<=x/\x<=8)) (_:ss≠[]) (_:Q .non H):sp_check_beginning C vs H Q E_
inductive sp_check_called (C:Addr) (vs:List V) (H:Hp) (Q:VK) (E_:XK):Prop
 | mk (A:PA) (ms ws:List Int) (ss:Ss) (L:Kn) (n:Int) (k:Nat) (_:vs=[.ref A.p,.int n,.int k]) (_:Has H L) (_:PIn C A ms ws ss L) (_:(k:Int)<n) (_:n<ss.length) (_:Q .non H):sp_check_called C vs H Q E_
inductive sp_check_part (C:Addr) (vs:List V) (H:Hp) (Q:VK) (E_:XK):Prop
 | mk (A:PA) (ms ws:List Int) (ss:Ss) (L:Kn) (k:Nat) (p:Str) (n:Int) (z:Addr×List (Addr×Rw)) (_:vs=[.ref A.p,.str p,.int n,.int k]) (_:Has H L) (_:PIn C A ms ws ss L) (_:ss[k]?=some z) (_:rQ ms.length ws.length z.2.length k ss.length p n) (_:Q .non H):sp_check_part C vs H Q E_
inductive sp_check_rows (C:Addr) (vs:List V) (H:Hp) (Q:VK) (E_:XK):Prop
 | mk (A:PA) (ms ws:List Int) (ss:Ss) (L:Kn) (k:Nat) (z:Addr×List (Addr×Rw)) (_:vs=[.ref A.p,.int k]) (_:Has H L) (_:PIn C A ms ws ss L) (_:ss[k]?=some z) (_:(∀ x ∈ z.2,x.2.ok ms.length ws.length z.2.length k ss.length)) (_:(∃ a y,z.2.getLast?=some (a,y)/\y.last=true)) (_:∀ H',Has H' L->Q .non H'):sp_check_rows C vs H Q E_
inductive sp_Pinit (C:Addr) (vs:List V) (H:Hp) (Q:VK) (E_:XK):Prop
 | mk (p dx m0 w0 s0:Addr) (ms ws:List Int) (ss:Ss) (L:Kn) (_:vs=[.ref p,.ref m0,.ref w0,.ref s0]) (_:Has H ((p,.ins C dx [])::(dx,.own p)::L)) (_:(m0,HO.lst (ms.map V.int)) ∈ L) (_:(w0,HO.lst (ws.map V.int)) ∈ L) (_:(s0,HO.lst (ssV ss)) ∈ L) (_:(∀ z ∈ ss,(z.1,HO.lst (rwV z.2)) ∈ L)) (_:(∀ z ∈ ss,∀ x ∈ z.2,(x.1,HO.tup x.2.v) ∈ L)) (_:(∀ x ∈ ms,x=1∨x=2)) (_:(∀ x ∈ ws,1<=x/\x<=8)) (_:ss≠[]) (_:ss.length<=1000) (_:rR ms.length ws.length ss) (_:∀ H' A ss' N,A.p=p->ss'.map (·.2)=ss.map (·.2)->PInN C A ms ws ss' N->PIn C A ms ws ss' (N++L)->Has H' (N++L)->Q .non H'):sp_Pinit C vs H Q E_
inductive sp_Jk (vs:List V) (H:Hp) (Q:VK) (E_:XK):Prop
 | mk (s:Int) (_:vs=[.int s]) (_:(s=1∨s=2)) (_:Q .non H):sp_Jk vs H Q E_
noncomputable def d4:List (Option Nat)->Option Nat
 | []=>none
 | some i::_=>some i
 | none::r=>d4 r
theorem cN {l:List (Option Nat)} (h:∀ o ∈ l,o=none):d4 l=none:=by
 induction l with
 | nil=>rfl
 | cons o r ih=>
  have:=h o sM
  subst this
  exact ih fun o ho=>h o (sH _ ho)
theorem dZ {l:List (Option Nat)}{n i:Nat} (h1:∀ k,k<n->l[k]?=some none) (h2:l[n]?=some (some i)):d4 l=some i:=by
 induction l generalizing n with
 | nil=>cases h2
 | cons o r ih=>
  cases n with
  | zero=>cases h2; rfl
  | succ n=>
   have:=h1 0 (by omega)
   cases this
   exact ih (fun k hk=>h1 (k+1) (by omega)) h2
noncomputable def cE (n:Int):Prop:=n=1∨n=2
noncomputable def gc (n:Int):Prop:=0<=n/\n<=9999
noncomputable def ci (n:Int):Prop:=1<=n/\n<=8
noncomputable def gIn (m:Nat) (n:Int):Prop:=0<=n/\n<m
noncomputable def eZ (k ns:Nat) (n:Int):Prop:=(k:Int)<n/\n<ns
instance (n:Int):Decidable (cE n):=inferInstanceAs (Decidable (n=1∨n=2))
instance (n:Int):Decidable (gc n):=inferInstanceAs (Decidable (0<=n/\n<=9999))
instance (n:Int):Decidable (ci n):=inferInstanceAs (Decidable (1<=n/\n<=8))
instance (m:Nat) (n:Int):Decidable (gIn m n):=inferInstanceAs (Decidable (0<=n/\n<m))
instance (k ns:Nat) (n:Int):Decidable (eZ k ns n):=inferInstanceAs (Decidable ((k:Int)<n/\n<ns))
noncomputable def un (p:Prop) [Decidable p] (i:Nat):Option Nat:=if p then none else some i
theorem cR {p:Prop} [Decidable p] {i:Nat} (h:p):un p i=none:=if_pos h
theorem bL {p:Prop} [Decidable p] {i:Nat} (h:¬ p):un p i=some i:=if_neg h
noncomputable def Rw.fs (nm nc nr k ns:Nat):Rw->List (Option Nat)
 | .bell n=>[un (gc n) 3]
 | .set m s=>[un (gIn nm m) 16,un (cE s) 2]
 | .ask m a b=>[un (gIn nm m) 16,un (gIn nr a) 15,un (gIn nr b) 15]
 | .bump c r=>[un (gIn nc c) 17,un (gIn nr r) 15]
 | .go r=>[un (gIn nr r) 15]
 | .call s=>[un (eZ k ns s) 14]
 | .fin=>[]
noncomputable def PF (nm nc nr k ns:Nat) (p:Str) (n:Int) (o:Option Nat):Prop :=
 (p = "note" /\ o=un (gc n) 3)∨(p = "mark" /\ o=un (gIn nm n) 16)∨(p = "side" /\ o=un (cE n) 2)∨(p = "counter" /\ o=un (gIn nc n) 17)∨(p = "row" /\ o=un (gIn nr n) 15)∨(p = "stretch" /\ o=un (eZ k ns n) 14)
theorem Rw.fsl (nm nc nr k ns:Nat) (x:Rw):(x.fs nm nc nr k ns).length=x.ns.length:=by cases x <;> rfl
theorem Rw.pf (nm nc nr k ns:Nat) {x:Rw}{i:Nat}{p:Str}{n:Int} (hp:x.ps[i]?=some p) (hn:x.ns[i]?=some n):∃ o,(x.fs nm nc nr k ns)[i]?=some o/\PF nm nc nr k ns p n o:=by
 cases x with
 | bell k=>
  match i with
  | 0=>cases hp; cases hn; exact⟨_,U,.inl ⟨U,U⟩⟩
  | i+1=>cases hp
 | set m s=>
  match i with
  | 0=>cases hp; cases hn; exact⟨_,U,.inr (.inl ⟨U,U⟩)⟩
  | 1=>cases hp; cases hn; exact⟨_,U,.inr (.inr (.inl ⟨U,U⟩))⟩
  | i+2=>cases hp
 | ask m a b=>
  match i with
  | 0=>cases hp; cases hn; exact⟨_,U,.inr (.inl ⟨U,U⟩)⟩
  | 1=>cases hp; cases hn; exact⟨_,U,.inr (.inr (.inr (.inr (.inl ⟨U,U⟩))))⟩
  | 2=>cases hp; cases hn; exact⟨_,U,.inr (.inr (.inr (.inr (.inl ⟨U,U⟩))))⟩
  | i+3=>cases hp
 | bump c r=>
  match i with
  | 0=>cases hp; cases hn; exact⟨_,U,.inr (.inr (.inr (.inl ⟨U,U⟩)))⟩
  | 1=>cases hp; cases hn; exact⟨_,U,.inr (.inr (.inr (.inr (.inl ⟨U,U⟩))))⟩
  | i+2=>cases hp
 | go r=>
  match i with
  | 0=>cases hp; cases hn; exact⟨_,U,.inr (.inr (.inr (.inr (.inl ⟨U,U⟩))))⟩
  | i+1=>cases hp
 | call s=>
  match i with
  | 0=>cases hp; cases hn; exact⟨_,U,.inr (.inr (.inr (.inr (.inr ⟨U,U⟩))))⟩
  | i+1=>cases hp
 | fin=>cases hp
noncomputable def Rw.flt (nm nc nr k ns:Nat) (x:Rw):Option Nat:=d4 (x.fs nm nc nr k ns)
noncomputable def di (rs:List (Addr×Rw)):Bool:=match rs.getLast? with | some x=>x.2.last | none=>false
noncomputable def stF (nm nc k ns:Nat) (rs:List (Addr×Rw)):Option Nat :=
 if rs=[] then some 20 else match d4 (rs.map fun x=>x.2.flt nm nc rs.length k ns) with | some i=>some i | none=>if di rs then none else some 20
noncomputable def bgF (ms ws:List Int) (ss:Ss):Option Nat :=
 match d4 (ms.map fun n=>un (cE n) 2) with
 | some i=>some i
 | none=>match d4 (ws.map fun n=>un (ci n) 18) with
  | some i=>some i
  | none=>if ss=[] then some 14 else none
noncomputable def dQ (nm nc:Nat) (ss:Ss):List (Option Nat):=ss.zipIdx.map fun p=>stF nm nc p.2 ss.length p.1.2
noncomputable def aT (ms ws:List Int) (ss:Ss):Option Nat :=
 match bgF ms ws ss with
 | some i=>some i
 | none=>d4 (dQ ms.length ws.length ss)
noncomputable def SmR (x:Rw):Prop:=∀ n ∈ x.ns,n.natAbs<=10 ^ 58
noncomputable def SmS (ss:Ss):Prop:=ss.length<=1000/\∀ z ∈ ss,z.2.length<=1000/\∀ x ∈ z.2,SmR x.2
noncomputable def SmI (ns:List Int):Prop:=ns.length<=1000/\∀ n ∈ ns,n.natAbs<=10 ^ 58
theorem smS {n:Int} (h:n.natAbs<=10 ^ 58):cF n:=dR (Nat.lt_of_le_of_lt h (by decide))
noncomputable def hU (t:Adr) (i:Nat):Addr:=if i=2 then t.c_NoSide else if i=3 then t.c_NoNote else if i=14 then t.c_NoStretch else if i=15 then t.c_NoRow else if i=16 then t.c_NoMark else if i=17 then t.c_NoCounter else if i=18 then t.c_NoWidth else t.c_FallsOut
noncomputable def qp (C:Addr) (g:Int->Prop):Sp:=fun vs H Q E=>∃ n:Int,vs=[.int n]/\cF n/\(g n->Q .non H)/\(¬ g n->∀ a,E (.ref C) (some a) H)
noncomputable def oH (C:Addr):Sp:=fun vs H Q E=>∃ (n:Int) (m:Nat),vs=[.int n,.int m]/\cF n/\(gIn m n->Q .non H)/\(¬ gIn m n->∀ a,E (.ref C) (some a) H)
noncomputable def jT (t:Adr):Sp:=fun vs H Q E=>∃ (A:PA) (ms ws:List Int) (ss:Ss) (L:Kn) (n:Int) (k:Nat),vs=[.ref A.p,.int n,.int k]/\Has H L/\PIn t.c_Program A ms ws ss L/\cF n/\k<=1000/\(eZ k ss.length n->Q .non H)/\(¬ eZ k ss.length n->∀ a,E (.ref t.c_NoStretch) (some a) H)
noncomputable def mt (t:Adr):Sp:=fun vs H Q E=>∃ (A:PA) (ms ws:List Int) (ss:Ss) (L:Kn) (k:Nat) (p:Str) (n:Int) (z:Addr×List (Addr×Rw)) (o:Option Nat),vs=[.ref A.p,.str p,.int n,.int k]/\Has H L/\PIn t.c_Program A ms ws ss L/\ss[k]?=some z/\k<=1000/\PF ms.length ws.length z.2.length k ss.length p n o/\cF n/\(o=none->Q .non H)/\(∀ i,o=some i->∀ a,E (.ref (hU t i)) (some a) H)
noncomputable def mn (t:Adr):Sp:=fun vs H Q E=>∃ (A:PA) (ms ws:List Int) (ss:Ss) (L:Kn) (k:Nat) (z:Addr×List (Addr×Rw)),vs=[.ref A.p,.int k]/\Has H L/\PIn t.c_Program A ms ws ss L/\ss[k]?=some z/\k<=1000/\(∀ x ∈ z.2,SmR x.2) /\
 (stF ms.length ws.length k ss.length z.2=none->∀ H',Has H' L->Q .non H')/\(∀ i,stF ms.length ws.length k ss.length z.2=some i->∀ H' N a,Has H' (N++L)->E (.ref (hU t i)) (some a) H')
noncomputable def oG (t:Adr):Sp:=fun vs H Q E=>∃ (A:PA) (ms ws:List Int) (ss:Ss) (L:Kn),vs=[.ref A.p]/\Has H L/\PIn t.c_Program A ms ws ss L/\SmI ms/\SmI ws/\(bgF ms ws ss=none->Q .non H)/\(∀ i,bgF ms ws ss=some i->∀ a,E (.ref (hU t i)) (some a) H)
section
variable {P:Program}{w:World}{K:PySem.W.Frag}{mg:Str->Option Value}{base:Heap}{t:Adr}
theorem scCm:FnScope ["mark","many"] ["mark","many"] (ac iV):={}
theorem qP (T:Txt K mg t):FnOk P w K mg base (CXr P w) 1 t.f_Jm t.d_Jm ["mark","many"] (oH t.c_NoMark):=by
 refine T.F_Jm.okR scCm (fun vs H Q E h=>?_) (fun cdv A outer s H vs Q E hr h=>?_)
 ·obtain⟨_,_,rfl,_⟩:=h
  rfl
 ·obtain⟨n,m,rfl,sn,qg,qb⟩:=h
  refine⟨_,(ag (aD (PW.pt (dB (ap cK (pv 0) ae (ar _)) (cG (ap jq (pv 0) (pv 1) (ar _)))))
    (ag (aY bo rfl (by rfl) T.m_NoMark (aW T.x_NoMark) (bc (aK ah (aK (bV (pv 0)) bU)))))
    ax)),?_⟩
  by_cases h0:n<0
  ·exact⟨_,U,_,_,U,U,_,U,ifT (decide_eq_true h0) (cY (rz1 rfl sn (qb (fun g=>by have:=g.1; omega))))⟩
  ·refine⟨_,U,_,_,U,U,_,U,ifF (decide_eq_false h0) ?_⟩
   by_cases h1:n<m
   ·exact⟨_,U,_,U,_,_,U,U,_,U,ifF (decide_eq_false (by omega)) (qg ⟨by omega,h1⟩)⟩
   ·exact⟨_,U,_,U,_,_,U,U,_,U,ifT (decide_eq_true (by omega)) (rz1 rfl sn (qb (fun g=>h1 g.2)))⟩
theorem scCo:FnScope ["counter","many"] ["counter","many"] (ac jc):={}
theorem qU (T:Txt K mg t):FnOk P w K mg base (CXr P w) 1 t.f_J8 t.d_J8 ["counter","many"] (oH t.c_NoCounter):=by
 refine T.F_J8.okR scCo (fun vs H Q E h=>?_) (fun cdv A outer s H vs Q E hr h=>?_)
 ·obtain⟨_,_,rfl,_⟩:=h
  rfl
 ·obtain⟨n,m,rfl,sn,qg,qb⟩:=h
  refine⟨_,(ag (aD (PW.pt (dB (ap cK (pv 0) ae (ar _)) (cG (ap jq (pv 0) (pv 1) (ar _)))))
    (ag (aY bo rfl (by rfl) T.m_NoCounter (aW T.x_NoCounter) (bc (aK ah (aK (bV (pv 0)) bU)))))
    ax)),?_⟩
  by_cases h0:n<0
  ·exact⟨_,U,_,_,U,U,_,U,ifT (decide_eq_true h0) (cY (rz1 rfl sn (qb (fun g=>by have:=g.1; omega))))⟩
  ·refine⟨_,U,_,_,U,U,_,U,ifF (decide_eq_false h0) ?_⟩
   by_cases h1:n<m
   ·exact⟨_,U,_,U,_,_,U,U,_,U,ifF (decide_eq_false (by omega)) (qg ⟨by omega,h1⟩)⟩
   ·exact⟨_,U,_,U,_,_,U,U,_,U,ifT (decide_eq_true (by omega)) (rz1 rfl sn (qb (fun g=>h1 g.2)))⟩
theorem scCw:FnScope ["row","many"] ["row","many"] (ac iU):={}
theorem qN (T:Txt K mg t):FnOk P w K mg base (CXr P w) 1 t.f_Jo t.d_Jo ["row","many"] (oH t.c_NoRow):=by
 refine T.F_Jo.okR scCw (fun vs H Q E h=>?_) (fun cdv A outer s H vs Q E hr h=>?_)
 ·obtain⟨_,_,rfl,_⟩:=h
  rfl
 ·obtain⟨n,m,rfl,sn,qg,qb⟩:=h
  refine⟨_,(ag (aD (PW.pt (dB (ap cK (pv 0) ae (ar _)) (cG (ap jq (pv 0) (pv 1) (ar _)))))
    (ag (aY bo rfl (by rfl) T.m_NoRow (aW T.x_NoRow) (bc (aK ah (aK (bV (pv 0)) bU)))))
    ax)),?_⟩
  by_cases h0:n<0
  ·exact⟨_,U,_,_,U,U,_,U,ifT (decide_eq_true h0) (cY (rz1 rfl sn (qb (fun g=>by have:=g.1; omega))))⟩
  ·refine⟨_,U,_,_,U,U,_,U,ifF (decide_eq_false h0) ?_⟩
   by_cases h1:n<m
   ·exact⟨_,U,_,U,_,_,U,U,_,U,ifF (decide_eq_false (by omega)) (qg ⟨by omega,h1⟩)⟩
   ·exact⟨_,U,_,U,_,_,U,U,_,U,ifT (decide_eq_true (by omega)) (rz1 rfl sn (qb (fun g=>h1 g.2)))⟩
theorem scCt:FnScope ["stretch","many"] ["stretch","many"] (ac iu):={}
theorem qT (T:Txt K mg t):FnOk P w K mg base (CXr P w) 1 t.f_J9 t.d_J9 ["stretch","many"] (oH t.c_NoStretch):=by
 refine T.F_J9.okR scCt (fun vs H Q E h=>?_) (fun cdv A outer s H vs Q E hr h=>?_)
 ·obtain⟨_,_,rfl,_⟩:=h
  rfl
 ·obtain⟨n,m,rfl,sn,qg,qb⟩:=h
  refine⟨_,(ag (aD (PW.pt (dB (ap cK (pv 0) ae (ar _)) (cG (ap jq (pv 0) (pv 1) (ar _)))))
    (ag (aY bo rfl (by rfl) T.m_NoStretch (aW T.x_NoStretch) (bc (aK ah (aK (bV (pv 0)) bU)))))
    ax)),?_⟩
  by_cases h0:n<0
  ·exact⟨_,U,_,_,U,U,_,U,ifT (decide_eq_true h0) (cY (rz1 rfl sn (qb (fun g=>by have:=g.1; omega))))⟩
  ·refine⟨_,U,_,_,U,U,_,U,ifF (decide_eq_false h0) ?_⟩
   by_cases h1:n<m
   ·exact⟨_,U,_,U,_,_,U,U,_,U,ifF (decide_eq_false (by omega)) (qg ⟨by omega,h1⟩)⟩
   ·exact⟨_,U,_,U,_,_,U,U,_,U,ifT (decide_eq_true (by omega)) (rz1 rfl sn (qb (fun g=>h1 g.2)))⟩
theorem scWi:FnScope ["width"] ["width"] (ac iY):={}
theorem qR (T:Txt K mg t):FnOk P w K mg base (CXr P w) 1 t.f_Ji t.d_Ji ["width"] (qp t.c_NoWidth ci):=by
 refine T.F_Ji.okR scWi (fun vs H Q E h=>?_) (fun cdv A outer s H vs Q E hr h=>?_)
 ·obtain⟨_,rfl,_⟩:=h
  rfl
 ·obtain⟨n,rfl,sn,qg,qb⟩:=h
  refine⟨_,(ag (aD (PW.pt (dB (ap cK (pv 0) ae (ar _)) (cG (ap bW (pv 0) (aM (by rfl) T.g_WIDEST T.r_WIDEST) (ar _)))))
    (ag (aY bo rfl (by rfl) T.m_NoWidth (aW T.x_NoWidth) (bc (aK ah (aK (bV (pv 0)) bU)))))
    ax)),?_⟩
  by_cases h0:n<1
  ·exact⟨_,U,_,_,U,U,_,U,ifT (decide_eq_true h0) (cY (rz1 rfl sn (qb (fun g=>by have:=g.1; omega))))⟩
  ·refine⟨_,U,_,_,U,U,_,U,ifF (decide_eq_false h0) ?_⟩
   by_cases h1:n<=8
   ·exact⟨_,U,_,_,U,U,_,U,ifF (decide_eq_false (by omega)) (qg ⟨by omega,h1⟩)⟩
   ·exact⟨_,U,_,_,U,U,_,U,ifT (decide_eq_true (by omega)) (rz1 rfl sn (qb (fun g=>h1 g.2)))⟩
theorem scNo:FnScope ["note"] ["note"] (ac iW):={}
theorem qQ (T:Txt K mg t):FnOk P w K mg base (CXr P w) 1 t.f_Jl t.d_Jl ["note"] (qp t.c_NoNote gc):=by
 refine T.F_Jl.okR scNo (fun vs H Q E h=>?_) (fun cdv A outer s H vs Q E hr h=>?_)
 ·obtain⟨_,rfl,_⟩:=h
  rfl
 ·obtain⟨n,rfl,sn,qg,qb⟩:=h
  refine⟨_,(ag (aD (PW.pt (dB (ap cK (pv 0) ae (ar _)) (cG (ap bW (pv 0) (aM (by rfl) T.g_LAST_NOTE T.r_LAST_NOTE) (ar _)))))
    (ag (aY bo rfl (by rfl) T.m_NoNote (aW T.x_NoNote) (bc (aK ah (aK (bV (pv 0)) bU)))))
    ax)),?_⟩
  by_cases h0:n<0
  ·exact⟨_,U,_,_,U,U,_,U,ifT (decide_eq_true h0) (cY (rz1 rfl sn (qb (fun g=>by have:=g.1; omega))))⟩
  ·refine⟨_,U,_,_,U,U,_,U,ifF (decide_eq_false h0) ?_⟩
   by_cases h1:n<=9999
   ·exact⟨_,U,_,_,U,U,_,U,ifF (decide_eq_false (by omega)) (qg ⟨by omega,h1⟩)⟩
   ·exact⟨_,U,_,_,U,U,_,U,ifT (decide_eq_true (by omega)) (rz1 rfl sn (qb (fun g=>h1 g.2)))⟩
theorem scSd:FnScope ["side"] ["side"] (ac iX):={}
theorem ng (T:Txt K mg t):FnOk P w K mg base (CXr P w) 1 t.f_Jk t.d_Jk ["side"] (qp t.c_NoSide cE):=by
 refine T.F_Jk.okR scSd (fun vs H Q E h=>?_) (fun cdv A outer s H vs Q E hr h=>?_)
 ·obtain⟨_,rfl,_⟩:=h
  rfl
 ·obtain⟨n,rfl,sn,qg,qb⟩:=h
  refine⟨_,(ag (aD (PW.pt (bJ (ap gR (pv 0) ae (ar _)) (bM (ap gR (pv 0) ae (ar _)))))
    (ag (aY bo rfl (by rfl) T.m_NoSide (aW T.x_NoSide) (bc (aK ah (aK (bV (pv 0)) bU)))))
    ax)),?_⟩
  refine⟨_,U,U,_,U,?_⟩
  rw[bb]
  refine rB (fun h1=>?_) (fun h1=>dM (qg (.inl h1)))
  refine⟨_,U,U,_,U,?_⟩
  rw[bb]
  exact rB (fun h2=>rz1 rfl sn (qb (fun g=>g.elim h1 h2))) (fun h2=>qg (.inr h2))
theorem scMy:FnScope ["self"] ["self"] (ac ja):={}
theorem jr (T:Txt K mg t):FnOk P w K mg base CX0 1 t.f_Je t.d_Je ["self"] (sp_many t.c_Program):=by
 refine T.F_Je.ok scMy (fun vs H Q E h=>?_) (fun cdv A outer s H vs Q E hr h=>?_)
 ·obtain⟨_,_,rfl,_⟩:=h
  rfl
 ·obtain⟨A,st,rfl,g1,g2,q⟩:=h
  refine⟨_,(ag (aJ (aq av (by rfl) T.z_len (by rfl) (aa (cf (pv 0) rfl) ad)))),?_⟩
  exact⟨_,U,A.p,_,A.dx,_,_,U,g1,T.cl_Program,T.n_Program_stretches,gP _,A.s,_,U,.inl (SqL.of g2),q⟩
theorem scCc:FnScope ["self","called","stretch"] ["self","called","stretch"] (ac ji):={}
theorem qX (T:Txt K mg t):FnOk P w K mg base (CXr P w) 2 t.f_J1 t.d_J1 ["self","called","stretch"] (jT t):=by
 refine T.F_J1.okR scCc (fun vs H Q E h=>?_) (fun cdv A outer s H vs Q E hr h=>?_)
 ·obtain⟨_,_,_,_,_,_,_,rfl,_⟩:=h
  rfl
 ·obtain⟨A,ms,ws,ss,L,n,k,rfl,hH,pin,sn,kb,qg,qb⟩:=h
  have hL:∀ {z:Addr×HO},z ∈ L->H z.1=some z.2:=fun m=>hH.at_ _ m
  have sl:(ssV ss).length=ss.length:=by unfold ssV; rw[sI]
  refine⟨_,(af (aG (bu (qT T) (hr.mono (by decide)) (by rfl) T.m_J9 T.F_J9.kp (sv T) .nil cA (aa (pv 1) (aa (bz (pv 0) T.cl_Program T.M_Je (jr T) hr (n8 T) .nil c7) ad))))
   (ag (aD (ap op_le (pv 1) (pv 2) (ar _))
    (ag (aY bo rfl (by rfl) T.m_NoStretch (aW T.x_NoStretch) (bc (aK ah (aK (bV (pv 1)) (aK ah (aK (bV (pv 2)) bU)))))))
    ax))),?_⟩
  refine⟨_,U,_,U,A.p,A.dx,_,U,hL pin.p,(c6 _).1,A,_,U,hL pin.p,hL pin.s,n,_,U,sn,fun g=>?_,fun g=>qb (fun c=>g ⟨by have:=c.1; omega,by rw[sl]; exact c.2⟩)⟩
  by_cases c:n<=k
  ·exact⟨_,U,_,U,_,_,U,U,_,U,ifT (decide_eq_true c) (rz11 rfl sn rfl (smS (by omega)) (qb (fun d=>by have:=d.1; omega)))⟩
  ·exact⟨_,U,_,U,_,_,U,U,_,U,ifF (decide_eq_false c) (qg ⟨by omega,by have:=g.2; rw[sl] at this; exact this⟩)⟩
theorem scPt:FnScope ["self","part","number","stretch"] ["self","part","number","stretch"] (ac jg):={}
theorem qV (T:Txt K mg t):FnOk P w K mg base (CXr P w) 3 t.f_J3 t.d_J3 ["self","part","number","stretch"] (mt t):=by
 refine T.F_J3.okR scPt (fun vs H Q E h=>?_) (fun cdv A outer s H vs Q E hr h=>?_)
 ·obtain⟨_,_,_,_,_,_,_,_,_,_,rfl,_⟩:=h
  rfl
 ·obtain⟨A,ms,ws,ss,L,k,p,n,z,o,rfl,hH,pin,hz,kb,hp,sn,qg,qb⟩:=h
  have hL:∀ {z:Addr×HO},z ∈ L->H z.1=some z.2:=fun m=>hH.at_ _ m
  have hzm:=sL hz
  refine⟨_,(ag (aD (ap aZ (pv 1) ah (ar _))
    (ag (aG (bu (qQ T) (hr.mono (by decide)) (by rfl) T.m_Jl T.F_Jl.kp (b_Jl T) .nil cA (aa (pv 2) ad))))
    (ag (aD (ap aZ (pv 1) ah (ar _))
      (ag (aG (bu (qP T) (hr.mono (by decide)) (by rfl) T.m_Jm T.F_Jm.kp (b_Jm T) .nil cA (aa (pv 2) (aa (aq av (by rfl) T.z_len (by rfl) (aa (cf (pv 0) rfl) ad)) ad)))))
      (ag (aD (ap aZ (pv 1) ah (ar _))
        (ag (aG (bu (ng T) (hr.mono (by decide)) (by rfl) T.m_Jk T.F_Jk.kp (sj T) .nil cA (aa (pv 2) ad))))
        (ag (aD (ap aZ (pv 1) ah (ar _))
          (ag (aG (bu (qU T) (hr.mono (by decide)) (by rfl) T.m_J8 T.F_J8.kp (b_J8 T) .nil cA (aa (pv 2) (aa (aq av (by rfl) T.z_len (by rfl) (aa (cf (pv 0) rfl) ad)) ad)))))
          (ag (aD (ap aZ (pv 1) ah (ar _))
            (ag (aG (bu (qN T) (hr.mono (by decide)) (by rfl) T.m_Jo T.F_Jo.kp (b_Jo T) .nil cA (aa (pv 2) (aa (aq av (by rfl) T.z_len (by rfl) (aa (aA au (cf (pv 0) rfl) (pv 3)) ad)) ad)))))
            (ag (aG (dU (pv 0) T.cl_Program T.M_J1 (qX T) hr (b_J1 T) .nil cA (aa (pv 2) (aa (pv 3) ad))))))))))))))),?_⟩
  rcases hp with ⟨rfl,rfl⟩ | ⟨rfl,rfl⟩ | ⟨rfl,rfl⟩ | ⟨rfl,rfl⟩ | ⟨rfl,rfl⟩ | ⟨rfl,rfl⟩
  ·refine⟨_,U,U,_,U,ifT (by decide +kernel) ?_⟩
   exact⟨_,U,n,U,sn,fun g=>qg (cR g),fun g=>qb _ (bL g)⟩
  ·refine⟨_,U,U,_,U,ifF (by decide +kernel) ?_⟩
   refine⟨_,U,U,_,U,ifT (by decide +kernel) ?_⟩
   refine⟨_,U,_,U,A.p,_,A.dx,_,_,U,hL pin.p,T.cl_Program,T.n_Program_mark_sides,mQ _,A.m,_,U,.inl (SqL.of (hL pin.m)),n,_,U,sn,?_⟩
   rw[sI]
   exact⟨fun g=>qg (cR g),fun g=>qb _ (bL g)⟩
  ·refine⟨_,U,U,_,U,ifF (by decide +kernel) ?_⟩
   refine⟨_,U,U,_,U,ifF (by decide +kernel) ?_⟩
   refine⟨_,U,U,_,U,ifT (by decide +kernel) ?_⟩
   exact⟨_,U,n,U,sn,fun g=>qg (cR g),fun g=>qb _ (bL g)⟩
  ·refine⟨_,U,U,_,U,ifF (by decide +kernel) ?_⟩
   refine⟨_,U,U,_,U,ifF (by decide +kernel) ?_⟩
   refine⟨_,U,U,_,U,ifF (by decide +kernel) ?_⟩
   refine⟨_,U,U,_,U,ifT (by decide +kernel) ?_⟩
   refine⟨_,U,_,U,A.p,_,A.dx,_,_,U,hL pin.p,T.cl_Program,T.n_Program_counter_widths,mP _,A.w,_,U,.inl (SqL.of (hL pin.w)),n,_,U,sn,?_⟩
   rw[sI]
   exact⟨fun g=>qg (cR g),fun g=>qb _ (bL g)⟩
  ·refine⟨_,U,U,_,U,ifF (by decide +kernel) ?_⟩
   refine⟨_,U,U,_,U,ifF (by decide +kernel) ?_⟩
   refine⟨_,U,U,_,U,ifF (by decide +kernel) ?_⟩
   refine⟨_,U,U,_,U,ifF (by decide +kernel) ?_⟩
   refine⟨_,U,U,_,U,ifT (by decide +kernel) ?_⟩
   refine⟨_,U,_,U,A.p,_,A.dx,_,_,U,hL pin.p,T.cl_Program,T.n_Program_stretches,gP _,_,U,A.s,_,_,_,U,U,SqL.of (hL pin.s),aH (cT hz),z.1,_,U,.inl (SqL.of (hL (pin.l z hzm))),n,_,U,sn,?_⟩
   rw[show(rwV z.2).length=z.2.length by unfold rwV; rw[sI]]
   exact⟨fun g=>qg (cR g),fun g=>qb _ (bL g)⟩
  ·refine⟨_,U,U,_,U,ifF (by decide +kernel) ?_⟩
   refine⟨_,U,U,_,U,ifF (by decide +kernel) ?_⟩
   refine⟨_,U,U,_,U,ifF (by decide +kernel) ?_⟩
   refine⟨_,U,U,_,U,ifF (by decide +kernel) ?_⟩
   refine⟨_,U,U,_,U,ifF (by decide +kernel) ?_⟩
   exact⟨_,U,A.p,A.dx,_,U,hL pin.p,qG _,_,U,_,U,A,ms,ws,ss,L,n,k,U,hH,pin,sn,kb,fun g=>qg (cR g),fun g=>qb _ (bL g)⟩
theorem scCb:FnScope ["self","side","width"] ["self"] (ac jj):={}
theorem qY (T:Txt K mg t):FnOk P w K mg base (CXr P w) 2 t.f_J0 t.d_J0 ["self"] (oG t):=by
 refine T.F_J0.okR scCb (fun vs H Q E h=>?_) (fun cdv A outer s H vs Q E hr h=>?_)
 ·obtain⟨_,_,_,_,_,rfl,_⟩:=h
  rfl
 ·obtain⟨A,ms,ws,ss,L,rfl,hH,pin,smm,smw,qg,qb⟩:=h
  have hL:∀ {z:Addr×HO},z ∈ L->H z.1=some z.2:=fun m=>hH.at_ _ m
  have mapn:∀ (g:Int->Prop) [∀ n,Decidable (g n)] (c:Nat) (l:List Int) (i:Nat),(∀ k,k<i->∀ n,l[k]?=some n->g n)->∀ k,k<i->i<=l.length->(l.map fun n=>un (g n) c)[k]?=some none:=fun g _ c l i h k hk hi=>by
   rw[sN,sK (by omega)]
   show some (un (g l[k]) c)=some none
   rw[cR (h k hk _ (sK (by omega)))]
  refine⟨_,(af (bv PassesOwn.leaving rfl (bh (cf (pv 0) rfl)) (az (i:=1) scCb.nd rfl (Or.inl rfl))
    (ag (aG (bu (ng T) (hr.mono (by decide)) (by rfl) T.m_Jk T.F_Jk.kp (sj T) .nil cA (aa (pv 1) ad)))))
   (af (bv PassesOwn.leaving rfl (bh (cf (pv 0) rfl)) (az (i:=2) scCb.nd rfl (Or.inl rfl))
    (ag (aG (bu (qR T) (hr.mono (by decide)) (by rfl) T.m_Ji T.F_Ji.kp (b_Ji T) .nil cA (aa (pv 2) ad)))))
   (ag (aD (df (dS (cf (pv 0) rfl) (by intro _; rfl)))
    (ag (aY bo rfl (by rfl) T.m_NoStretch (aW T.x_NoStretch) ah))
    ax)))),?_⟩
  refine⟨_,U,A.p,_,A.dx,_,_,U,hL pin.p,T.cl_Program,T.n_Program_mark_sides,mQ _,A.m,U,⟨_,SqL.of (hL pin.m)⟩,bP (xs:=ms.map V.int) (fun i σ H'=>∃ (o1 o2:Option V),σ=[some (.ref A.p),o1,o2]/\H'=H/\∀ k,k<i->∀ n,ms[k]?=some n->cE n) ⟨_,_,U,U,fun k hk=>absurd hk (Nat.not_lt_zero _)⟩ (fun i σ H' _ ⟨_,_,_,e,_⟩=>by rw[e]; exact SqL.of (hL pin.m)) ?_ ?_⟩
  ·rintro i x σ H' hx ⟨o1,o2,rfl,rfl,ok⟩
   rw[sN] at hx
   obtain⟨n,hn,rfl⟩:=Option.map_eq_some_iff.mp hx
   have il:=(List.getElem?_eq_some_iff.mp hn).1
   refine⟨_,U,n,U,smS (by have:=smm.2 n (sL hn); omega),fun g=>⟨_,_,U,U,fun k hk m hm=>?_⟩,fun g=>qb 2 ?_⟩
   ·by_cases c:k=i
    ·subst c; rw[hn] at hm; cases hm; exact g
    ·exact ok k (by omega) m hm
   ·unfold bgF
    rw[dZ (n:=i) (i:=2) (fun k hk=>mapn cE 2 ms i ok k hk (by omega)) (by rw[sN,hn]; show some (un (cE n) 2)=_; rw[bL g])]
  ·rintro σ H' ⟨o1,o2,rfl,rfl,ok⟩
   rw[sI] at ok
   have ms0:d4 (ms.map fun n=>un (cE n) 2)=none:=cN fun o ho=>by
    obtain⟨n,hn,rfl⟩:=sZ.mp ho
    obtain⟨k,hk⟩:=List.mem_iff_getElem?.mp hn
    exact cR (ok k (List.getElem?_eq_some_iff.mp hk).1 n hk)
   refine⟨_,U,A.p,_,A.dx,_,_,U,hL pin.p,T.cl_Program,T.n_Program_counter_widths,mP _,A.w,U,⟨_,SqL.of (hL pin.w)⟩,bP (xs:=ws.map V.int) (fun i σ H1=>∃ (o1 o2:Option V),σ=[some (.ref A.p),o1,o2]/\H1=H'/\∀ k,k<i->∀ n,ws[k]?=some n->ci n) ⟨_,_,U,U,fun k hk=>absurd hk (Nat.not_lt_zero _)⟩ (fun i σ H1 _ ⟨_,_,_,e,_⟩=>by rw[e]; exact SqL.of (hL pin.w)) ?_ ?_⟩
   ·rintro i x σ H1 hx ⟨o1,o2,rfl,rfl,okw⟩
    rw[sN] at hx
    obtain⟨n,hn,rfl⟩:=Option.map_eq_some_iff.mp hx
    have il:=(List.getElem?_eq_some_iff.mp hn).1
    refine⟨_,U,n,U,smS (by have:=smw.2 n (sL hn); omega),fun g=>⟨_,_,U,U,fun k hk m hm=>?_⟩,fun g=>qb 18 ?_⟩
    ·by_cases c:k=i
     ·subst c; rw[hn] at hm; cases hm; exact g
     ·exact okw k (by omega) m hm
    ·unfold bgF
     rw[ms0]
     dsimp only
     rw[dZ (n:=i) (i:=18) (fun k hk=>mapn ci 18 ws i okw k hk (by omega)) (by rw[sN,hn]; show some (un (ci n) 18)=_; rw[bL g])]
   ·rintro σ H1 ⟨o1,o2,rfl,rfl,okw⟩
    rw[sI] at okw
    have ws0:d4 (ws.map fun n=>un (ci n) 18)=none:=cN fun o ho=>by
     obtain⟨n,hn,rfl⟩:=sZ.mp ho
     obtain⟨k,hk⟩:=List.mem_iff_getElem?.mp hn
     exact cR (okw k (List.getElem?_eq_some_iff.mp hk).1 n hk)
    have bg:bgF ms ws ss=if ss=[] then some 14 else none:=by
     unfold bgF
     rw[ms0]
     dsimp only
     rw[ws0]
    by_cases c:ss=[]
    ·refine⟨_,U,A.p,_,A.dx,_,_,U,hL pin.p,T.cl_Program,T.n_Program_stretches,gP _,false,.inl ⟨_,SqL.of (hL pin.s),by rw[c]; rfl⟩,cY (rz0 (qb 14 (by rw[bg,if_pos c])))⟩
    ·refine⟨_,U,A.p,_,A.dx,_,_,U,hL pin.p,T.cl_Program,T.n_Program_stretches,gP _,true,.inl ⟨_,SqL.of (hL pin.s),?_⟩,dM (qg (by rw[bg,if_neg c]))⟩
     cases ss with
     | nil=>exact absurd rfl c
     | cons a b=>rfl
end
theorem dH {X:Cx}{K:PySem.W.Frag} (hK:X.K=K):cq X (.type "list") (fun xs H Q=>∃ p ys,xs=[.ref p]/\(SqL K H p ys∨SqT K H p ys)/\∀ l,H l=none->Q (.ref l) (upd H l (.lst ys))):=by subst hK; exact bp
theorem oA {nm nc k ns:Nat}{i:Nat}{x:Addr×Rw}{j:Nat}{c:Nat} (hx:rs[i]?=some x) (h1:∀ a,a<i->∀ y,rs[a]?=some y->y.2.flt nm nc rs.length k ns=none) (h2:∀ b,b<j->(x.2.fs nm nc rs.length k ns)[b]?=some none) (h3:(x.2.fs nm nc rs.length k ns)[j]?=some (some c)):stF nm nc k ns rs=some c:=by
 unfold stF
 have hil:=(List.getElem?_eq_some_iff.mp hx).1
 have e:=dZ (l:=rs.map fun x=>x.2.flt nm nc rs.length k ns) (n:=i) (i:=c) (fun a ha=>by
  rw[sN,sK (by omega)]
  show some (Rw.flt _ _ _ _ _ _)=_
  rw[h1 a ha _ (sK (by omega))]) (by
  rw[sN,hx]
  show some (d4 _)=_
  rw[dZ h2 h3])
 rw[if_neg (fun e=>by rw[e] at hx; cases hx),e]
theorem qk {nm nc k ns:Nat} (h0:rs≠[]) (h1:∀ a,a<rs.length->∀ y,rs[a]?=some y->y.2.flt nm nc rs.length k ns=none):stF nm nc k ns rs=if di rs then none else some 20:=by
 unfold stF
 rw[if_neg h0,cN fun o ho=>?_]
 obtain⟨y,hy,rfl⟩:=sZ.mp ho
 obtain⟨a,ha⟩:=List.mem_iff_getElem?.mp hy
 exact h1 a (List.getElem?_eq_some_iff.mp ha).1 y ha
theorem Rw.lastOut:∀ (x:Rw),x.last=false->(!inV (.str x.ws) [.str "ask",.str "go",.str "end"])=true
 | .bell _,_=>(by decide +kernel:(!inV (.str ("bell" : Str)) [.str "ask",.str "go",.str "end"])=true)
 | .set _ _,_=>(by decide +kernel:(!inV (.str ("set" : Str)) [.str "ask",.str "go",.str "end"])=true)
 | .bump _ _,_=>(by decide +kernel:(!inV (.str ("bump" : Str)) [.str "ask",.str "go",.str "end"])=true)
 | .call _,_=>(by decide +kernel:(!inV (.str ("call" : Str)) [.str "ask",.str "go",.str "end"])=true)
 | .ask _ _ _,h=>nomatch h
 | .go _,h=>nomatch h
 | .fin,h=>nomatch h
section
variable {P:Program}{w:World}{K:PySem.W.Frag}{mg:Str->Option Value}{base:Heap}{t:Adr}
theorem scPr:FnScope ["self","stretch","rows","row","part","number"] ["self","stretch"] (ac jh):={}
theorem qW (T:Txt K mg t):FnOk P w K mg base (CXr P w) 4 t.f_J2 t.d_J2 ["self","stretch"] (mn t):=by
 refine T.F_J2.okR scPr (fun vs H Q E h=>?_) (fun cdv A outer s H vs Q E hr h=>?_)
 ·obtain⟨_,_,_,_,_,_,_,rfl,_⟩:=h
  rfl
 ·obtain⟨A,ms,ws,ss,L,k,z,rfl,hH,pin,hz,kb,hsm,qg,qb⟩:=h
  obtain⟨aE,eE,hE⟩:=T.x_PARTS
  have T_r_PARTS:RelV (.ref aE) t.u_PARTS:=by rw[eE]; rfl
  obtain⟨aP,oP,its,nn,eP,k1,k2,k3,k4,k5⟩:=T.x_LAST_WORDS
  have T_r_LAST_WORDS:RelV (.ref aP) t.u_LAST_WORDS:=by rw[eP]; rfl
  have hzm:=sL hz
  have sk:cF (k:Int):=smS (by omega)
  refine⟨_,(af (aC (i:=2) scPr.nd rfl (Or.inl rfl) (aA au (cf (pv 0) rfl) (pv 1)))
   (af (aD (df (dS (pv 2) (by intro _; rfl)))
    (ag (aY bo rfl (by rfl) T.m_FallsOut (aW T.x_FallsOut) (bc (aK ah (aK (bV (pv 1)) (aK ah bU))))))
    ax)
   (af (bv PassesOwn.leaving rfl (bh (pv 2)) (az (i:=3) scPr.nd rfl (Or.inl rfl))
    (ag (bv PassesOwn.leaving rfl (mO (by rfl) T.z_zip (aa (mT (aM (by rfl) T.g_PARTS T_r_PARTS) (aA dL (pv 3) ae) (fun _ _=>rfl)) (aa (bG jU (pv 3) (bX ae) bY) ad))) (fO rfl (aU (az (i:=4) scPr.nd rfl (Or.inl rfl)) (aU (az (i:=5) scPr.nd rfl (Or.inl rfl)) cz)))
      (ag (aG (dU (pv 0) T.cl_Program T.M_J3 (qV T) hr (b_J3 T) .nil cA (aa (pv 4) (aa (pv 5) (aa (pv 1) ad)))))))))
   (ag (aD (ap dX (aA dL (aA au (pv 2) (kJ ii ae) (fun _ _=>rfl)) ae) (aM (by rfl) T.g_LAST_WORDS T_r_LAST_WORDS) (by rfl))
    (ag (aY bo rfl (by rfl) T.m_FallsOut (aW T.x_FallsOut) (bc (aK ah (aK (bV (pv 1)) (aK ah bU))))))
    ax))))),?_⟩
  have hL:∀ {H':Hp}{z:Addr×HO},Has H' L->z ∈ L->H' z.1=some z.2:=fun h m=>h.at_ _ m
  refine⟨_,U,A.p,_,A.dx,_,_,U,hL hH pin.p,T.cl_Program,T.n_Program_stretches,gP _,_,U,A.s,_,_,_,U,U,SqL.of (hL hH pin.s),aH (cT hz),?_⟩
  by_cases hne:z.2=[]
  ·exact⟨_,U,false,.inl ⟨_,SqL.of (hL hH (pin.l z hzm)),by rw[hne]; rfl⟩,cY (rX rfl sk (fun a=>qb 20 (by unfold stF; rw[if_pos hne]) _ [] a hH))⟩
  refine⟨_,U,true,.inl ⟨_,SqL.of (hL hH (pin.l z hzm)),?_⟩,dM ?_⟩
  ·cases e:z.2 with
   | nil=>exact absurd e hne
   | cons a b=>rfl
  refine⟨_,U,z.1,U,⟨_,SqL.of (hL hH (pin.l z hzm))⟩,bP (xs:=rwV z.2) (fun i σ H'=>∃ (o1 o2 o3:Option V),σ=[some (.ref A.p),some (.int k),some (.ref z.1),o1,o2,o3]/\Has H' L/\∀ a,a<i->∀ y,z.2[a]?=some y->y.2.flt ms.length ws.length z.2.length k ss.length=none) ⟨_,_,_,U,hH,fun a ha=>absurd ha (Nat.not_lt_zero _)⟩ (fun i σ H' _ ⟨_,_,_,_,e,_⟩=>SqL.of (hL e (pin.l z hzm))) ?_ ?_⟩
  ·rintro i x σ H' hx ⟨o1,o2,o3,rfl,h1,pre⟩
   unfold rwV at hx
   rw[sN] at hx
   obtain⟨n,hn,rfl⟩:=Option.map_eq_some_iff.mp hx
   have hnm:=sL hn
   have g1:=hL h1 (pin.r z hzm n hnm)
   have hcut:bQ (.str n.2.ws::n.2.ns.map V.int) (some 1) none=n.2.ns.map V.int:=by cases n.2 <;> rfl
   refine⟨_,U,n.1,_,_,_,U,U,SqT.of g1,aH (j:=0) rfl,_,aE,_,n.2.ps,U,U,hE,n.2.parts,n.2.psl,fun b hb=>?_⟩
   refine⟨_,U,_,U,n.1,_,U,SqT.of g1,?_,fun p hp=>?_⟩
   ·unfold Rw.v
    exact nX (by rw[sT,sI]; omega) (by rw[sT,sI]; exact n.2.nsl)
   unfold Rw.v
   rw[hcut]
   have h2:=h1.alloc hp (.tup (n.2.ns.map V.int))
   refine⟨b,p,U,⟨_,hb _⟩,⟨_,SqT.of (h2.get 0 U)⟩,nK (xs:=n.2.ps.map V.str) (ys:=n.2.ns.map V.int) (by rw[sI,sI]; exact n.2.len) (fun i σ H'=>∃ (o2 o3:Option V),σ=[some (.ref A.p),some (.int k),some (.ref z.1),some (.ref n.1),o2,o3]/\Has H' ((p,.tup (n.2.ns.map V.int))::L)/\∀ b,b<i->(n.2.fs ms.length ws.length z.2.length k ss.length)[b]?=some none) ⟨_,_,U,h2,fun b hb=>absurd hb (Nat.not_lt_zero _)⟩ (fun i σ H' _ ⟨_,_,_,e,_⟩=>⟨hb _,SqT.of (e.get 0 U)⟩) ?_ ?_⟩
   ·rintro j x y σ H3 p3 hx hy ⟨o4,o5,rfl,h3,pr2⟩ hp3
    rw[sN] at hx hy
    obtain⟨x,hx1,rfl⟩:=Option.map_eq_some_iff.mp hx
    obtain⟨y,hy1,rfl⟩:=Option.map_eq_some_iff.mp hy
    have h4:=h3.alloc hp3 (.tup [.str x,.int y])
    obtain⟨o,ho,hpf⟩:=Rw.pf ms.length ws.length z.2.length k ss.length hx1 hy1
    refine⟨p3,_,U,SqT.of (h4.get 0 U),U,_,_,U,_,_,U,U,?_⟩
    refine⟨_,U,A.p,A.dx,_,U,hL h4.tail.tail pin.p,(c6 _).2.2.2.2.2.2,_,U,_,U,_,U,A,ms,ws,ss,L,k,x,y,z,o,U,h4.tail.tail,pin,hz,kb,hpf,smS (by have:=hsm n hnm y (sL hy1); omega),fun eo=>⟨_,_,U,h4.tail,fun b hb=>?_⟩,fun c eo a=>qb c (oA hn pre pr2 (by rw[ho,eo])) _ [_,_] a h4⟩
    by_cases c:b=j
    ·rw[c,ho,eo]
    ·exact pr2 b (by omega)
   ·rintro σ H3 ⟨o4,o5,rfl,h3,pr2⟩
    refine⟨_,_,_,U,h3.tail,fun a ha y hy=>?_⟩
    by_cases c:a=i
    ·subst c
     rw[hn] at hy
     cases hy
     rw[sI] at pr2
     exact cN fun o ho=>by
      obtain⟨b,hb⟩:=List.mem_iff_getElem?.mp ho
      have hbl:=(List.getElem?_eq_some_iff.mp hb).1
      rw[Rw.fsl,<- n.2.len] at hbl
      rw[pr2 b hbl] at hb
      cases hb
      rfl
    ·exact pre a (by omega) y hy
  ·rintro σ H' ⟨o1,o2,o3,rfl,h1,pre⟩
   have lz:(rwV z.2).length=z.2.length:=by unfold rwV; rw[sI]
   rw[lz] at pre
   have st:=qk hne pre
   obtain⟨la,ly,hla⟩:∃ la ly,z.2.getLast?=some (la,ly):=by
    cases e:z.2.getLast? with
    | none=>exact absurd (List.getLast?_eq_none_iff.mp e) hne
    | some x=>exact⟨x.1,x.2,U⟩
   have lo:di z.2=ly.last:=by unfold di; rw[hla]
   obtain⟨rs',ers⟩:=List.getLast?_eq_some_iff.mp hla
   have eV:rwV z.2=rwV rs'++[.ref la]:=by rw[ers]; unfold rwV; rw[sP]; rfl
   have g1:=hL h1 (pin.l z hzm)
   have g2:=hL h1 (pin.r z hzm (la,ly) (by rw[ers]; simp))
   rw[eV] at g1
   refine⟨_,U,1,U,z.1,_,_,_,U,U,SqL.of g1,gw _ _,la,_,_,_,U,U,SqT.of g2,aH (j:=0) rfl,aP,_,U,.inr (.inr ⟨oP,its,nn,k1,k2,k3,k4,k5⟩),U,U,_,U,?_⟩
   cases hlast:ly.last with
   | true=>exact ifF (ly.lastIn hlast) (qg (by rw[st,lo,hlast]; rfl) _ h1)
   | false=>exact ifT (ly.lastOut hlast) (rX rfl sk (fun a=>qb 20 (by rw[st,lo,hlast]; rfl) _ [] a h1))
end
theorem dn {nm nc:Nat}{k:Nat} (h:ss[k]?=some z):(dQ nm nc ss)[k]?=some (stF nm nc k ss.length z.2):=by
 unfold dQ
 rw[sN,List.getElem?_zipIdx,h]
 simp
theorem fG {nm nc:Nat}:(dQ nm nc ss).length=ss.length:=by unfold dQ; simp
theorem oy {nm nc:Nat}{ss ss':Ss} (e:ss'.map (·.2)=ss.map (·.2)):dQ nm nc ss'=dQ nm nc ss:=by
 have hl:ss'.length=ss.length:=by simpa using congrArg List.length e
 refine List.ext_getElem? fun k=>?_
 by_cases hk:k<ss.length
 ·have h1:=sK hk
  have h2:=sK (l:=ss') (i:=k) (by omega)
  have e2:=congrArg (fun l=>l[k]?) e
  rw[sN,sN,h1,h2] at e2
  have e3:ss'[k].2=ss[k].2:=Option.some.inj e2
  rw[dn h1,dn h2,e3,hl]
 ·rw[List.getElem?_eq_none (by rw[fG]; omega),List.getElem?_eq_none (by rw[fG]; omega)]
theorem qZ {ss ss':Ss} (e:ss'.map (·.2)=ss.map (·.2)):ss'=[]↔ss=[]:=by
 have hl:ss'.length=ss.length:=by simpa using congrArg List.length e
 rw[<- List.length_eq_zero_iff,<- List.length_eq_zero_iff,hl]
theorem rL {ms ws:List Int}{ss ss':Ss} (e:ss'.map (·.2)=ss.map (·.2)):bgF ms ws ss'=bgF ms ws ss:=by
 unfold bgF
 have:(if ss'=[] then some 14 else none)=(if ss=[] then some 14 else none):=by simp only[qZ e]
 rw[this]
theorem gi {ms ws:List Int}{ss ss':Ss} (e:ss'.map (·.2)=ss.map (·.2)):aT ms ws ss'=aT ms ws ss:=by
 unfold aT
 rw[rL e,oy e]
theorem lO {ms ws:List Int}{i:Nat} (h:bgF ms ws ss=some i):aT ms ws ss=some i:=by unfold aT; rw[h]
theorem nM {ms ws:List Int}{i:Nat} (h0:bgF ms ws ss=none) {k:Nat} (hz:ss[k]?=some z) (h1:∀ a,a<k->∀ y,ss[a]?=some y->stF ms.length ws.length a ss.length y.2=none) (h2:stF ms.length ws.length k ss.length z.2=some i):aT ms ws ss=some i:=by
 unfold aT
 rw[h0]
 have hk:=(List.getElem?_eq_some_iff.mp hz).1
 exact dZ (n:=k) (fun a ha=>by rw[dn (sK (show a<ss.length by omega)),h1 a ha _ (sK (by omega))]) (by rw[dn hz,h2])
theorem nO {ms ws:List Int} (h0:bgF ms ws ss=none) (h1:∀ a,a<ss.length->∀ y,ss[a]?=some y->stF ms.length ws.length a ss.length y.2=none):aT ms ws ss=none:=by
 unfold aT
 rw[h0]
 exact cN fun o ho=>by
  obtain⟨k,hk⟩:=List.mem_iff_getElem?.mp ho
  have hl:=(List.getElem?_eq_some_iff.mp hk).1
  rw[fG] at hl
  rw[dn (sK hl),h1 k hl _ (sK hl)] at hk
  exact(Option.some.inj hk).symm
noncomputable def mv (t:Adr):Sp:=fun vs H Q E=>∃ (p dx m0 w0 s0:Addr) (ms ws:List Int) (ss:Ss) (L:Kn),vs=[.ref p,.ref m0,.ref w0,.ref s0] /\
 Has H ((p,.ins t.c_Program dx [])::(dx,.own p)::L)/\(m0,HO.lst (ms.map V.int)) ∈ L/\(w0,HO.lst (ws.map V.int)) ∈ L/\(s0,HO.lst (ssV ss)) ∈ L/\(∀ z ∈ ss,(z.1,HO.lst (rwV z.2)) ∈ L)/\(∀ z ∈ ss,∀ x ∈ z.2,(x.1,HO.tup x.2.v) ∈ L) /\
 SmI ms/\SmI ws/\SmS ss/\(aT ms ws ss=none->∀ H' A ss' N,A.p=p->ss'.map (·.2)=ss.map (·.2)->PIn t.c_Program A ms ws ss' (N++L)->Has H' (N++L)->Q .non H')/\(∀ i,aT ms ws ss=some i->∀ H' N a,Has H' (N++L)->E (.ref (hU t i)) (some a) H')
section
variable {P:Program}{w:World}{K:PySem.W.Frag}{mg:Str->Option Value}{base:Heap}{t:Adr}
theorem scPn:FnScope ["self","marks","widths","stretches","stretch"] ["self","marks","widths","stretches"] (ac ir):={}
theorem nh (T:Txt K mg t):FnOk P w K mg base (CXr P w) 5 t.f_Jd t.d_Jd ["self","marks","widths","stretches"] (mv t):=by
 refine T.F_Jd.okR scPn (fun vs H Q E h=>?_) (fun cdv A outer s H vs Q E hr h=>?_)
 ·obtain⟨_,_,_,_,_,_,_,_,_,rfl,_⟩:=h
  rfl
 ·obtain⟨p,dx,m0,w0,s0,ms,ws,ss,L,rfl,hH,mm0,mw0,ms0,ml,mr,smm,smw,sms,qg,qb⟩:=h
  have hlen:=sms.1
  refine⟨_,(af (jZ (pv 0) (aO bp (by rfl) T.z_list (by rfl) (aa (pv 1) ad)) rfl)
   (af (jZ (pv 0) (aO bp (by rfl) T.z_list (by rfl) (aa (pv 2) ad)) rfl)
   (af (jZ (pv 0) (dD (esc:=ac ir) (k:=1) ["rows","self","marks","widths","stretches","stretch"] rfl (bh (pv 3)) (fun _ _ _ _ _=>by exact(az (i:=0) (show List.Nodup (["rows","self","marks","widths","stretches","stretch"]:List Str) from by decide +kernel) rfl (Or.inl rfl))) (fun _ _ _ _ _=>by exact bB) (fun _ _ _ _ _=>by exact(aO (dH (K:=K) rfl) (by rfl) T.z_list (by rfl) (aa (pv 0) ad))) rfl (by decide +kernel) (by decide +kernel) rfl (by decide +kernel) (by rfl) (fun _ _ h _=>h) (by decide +kernel)) rfl)
   (af (aG (bz (pv 0) T.cl_Program T.M_J0 (qY T) hr (b_J0 T) .nil cA))
   (ag (bv PassesOwn.leaving rfl (bD (by rfl) T.z_range (aa (bz (pv 0) T.cl_Program T.M_Je (jr T) hr (n8 T) .nil c7) ad)) (az (i:=4) scPn.nd rfl (Or.inl rfl))
    (ag (aG (dU (pv 0) T.cl_Program T.M_J2 (qW T) hr (b_J2 T) .nil cA (aa (pv 4) ad)))))))))),?_⟩
  refine⟨_,U,m0,_,U,.inl (SqL.of (hH.tail.tail.at_ _ mm0)),fun a1 ha1=>?_⟩
  have h1:=hH.alloc ha1 (.lst (ms.map V.int))
  refine⟨_,U,p,_,dx,_,U,h1.get 1 U,T.cl_Program,T.n_Program_mark_sides,(show 0<1000 by decide),?_⟩
  have h2:=h1.puti 1 U (.ins t.c_Program dx [("mark_sides",.ref a1)])
  refine⟨_,U,w0,_,U,.inl (SqL.of (h2.tail.tail.tail.at_ _ mw0)),fun a2 ha2=>?_⟩
  have h3:=h2.alloc ha2 (.lst (ws.map V.int))
  refine⟨_,U,p,_,dx,_,U,h3.get 2 U,T.cl_Program,T.n_Program_counter_widths,(show 1<1000 by decide),?_⟩
  have h4:=h3.puti 2 U (.ins t.c_Program dx [("mark_sides",.ref a1),("counter_widths",.ref a2)])
  refine⟨_,U,s0,U,⟨_,SqL.of (h4.tail.tail.tail.tail.at_ _ ms0)⟩,fun D hD=>?_⟩
  have inL:∀ {H':Hp}{N:Kn}{z c1 c2 c3 c4 c5:Addr×HO},Has H' (c1::(N++(c2::c3::c4::c5::L)))->z ∈ L->H' z.1=some z.2:=fun h m=>h.at_ _ (sH _ (sJ _ (by simp[m])))
  refine⟨fun n m zs H'=>∃ (s1:Ss) (N:Kn),m=ss.length - n/\n<=ss.length/\s1.map (·.2)=(ss.take n).map (·.2)/\zs=ssV s1/\(∀ z ∈ s1,(z.1,HO.lst (rwV z.2)) ∈ N)/\Has H' ((D,.lst zs)::(N++((a2,.lst (ws.map V.int))::(a1,.lst (ms.map V.int))::(p,.ins t.c_Program dx [("mark_sides",.ref a1),("counter_widths",.ref a2)])::(dx,.own p)::L))),⟨_,[],[],U,Nat.zero_le _,U,U,by simp,h4.alloc hD _⟩,?_⟩
  rintro n m zs H5 ⟨s1,N,rfl,hn,es1,rfl,hN,h5⟩
  refine⟨h5.get 0 U,?_⟩
  have g0:=inL h5 ms0
  have ls1:s1.length=n:=by
   have:=congrArg List.length es1
   simp at this
   omega
  by_cases hlt:n<ss.length
  ·have hx0:(ssV ss)[n]?=some (.ref ss[n].1):=cT (sK hlt)
   refine .inr ⟨⟨_,_,SqL.of g0,hx0⟩,?_⟩
   rintro x H6 ⟨rfl,hx⟩
   have e1:=hx _ (SqL.of g0)
   rw[hx0] at e1
   cases e1
   refine⟨U,bS ?_⟩
   refine⟨_,U,ss[n].1,_,U,.inl (SqL.of (inL h5 (ml _ (List.getElem_mem hlt)))),fun rl hrl=>?_⟩
   have h6:=h5.alloc hrl (.lst (rwV ss[n].2))
   refine⟨sizeOk (by unfold ssV; rw[sI]; omega),h6.get 1 U,ss.length - (n+1),by omega,s1++[(rl,ss[n].2)],(rl,.lst (rwV ss[n].2))::N,U,hlt,?_,?_,?_,?_⟩
   ·rw[sP,es1,List.take_succ,sP,sK hlt]
    rfl
   ·unfold ssV
    rw[sP]
    rfl
   ·intro z hz
    rcases sY.mp hz with hz | hz
    ·exact sH _ (hN z hz)
    ·cases sO.mp hz
     exact sM
   ·exact(h6.puti 1 U _).swap2
  ·have en:n=ss.length:=by omega
   rw[en,List.take_length] at es1
   refine .inl ⟨⟨_,SqL.of g0,by unfold ssV; rw[sI]; omega⟩,?_⟩
   have h6:=Has.comm (X:=(D,HO.lst (ssV s1))::N) (Y:=[(a2,.lst (ws.map V.int)),(a1,.lst (ms.map V.int)),(p,.ins t.c_Program dx [("mark_sides",.ref a1),("counter_widths",.ref a2)]),(dx,.own p)]) h5
   refine⟨_,U,p,_,dx,_,U,h6.get 2 U,T.cl_Program,T.n_Program_stretches,(show 2<1000 by decide),?_⟩
   have h7:=h6.puti 2 U (.ins t.c_Program dx (pfl ⟨p,dx,a1,a2,D⟩))
   have ef:de "stretches" (.ref D) [("mark_sides",.ref a1),("counter_widths",.ref a2)]=pfl ⟨p,dx,a1,a2,D⟩:=by kernel_rfl
   have h8:=h7
   rw[<- ef] at h8
   rw[ef] at h8 ⊢
   obtain⟨N2,eN2⟩:∃ N2:Kn,[(a2,HO.lst (ws.map V.int)),(a1,.lst (ms.map V.int)),(p,.ins t.c_Program dx (pfl ⟨p,dx,a1,a2,D⟩)),(dx,.own p)]++((D,HO.lst (ssV s1))::N)=N2:=⟨_,U⟩
   have h9:Has (upd H5 p (.ins t.c_Program dx (pfl ⟨p,dx,a1,a2,D⟩))) (N2++L):=by rw[<- eN2]; exact h7
   have pin:PIn t.c_Program ⟨p,dx,a1,a2,D⟩ ms ws s1 (N2++L):=by
    rw[<- eN2]
    refine⟨by simp,by simp,by simp,by simp,fun z hz=>?_,fun z hz x hx=>?_⟩
    ·exact sV _ (by simp[hN z hz])
    ·have:z.2 ∈ ss.map (·.2):=by rw[<- es1]; exact tq hz
     obtain⟨z',h1,h2⟩:=sZ.mp this
     exact sJ _ (mr z' h1 x (by rw[h2]; exact hx))
   have pinN:PInN t.c_Program ⟨p,dx,a1,a2,D⟩ ms ws s1 N2:=by
    rw[<- eN2]
    exact⟨by simp,by simp,by simp,by simp,fun z hz=>by simp[hN z hz]⟩
   obtain⟨A,hA⟩:∃ A:PA,(⟨p,dx,a1,a2,D⟩:PA)=A:=⟨_,U⟩
   have hp:p=A.p:=by rw[<- hA]
   rw[hA] at pin pinN
   clear h7 h8 h6 h5
   generalize upd H5 p (.ins t.c_Program dx (pfl ⟨p,dx,a1,a2,D⟩))=H6 at h9 ⊢
   clear hA eN2
   subst hp
   have hL:∀ {H':Hp}{z:Addr×HO},Has H' (N2++L)->z ∈ N2++L->H' z.1=some z.2:=fun h m=>h.at_ _ m
   have lss:s1.length=ss.length:=by rw[ls1,en]
   rw[<- gi es1] at qg qb
   refine⟨_,U,A.p,A.dx,_,U,hL h9 pin.p,(c6 _).2.2.2.2.1,A,ms,ws,s1,_,U,h9,pin,smm,smw,fun bg=>?_,fun i hi a=>qb i (lO hi) _ N2 a h9⟩
   refine⟨_,U,A.p,A.dx,_,U,hL h9 pin.p,(c6 _).1,A,_,U,hL h9 pin.p,hL h9 pin.s,_,U,(by omega),(by unfold ssV; rw[sI]; omega),bK (fun i σ H'=>∃ (o:Option V),σ=[some (.ref A.p),some (.ref m0),some (.ref w0),some (.ref s0),o]/\Has H' (N2++L)/\∀ a,a<i->∀ y,s1[a]?=some y->stF ms.length ws.length a s1.length y.2=none) ⟨_,U,h9,fun a ha=>absurd ha (Nat.not_lt_zero _)⟩ ?_ ?_⟩
   ·rintro i σ H1 hi ⟨o,rfl,h8,pre⟩
    have hi:i<s1.length:=by
     have:i<((ssV s1).length:Int).toNat:=hi
     unfold ssV at this
     rw[sI] at this
     omega
    have hz:=sK hi
    have hsm:∀ x ∈ s1[i].2,SmR x.2:=by
     have:s1[i].2 ∈ ss.map (·.2):=by rw[<- es1]; exact tq (List.getElem_mem hi)
     obtain⟨z',h1,h2⟩:=sZ.mp this
     rw[<- h2]
     exact(sms.2 z' h1).2
    rw[Int.zero_add]
    refine⟨_,U,A.p,A.dx,_,U,hL h8 pin.p,(c6 _).2.2.2.2.2.1,_,U,A,ms,ws,s1,_,i,_,U,h8,pin,hz,by omega,hsm,fun ok H2 h9=>⟨_,U,h9,fun a ha y hy=>?_⟩,fun c hc H2 N a h9=>qb c (nM bg hz pre hc) _ (N++N2) a (by rw[tj]; exact h9)⟩
    by_cases e:a=i
    ·subst e
     rw[hz] at hy
     cases hy
     exact ok
    ·exact pre a (by omega) y hy
   ·rintro σ H1 ⟨o,rfl,h8,pre⟩
    refine qg (nO bg fun a ha=>pre a ?_) _ A s1 N2 rfl es1 pin h8
    have:((ssV s1).length:Int).toNat=s1.length:=by unfold ssV; rw[sI]; omega
    rw[this]
    exact ha
end
theorem gv {α:Type}:∀ (L:List α) (i:Nat) (hi:i<L.length),L.Perm (L[i]::L.eraseIdx i)
 | x::L,0,_=>List.Perm.refl _
 | x::L,i+1,hi=>by
  have:=gv L i (by simpa using hi)
  simp only[List.getElem_cons_succ,List.eraseIdx_cons_succ]
  exact(this.cons x).trans (List.Perm.swap _ _ _)
theorem eJ {H:Hp}{L:Kn} (h:Has H L) (i:Nat) {x:Addr×HO} (e:L[i]?=some x):Has H (x::L.eraseIdx i):=by
 obtain⟨hi,rfl⟩:=List.getElem?_eq_some_iff.mp e
 exact h.perm (gv L i hi)
theorem sz {n:Nat} (h:n<=1000000):n<=sizeLine:=Nat.le_of_lt (sizeOk h)
theorem sz_ (n:Nat) (h:n<=1000000:=by decide):n<=sizeLine:=sz h
theorem eK {p q:Prop} [Decidable p] [Decidable q] {A B U:Prop} (h:(if decide q=true then A else B)->U) (h1:p->q->A) (h2:¬ (p/\q)->B):if decide p=true then U else(if false=true then A else B):=by
 by_cases hp:p
 ·refine ifT (decide_eq_true hp) (h ?_)
  by_cases hq:q
  ·exact ifT (decide_eq_true hq) (h1 hp hq)
  ·exact ifF (decide_eq_false hq) (h2 fun z=>hq z.2)
 ·exact ifF (decide_eq_false hp) (dM (h2 fun z=>hp z.1))
theorem iN {p q r:Prop} [Decidable p] [Decidable q] [Decidable r] {A B U U':Prop} (h:(if decide q=true then U' else(if false=true then A else B))->U) (h':(if decide r=true then A else B)->U') (h1:p->q->r->A) (h2:¬ (p/\q/\r)->B):if decide p=true then U else(if false=true then A else B):=by
 by_cases hp:p
 ·exact ifT (decide_eq_true hp) (h (eK h' (fun hq hr=>h1 hp hq hr) (fun z=>h2 fun w=>z w.2)))
 ·exact ifF (decide_eq_false hp) (dM (h2 fun z=>hp z.1))
theorem dgI {ds:List Int} (j:Int) (h0:0<=j) (h1:j<ds.length):atI (ds.map V.int) j=some (.int (ds.getD j.toNat 0)):=by
 obtain⟨i,rfl⟩:=Int.eq_ofNat_of_zero_le h0
 exact aH (by
  rw[sN,sK (show i<ds.length by omega)]
  simp[List.getD,sK (show i<ds.length by omega)])
inductive sp_lrow (vs:List V) (H:Hp) (Q:VK) (E_:XK):Prop
 | mk (d lt:Addr) (ds:List Int) (k more:Int) (many nm nc st ns:Nat) (L:Kn) (_:vs=[.ref d,.int k,.int more,.int many,.int nm,.int nc,.ref lt]) (_:Has H L) (_:(d,HO.lst (ds.map V.int)) ∈ L) (_:(lt,HO.lst (dE ((st:Int)+1) (ns - (st+1)))) ∈ L) (_:0<=k) (_:k+3<ds.length) (_:1<=many) (_:∀ H' a (y:Rw),y.ok nm nc many st ns->Has H' ((a,.tup y.v)::L)->Q (.ref a) H'):sp_lrow vs H Q E_
inductive sp_Js (vs:List V) (H:Hp) (Q:VK) (E_:XK):Prop
 | mk (s0:Addr) (ss:Ss) (L:Kn) (_:vs=[.ref s0]) (_:Has H L) (_:(s0,HO.lst (ssV ss)) ∈ L) (_:(∀ z ∈ ss,(z.1,HO.lst (rwV z.2)) ∈ L)) (_:ss.length<=1000) (_:∀ H' D (s1:Ss) N,s1.map (·.2)=ss.map (·.2)->(∀ z ∈ s1,(z.1,HO.lst (rwV z.2)) ∈ N)->Has H' ((D,.lst (ssV s1))::(N++L))->Q (.ref D) H'):sp_Js vs H Q E_
section
variable {P:Program}{w:World}{K:PySem.W.Frag}{mg:Str->Option Value}{base:Heap}{t:Adr}
theorem scCy:FnScope ["_law_parts_here"] ["_law_parts_here"] (ac im):={}
theorem ok_Js (T:Txt K mg t):FnOk P w K mg base CX0 1 t.f_Js t.d_Js ["_law_parts_here"] sp_Js:=by
 refine T.F_Js.ok scCy (fun vs H Q E h=>?_) (fun cdv A outer s H vs Q E hr h=>?_)
 ·obtain⟨_,_,_,rfl,_⟩:=h
  rfl
 ·obtain⟨s0,ss,L,rfl,hH,ms0,ml,hlen,q⟩:=h
  refine⟨_,(ag (aJ (dD (esc:=ac im) (k:=1) ["_law_rows","_law_parts_here"] rfl (bh (pv 0)) (fun _ _ _ _ _=>by exact(az (i:=0) (show List.Nodup (["_law_rows","_law_parts_here"]:List Str) from by decide +kernel) rfl (Or.inl rfl))) (fun _ _ _ _ _=>by exact bB) (fun _ _ _ _ _=>by exact(aO (dH (K:=K) rfl) (by rfl) T.z_list (by rfl) (aa (pv 0) ad))) rfl (by decide +kernel) (by decide +kernel) rfl (by decide +kernel) (by rfl) (fun _ _ h _=>h) (by decide +kernel)))),?_⟩
  refine⟨_,U,s0,U,⟨_,SqL.of (hH.at_ _ ms0)⟩,fun D hD=>?_⟩
  have inL:∀ {H':Hp}{N:Kn}{z c1:Addr×HO},Has H' (c1::(N++L))->z ∈ L->H' z.1=some z.2:=fun h m=>h.at_ _ (sH _ (sJ _ m))
  refine⟨fun n m zs H'=>∃ (s1:Ss) (N:Kn),m=ss.length - n/\n<=ss.length/\s1.map (·.2)=(ss.take n).map (·.2)/\zs=ssV s1/\(∀ z ∈ s1,(z.1,HO.lst (rwV z.2)) ∈ N)/\Has H' ((D,.lst zs)::(N++L)),⟨_,[],[],U,Nat.zero_le _,U,U,by simp,hH.alloc hD _⟩,?_⟩
  rintro n m zs H5 ⟨s1,N,rfl,hn,es1,rfl,hN,h5⟩
  refine⟨h5.get 0 U,?_⟩
  have g0:=inL h5 ms0
  have ls1:s1.length=n:=by
   have:=congrArg List.length es1
   simp at this
   omega
  by_cases hlt:n<ss.length
  ·have hx0:(ssV ss)[n]?=some (.ref ss[n].1):=cT (sK hlt)
   refine .inr ⟨⟨_,_,SqL.of g0,hx0⟩,?_⟩
   rintro x H6 ⟨rfl,hx⟩
   have e1:=hx _ (SqL.of g0)
   rw[hx0] at e1
   cases e1
   refine⟨U,bS ?_⟩
   refine⟨_,U,ss[n].1,_,U,.inl (SqL.of (inL h5 (ml _ (List.getElem_mem hlt)))),fun rl hrl=>?_⟩
   have h6:=h5.alloc hrl (.lst (rwV ss[n].2))
   refine⟨sizeOk (by unfold ssV; rw[sI]; omega),h6.get 1 U,ss.length - (n+1),by omega,s1++[(rl,ss[n].2)],(rl,.lst (rwV ss[n].2))::N,U,hlt,?_,?_,?_,?_⟩
   ·rw[sP,es1,List.take_succ,sP,sK hlt]
    rfl
   ·unfold ssV
    rw[sP]
    rfl
   ·intro z hz
    rcases sY.mp hz with hz | hz
    ·exact sH _ (hN z hz)
    ·cases sO.mp hz
     exact sM
   ·exact(h6.puti 1 U _).swap2
  ·have en:n=ss.length:=by omega
   rw[en,List.take_length] at es1
   exact .inl ⟨⟨_,SqL.of g0,by unfold ssV; rw[sI]; omega⟩,q _ D s1 N es1 hN h5⟩
theorem scLr:FnScope ["_law_d","_law_k","_law_more","_law_many","_law_marks","_law_counters","_law_later","_law_word","_law_one","_law_other"] ["_law_d","_law_k","_law_more","_law_many","_law_marks","_law_counters","_law_later"] (ac eT):={}
theorem qK (T:Txt K mg t):FnOk P w K mg base CX0 1 t.f_row t.d_row ["_law_d","_law_k","_law_more","_law_many","_law_marks","_law_counters","_law_later"] sp_lrow:=by
 refine T.F_row.ok scLr (fun vs H Q E h=>?_) (fun cdv A outer s H vs Q E hr h=>?_)
 ·obtain⟨_,_,_,_,_,_,_,_,_,_,_,rfl,_⟩:=h
  rfl
 ·obtain⟨d,lt,ds,k,more,many,nm,nc,st,ns,L,rfl,hH,md,mlt,k0,k1,hmany,q⟩:=h
  have gd:=hH.at_ _ md
  have gl:=hH.at_ _ mlt
  dsimp only at gd gl
  refine⟨_,(af (aC (i:=7) scLr.nd rfl (Or.inl rfl) (ak ay (ak aL (aA au (pv 0) (pv 1)) (pv 2)) ae))
   (af (aC (i:=8) scLr.nd rfl (Or.inl rfl) (ak aL (aA au (pv 0) (ak aL (pv 1) ae)) (ak dh ae (pv 2))))
   (af (aC (i:=9) scLr.nd rfl (Or.inl rfl) (ak aL (aA au (pv 0) (ak aL (pv 1) ae)) (ak dh ae (pv 2))))
   (af (aD (PW.pt (bJ (ap aZ (pv 7) ae (ar _)) (bM (ap bW (pv 4) ae (ar _)))))
    (ag (aJ (aF (aa ah (aa (ak ay (pv 8) (pv 4)) (aa (ak aL ae (ak ay (pv 9) ae)) ad))))))
    ax)
   (af (aD (PW.pt (bJ (ap cK (pv 7) ae (ar _)) (bJ (ap bW (pv 7) ae (ar _)) (bM (ap bW (pv 4) ae (ar _))))))
    (ag (aJ (aF (aa ah (aa (ak ay (pv 8) (pv 4)) (aa (ak ay (pv 9) (pv 3)) (aa (ak ay (aA au (pv 0) (ak aL (pv 1) ae)) (pv 3)) ad)))))))
    ax)
   (af (aD (PW.pt (bJ (ap cK (pv 7) ae (ar _)) (bJ (ap bW (pv 7) ae (ar _)) (bM (ap bW (pv 5) ae (ar _))))))
    (ag (aJ (aF (aa ah (aa (ak ay (pv 8) (pv 5)) (aa (ak ay (pv 9) (pv 3)) ad))))))
    ax)
   (af (aD (ap aZ (pv 7) ae (ar _))
    (ag (aJ (aF (aa ah (aa (ak ay (pv 8) (pv 3)) ad)))))
    ax)
   (af (aD (PW.pt (bJ (ap cK (pv 7) ae (ar _)) (bJ (ap bW (pv 7) ae (ar _)) (bM (ap bW (aq av (by rfl) T.z_len (by rfl) (aa (pv 6) ad)) ae (ar _))))))
    (ag (aJ (aF (aa ah (aa (aA au (pv 6) (ak ay (pv 8) (aq av (by rfl) T.z_len (by rfl) (aa (pv 6) ad)))) ad)))))
    ax)
   (af (aD (ap aZ (pv 7) ae (ar _))
    (ag (aJ (aF (aa ah ad))))
    ax)
   (ag (aJ (aF (aa ah (aa (ak ay (pv 8) ae) ad)))))))))))))),?_⟩
  rw[]
  refine⟨_,U,_,U,d,_,_,_,U,U,SqL.of gd,dgI k k0 (by omega),_,U,_,_,U,U,_,_,U,U,(show(0:Int)<10 by decide),?_⟩
  dsimp only[List.set]
  obtain⟨wd,ewd⟩:∃ wd,(ds.getD k.toNat 0+more) % 10=wd:=⟨_,U⟩
  rw[ewd]
  refine⟨_,U,_,U,_,_,U,U,d,_,_,_,U,U,SqL.of gd,dgI (k+1) (by omega) (by omega),_,U,_,_,U,U,.inl ⟨by decide,by decide⟩,_,_,U,U,?_⟩
  dsimp only[List.set]
  obtain⟨one,eone⟩:∃ one,ds.getD (k+1).toNat 0+7*more=one:=⟨_,U⟩
  rw[eone]
  refine⟨_,U,_,U,_,_,U,U,d,_,_,_,U,U,SqL.of gd,dgI (k+2) (by omega) (by omega),_,U,_,_,U,U,.inl ⟨by decide,by decide⟩,_,_,U,U,?_⟩
  dsimp only[List.set]
  obtain⟨oth,eoth⟩:∃ oth,ds.getD (k+2).toNat 0+5*more=oth:=⟨_,U⟩
  rw[eoth]
  have em:∀ (a b:Int),0<b->0<=a % b/\a % b<b:=fun a b hb=>⟨Int.emod_nonneg _ (by omega),Int.emod_lt_of_pos _ hb⟩
  have hm0:(0:Int)<many:=by omega
  refine⟨_,U,U,_,U,?_⟩
  rw[bb]
  refine eK (fun z=>⟨_,U,_,_,U,U,_,U,z⟩) (fun hw hp=>?_) (fun _=>?_)
  ·have hp:(0:Int)<nm:=by omega
   refine⟨_,U,_,U,_,_,U,U,hp,_,U,_,_,U,U,(show(0:Int)<2 by decide),_,_,U,U,(sz_ 3),fun a ha=>?_⟩
   have:=em one nm hp
   exact q _ a (.set (one % nm) (1+oth % 2)) ⟨this.1,this.2,by omega⟩ (hH.alloc ha _)
  refine⟨_,U,_,_,U,U,_,U,?_⟩
  refine iN (fun z=>⟨_,U,_,_,U,U,_,U,z⟩) (fun z=>⟨_,U,_,_,U,U,_,U,z⟩) (fun _ _ hp=>?_) (fun _=>?_)
  ·have hp:(0:Int)<nm:=by omega
   refine⟨_,U,_,U,_,_,U,U,hp,_,U,_,U,_,_,U,U,hm0,_,U,_,U,_,_,U,U,d,_,_,_,U,U,SqL.of gd,dgI (k+3) (by omega) (by omega),_,U,_,_,U,U,hm0,(sz_ 4),fun a ha=>?_⟩
   have e1:=em one nm hp
   have e2:=em oth many hm0
   have e3:=em (ds.getD (k+3).toNat 0) many hm0
   exact q _ a (.ask (one % nm) (oth % many) (ds.getD (k+3).toNat 0 % many)) ⟨e1.1,e1.2,e2.1,e2.2,e3.1,e3.2⟩ (hH.alloc ha _)
  refine⟨_,U,_,_,U,U,_,U,?_⟩
  refine iN (fun z=>⟨_,U,_,_,U,U,_,U,z⟩) (fun z=>⟨_,U,_,_,U,U,_,U,z⟩) (fun _ _ hp=>?_) (fun _=>?_)
  ·have hp:(0:Int)<nc:=by omega
   refine⟨_,U,_,U,_,_,U,U,hp,_,U,_,U,_,_,U,U,hm0,(sz_ 3),fun a ha=>?_⟩
   have e1:=em one nc hp
   have e2:=em oth many hm0
   exact q _ a (.bump (one % nc) (oth % many)) ⟨e1.1,e1.2,e2.1,e2.2⟩ (hH.alloc ha _)
  refine⟨_,U,U,_,U,?_⟩
  rw[bb]
  refine ifd (fun _=>?_) (fun _=>?_)
  ·refine⟨_,U,_,U,_,_,U,U,hm0,(sz_ 2),fun a ha=>?_⟩
   have e1:=em one many hm0
   exact q _ a (.go (one % many)) e1 (hH.alloc ha _)
  refine⟨_,U,_,_,U,U,_,U,?_⟩
  refine iN (fun z=>⟨_,U,_,_,U,U,_,U,z⟩) (fun z=>⟨_,U,lt,_,U,.inl (SqL.of gl),_,_,U,U,_,U,z⟩) (fun _ _ hp=>?_) (fun _=>?_)
  ·have hl:(dE ((st:Int)+1) (ns - (st+1))).length=ns - (st+1):=b7 _ _
   have hp:(0:Int)<((dE ((st:Int)+1) (ns - (st+1))).length:Int):=by omega
   have e1:=em one _ hp
   obtain⟨j,ej⟩:=Int.eq_ofNat_of_zero_le e1.1
   have hj:j<ns - (st+1):=by omega
   refine⟨_,U,_,U,_,U,lt,_,U,.inl (SqL.of gl),_,_,U,U,hp,lt,_,_,_,U,U,SqL.of gl,(by rw[ej]; exact aH (gW hj)),(sz_ 2),fun a ha=>?_⟩
   exact q _ a (.call ((st:Int)+1+(j:Int))) ⟨by omega,by omega⟩ (hH.alloc ha _)
  refine⟨_,U,U,_,U,?_⟩
  rw[bb]
  refine ifd (fun _=>?_) (fun _=>?_)
  ·refine⟨(sz_ 1),fun a ha=>?_⟩
   exact q _ a .fin trivial (hH.alloc ha _)
  refine⟨_,U,_,_,U,U,(show(0:Int)<10000 by decide),(sz_ 2),fun a ha=>?_⟩
  exact q _ a (.bell (one % 10000)) ⟨by omega,by omega⟩ (hH.alloc ha _)
end
theorem Rw.notLast:∀ (x:Rw),x.last=false->(!inV (.str x.ws) [.str "ask",.str "go",.str "end"])=true
 | .bell _,_=>(by decide +kernel:(!inV (.str ("bell" : Str)) [.str "ask",.str "go",.str "end"])=true)
 | .set _ _,_=>(by decide +kernel:(!inV (.str ("set" : Str)) [.str "ask",.str "go",.str "end"])=true)
 | .bump _ _,_=>(by decide +kernel:(!inV (.str ("bump" : Str)) [.str "ask",.str "go",.str "end"])=true)
 | .call _,_=>(by decide +kernel:(!inV (.str ("call" : Str)) [.str "ask",.str "go",.str "end"])=true)
 | .ask _ _ _,h=>nomatch h
 | .go _,h=>nomatch h
 | .fin,h=>nomatch h
theorem nH {n:Nat} (h:1<=n):ixN n (-1)=some (n - 1):=by
 unfold ixN
 rw[if_neg (by omega),if_pos (by omega)]
 congr 1
 omega
theorem mx {α:Type} (xs:List α) (a b:α):(xs++[a]).set ((xs++[a]).length - 1) b=xs++[b]:=by
 rw[sW,tE,Nat.add_sub_cancel,List.set_append_right _ _ (Nat.le_refl _),Nat.sub_self]
 rfl
noncomputable def sG (ss:Ss):Prop:=(∃ M:Nat,ss.length*M<=120/\∀ z ∈ ss,z.2.length<=M)/\(ss.map (·.1)).Nodup
noncomputable def GoodU (nm nc S M:Nat) (ss:Ss):Prop:=(∀ (k:Nat) z,ss[k]?=some z->(∀ x ∈ z.2,x.2.ok nm nc z.2.length k S)/\(∃ a y,z.2.getLast?=some (a,y)/\y.last=true)/\z.2.length<=M)/\(ss.map (·.1)).Nodup
inductive sp_parts (vs:List V) (H:Hp) (Q:VK) (E_:XK):Prop
 | mk (d:Addr) (ds:List Int) (nm nc:Nat) (L:Kn) (_:vs=[.ref d,.int 8,.int nm,.int nc]) (_:Has H L) (_:(d,HO.lst (ds.map V.int)) ∈ L) (_:340<=ds.length) (_:∀ H' pl ss N,ss≠[]->ss.length<=40->rR nm nc ss->sG ss->(∀ z ∈ ss,(z.1,HO.lst (rwV z.2)) ∈ N)->(∀ z ∈ ss,∀ x ∈ z.2,(x.1,HO.tup x.2.v) ∈ N)->Has H' ((pl,.lst (ssV ss))::(N++L))->Q (.ref pl) H'):sp_parts vs H Q E_
theorem GoodU.snoc {nm nc S M:Nat} (h:GoodU nm nc S M ss) (h1:∀ x ∈ z.2,x.2.ok nm nc z.2.length ss.length S) (h2:∃ a y,z.2.getLast?=some (a,y)/\y.last=true) (h3:z.2.length<=M) (h4:∀ x ∈ ss,x.1≠z.1):GoodU nm nc S M (ss++[z]):=by
 refine⟨?_,by
  rw[sP,List.nodup_append]
  exact⟨h.2,by simp,fun a ha b hb=>by obtain⟨x,hx,rfl⟩:=sZ.mp ha; cases sO.mp hb; exact h4 x hx⟩⟩
 intro k y hy
 by_cases hk:k<ss.length
 ·rw[tm hk] at hy
  exact h.1 k y hy
 ·rw[tf (by omega)] at hy
  cases hj:k - ss.length with
  | zero=>
   rw[hj] at hy
   cases hy
   have:k=ss.length:=by omega
   subst this
   exact⟨h1,h2,h3⟩
  | succ j=>rw[hj] at hy; simp at hy
section
variable {P:Program}{w:World}{K:PySem.W.Frag}{mg:Str->Option Value}{base:Heap}{t:Adr}
theorem scLp:FnScope ["_law_d","_law_at","_law_marks","_law_counters","_law_stretches","_law_low","_law_size","_law_parts_here","_law_slot","_law_stretch","_law_many","_law_rows","_law_row_here","_law_k"] ["_law_d","_law_at","_law_marks","_law_counters"] (ac cu):={}
theorem m5 (T:Txt K mg t):FnOk P w K mg base CX0 2 t.f_parts t.d_parts ["_law_d","_law_at","_law_marks","_law_counters"] sp_parts:=by
 refine T.F_parts.ok scLp (fun vs H Q E h=>?_) (fun cdv A outer s H vs Q E hr h=>?_)
 ·obtain⟨_,_,_,_,_,rfl,_⟩:=h
  rfl
 ·obtain⟨d,ds,nm,nc,L,rfl,hH,md,hds,q⟩:=h
  have gd:=hH.at_ _ md
  dsimp only at gd
  refine⟨_,(af (bT (aA au (aV (@aa _ _ _ _ _ (aF (aa (ak aL ae (ak ay (aA au (pv 0) (pv 1) (fun _ _=>rfl)) ae)) (aa ae (aa ae ad)))) (@aa _ _ _ _ _ (aF (aa ae (aa ae (aa ae ad)))) (@aa _ _ _ _ _ (aF (aa (ak aL ae (ak ay (aA au (pv 0) (pv 1) (fun _ _=>rfl)) ae)) (aa ae (aa ae ad)))) (@aa _ _ _ _ _ (aF (aa ae (aa ae (aa ae ad)))) (@aa _ _ _ _ _ (aF (aa ae (aa ae (aa ae ad)))) (@aa _ _ _ _ _ (aF (aa (ak aL ae (ak ay (aA au (pv 0) (pv 1) (fun _ _=>rfl)) ae)) (aa ae (aa ae ad)))) (@aa _ _ _ _ _ (aF (aa (ak aL ae (ak ay (aA au (pv 0) (pv 1) (fun _ _=>rfl)) ae)) (aa ae (aa ae ad)))) (@aa _ _ _ _ _ (aF (aa (ak aL ae (ak ay (aA au (pv 0) (pv 1) (fun _ _=>rfl)) ae)) (aa ae (aa ae ad)))) ad (by rfl)) (by rfl)) (by rfl)) (by rfl)) (by rfl)) (by rfl)) (by rfl)) (by rfl))) (ak ay (ak bN (aA au (pv 0) (pv 1) (fun _ _=>rfl)) ae) ae)) (fO rfl (aU (az (i:=4) scLp.nd rfl (Or.inl rfl)) (aU (az (i:=5) scLp.nd rfl (Or.inl rfl)) (aU (az (i:=6) scLp.nd rfl (Or.inl rfl)) cz)))))
   (af (aC (i:=7) scLp.nd rfl (Or.inl rfl) (aV ad))
   (af (aC (i:=8) scLp.nd rfl (Or.inl rfl) ae)
   (af (bv PassesOwn.never rfl (bD (by rfl) T.z_range (aa (pv 4) ad)) (az (i:=9) scLp.nd rfl (Or.inl rfl))
    (af (aC (i:=10) scLp.nd rfl (Or.inl rfl) (ak aL (pv 5) (ak ay (ak aL (aA au (pv 0) (ak aL (ak aL (pv 1) ae) (ak ay (pv 9) ae))) (ak bN (pv 9) ae)) (pv 6))))
     (af (aC (i:=11) scLp.nd rfl (Or.inl rfl) (aV ad))
     (af (bv PassesOwn.never rfl (bD (by rfl) T.z_range (aa (pv 10) ad)) (az (i:=12) scLp.nd rfl (Or.inl rfl))
      (af (aC (i:=13) scLp.nd rfl (Or.inl rfl) (ak aL (ak aL (pv 1) ae) (ak dh ae (ak ay (pv 8) ae))))
       (af (aG (bf PySem.F.plainAttrs_list PySem.F.slot_list_append PySem.F.type_list_append aR (pv 11) (aa (pcl (qK T) hr T.m_row T.F_row.kp (b_row T) (aa (pv 0) (aa (pv 13) (aa (ak bN (pv 8) ae) (aa (pv 10) (aa (pv 2) (aa (pv 3) (aa (aO (gr rfl) (by rfl) T.z_list (by rfl) (aa (aO jI (by rfl) T.z_range (by rfl) (aa (ak aL (pv 9) ae) (aa (pv 4) ad))) ad)) ad)))))))) ad)))
       (ag (aC (i:=8) scLp.nd rfl (Or.inl rfl) (ak aL (pv 8) ae))))))
     (af (aD (ap dX (aA dL (aA au (pv 11) (kJ ii ae) (fun _ _=>rfl)) ae) (aF (aa ah (aa ah (aa ah ad)))) (by rfl))
      (ag (bT (aF (aa ah ad)) (cH (pv 11) (kJ ii ae) bx)))
      ax)
     (ag (aG (bf PySem.F.plainAttrs_list PySem.F.slot_list_append PySem.F.type_list_append aR (pv 7) (aa (pv 11) ad)))))))))
   (ag (aJ (pv 7))))))),?_⟩
  rw[]
  have a8:atI (ds.map V.int) 8=some (.int (ds.getD (8:Int).toNat 0)):=dgI 8 (by decide) (by omega)
  obtain⟨x8,ex8⟩:∃ x8,ds.getD (8:Int).toNat 0=x8:=⟨_,U⟩
  rw[ex8] at a8
  obtain⟨v4,ev4⟩:∃ v:Nat,1+x8 % 4=(v:Int):=Int.eq_ofNat_of_zero_le (by omega)
  obtain⟨v3,ev3⟩:∃ v:Nat,1+x8 % 3=(v:Int):=Int.eq_ofNat_of_zero_le (by omega)
  refine⟨_,U,_,U,d,_,_,_,U,U,SqL.of gd,a8,_,_,U,U,(show(0:Int)<4 by decide),_,_,U,U,(sz_ 3),fun p1 hp1=>?_⟩
  have h1:=hH.alloc hp1 (.tup [.int (1+x8 % 4),.int 1,.int 6])
  refine⟨(sz_ 3),fun p2 hp2=>?_⟩
  have h2:=h1.alloc hp2 (.tup [.int 8,.int 1,.int 10])
  have gd2:_=_:=h2.at_ _ (sH _ (sH _ md))
  dsimp only at gd2
  refine⟨_,U,_,U,d,_,_,_,U,U,SqL.of gd2,a8,_,_,U,U,(show(0:Int)<3 by decide),_,_,U,U,(sz_ 3),fun p3 hp3=>?_⟩
  have h3:=h2.alloc hp3 (.tup [.int (1+x8 % 3),.int 11,.int 30])
  refine⟨(sz_ 3),fun p4 hp4=>?_⟩
  have h4:=h3.alloc hp4 (.tup [.int 40,.int 1,.int 2])
  refine⟨(sz_ 3),fun p5 hp5=>?_⟩
  have h5:=h4.alloc hp5 (.tup [.int 1,.int 41,.int 60])
  have gd5:=h5.at_ _ (sH _ (sH _ (sH _ (sH _ (sH _ md)))))
  dsimp only at gd5
  refine⟨_,U,_,U,d,_,_,_,U,U,SqL.of gd5,a8,_,_,U,U,(show(0:Int)<4 by decide),_,_,U,U,(sz_ 3),fun p6 hp6=>?_⟩
  have h6:=h5.alloc hp6 (.tup [.int (1+x8 % 4),.int 1,.int 6])
  have gd6:=h6.at_ _ (sH _ (sH _ (sH _ (sH _ (sH _ (sH _ md))))))
  dsimp only at gd6
  refine⟨_,U,_,U,d,_,_,_,U,U,SqL.of gd6,a8,_,_,U,U,(show(0:Int)<4 by decide),_,_,U,U,(sz_ 3),fun p7 hp7=>?_⟩
  have h7:=h6.alloc hp7 (.tup [.int (1+x8 % 4),.int 1,.int 6])
  have gd7:=h7.at_ _ (sH _ (sH _ (sH _ (sH _ (sH _ (sH _ (sH _ md)))))))
  dsimp only at gd7
  refine⟨_,U,_,U,d,_,_,_,U,U,SqL.of gd7,a8,_,_,U,U,(show(0:Int)<4 by decide),_,_,U,U,(sz_ 3),fun p8 hp8=>?_⟩
  have h8:=h7.alloc hp8 (.tup [.int (1+x8 % 4),.int 1,.int 6])
  refine⟨(sz_ 8),fun lp hlp=>?_⟩
  have h9:=h8.alloc hlp (.lst [.ref p1,.ref p2,.ref p3,.ref p4,.ref p5,.ref p6,.ref p7,.ref p8])
  have h10:=h9.sub (List.sublist_append_right [(lp,HO.lst [.ref p1,.ref p2,.ref p3,.ref p4,.ref p5,.ref p6,.ref p7,.ref p8]),(p8,.tup [.int (1+x8 % 4),.int 1,.int 6]),(p7,.tup [.int (1+x8 % 4),.int 1,.int 6]),(p6,.tup [.int (1+x8 % 4),.int 1,.int 6]),(p5,.tup [.int 1,.int 41,.int 60]),(p4,.tup [.int 40,.int 1,.int 2]),(p3,.tup [.int (1+x8 % 3),.int 11,.int 30]),(p2,.tup [.int 8,.int 1,.int 10]),(p1,.tup [.int (1+x8 % 4),.int 1,.int 6])] L)
  dsimp only[List.set] at h9 h10 ⊢
  have gd9:=h10.at_ _ md
  dsimp only at gd9
  obtain⟨pi,S,lo,sz0,hat,hpi,hS1,hS2,hlo1,hlo2,hz1,hz2,hSM⟩:∃ (pi:Addr) (S lo sz0:Nat),atI [V.ref p1,.ref p2,.ref p3,.ref p4,.ref p5,.ref p6,.ref p7,.ref p8] (x8 / 4 % 8)=some (.ref pi)/\(pi,HO.tup [.int S,.int lo,.int sz0]) ∈ [(lp,HO.lst [.ref p1,.ref p2,.ref p3,.ref p4,.ref p5,.ref p6,.ref p7,.ref p8]),(p8,.tup [.int (1+x8 % 4),.int 1,.int 6]),(p7,.tup [.int (1+x8 % 4),.int 1,.int 6]),(p6,.tup [.int (1+x8 % 4),.int 1,.int 6]),(p5,.tup [.int 1,.int 41,.int 60]),(p4,.tup [.int 40,.int 1,.int 2]),(p3,.tup [.int (1+x8 % 3),.int 11,.int 30]),(p2,.tup [.int 8,.int 1,.int 10]),(p1,.tup [.int (1+x8 % 4),.int 1,.int 6])]++L/\1<=S/\S<=40/\1<=lo/\lo<=41/\1<=sz0/\sz0<=60/\S*(lo+sz0 - 1)<=120:=by
   rw[ev4,ev3]
   have c:x8 / 4 % 8=0∨x8 / 4 % 8=1∨x8 / 4 % 8=2∨x8 / 4 % 8=3∨x8 / 4 % 8=4∨x8 / 4 % 8=5∨x8 / 4 % 8=6∨x8 / 4 % 8=7:=by omega
   rcases c with c | c | c | c | c | c | c | c <;> rw[c]
   ·exact⟨p1,v4,1,6,U,by simp,by omega,by omega,by omega,by omega,by omega,by omega,by omega⟩
   ·exact⟨p2,8,1,10,U,by simp,by omega,by omega,by omega,by omega,by omega,by omega,by omega⟩
   ·exact⟨p3,v3,11,30,U,by simp,by omega,by omega,by omega,by omega,by omega,by omega,by omega⟩
   ·exact⟨p4,40,1,2,U,by simp,by omega,by omega,by omega,by omega,by omega,by omega,by omega⟩
   ·exact⟨p5,1,41,60,U,by simp,by omega,by omega,by omega,by omega,by omega,by omega,by omega⟩
   ·exact⟨p6,v4,1,6,U,by simp,by omega,by omega,by omega,by omega,by omega,by omega,by omega⟩
   ·exact⟨p7,v4,1,6,U,by simp,by omega,by omega,by omega,by omega,by omega,by omega,by omega⟩
   ·exact⟨p8,v4,1,6,U,by simp,by omega,by omega,by omega,by omega,by omega,by omega,by omega⟩
  refine⟨_,U,_,U,d,_,_,_,U,U,SqL.of gd9,a8,_,_,U,U,⟨by decide,by decide⟩,_,_,U,U,(show(0:Int)<8 by decide),lp,_,_,_,U,U,SqL.of (h9.get 0 U),hat,pi,_,U,SqT.of (h9.at_ _ hpi),U,_,_,U,_,_,U,_,_,U,U,?_⟩
  refine⟨(sz_ 0),fun pl hpl=>?_⟩
  have h11:=h10.alloc hpl (.lst [])
  clear h1 h2 h3 h4 h5 h6 h7 h8 h9 hpi hat gd2 gd5 gd6 gd7 gd9
  have em:∀ (a b:Int),0<b->0<=a % b/\a % b<b:=fun a b hb=>⟨Int.emod_nonneg _ (by omega),Int.emod_lt_of_pos _ hb⟩
  refine⟨_,U,_,U,by omega,by omega,bK (fun i σ H'=>∃ (o9 o10 o11 o12 o13:Option V) (slot:Int) (ss:Ss) (N:Kn),σ=[some (.ref d),some (.int 8),some (.int nm),some (.int nc),some (.int S),some (.int lo),some (.int sz0),some (.ref pl),some (.int slot),o9,o10,o11,o12,o13]/\ss.length=i/\GoodU nm nc S (lo+sz0 - 1) ss/\(∀ z ∈ ss,(z.1,HO.lst (rwV z.2)) ∈ N)/\(∀ z ∈ ss,∀ x ∈ z.2,(x.1,HO.tup x.2.v) ∈ N)/\Has H' ((pl,.lst (ssV ss))::(N++L))) ⟨none,none,none,none,none,0,[],[],U,U,⟨fun k z hz=>by simp at hz,by simp⟩,by simp,by simp,h11⟩ ?_ ?_⟩
  ·clear h11 h10
   rintro i σ H2 hi ⟨o9,o10,o11,o12,o13,slot,ss,N,rfl,hl,hg,hz,hx,h2⟩
   have hi:i<S:=by omega
   rw[Int.zero_add]
   show le _ _ _ _ _
   dsimp only[List.set]
   have inL:∀ {H':Hp}{z c1:Addr×HO}{N:Kn},Has H' (c1::(N++L))->z ∈ L->H' z.1=some z.2:=fun h m=>h.at_ _ (sH _ (sJ _ m))
   have g2:=inL h2 md
   dsimp only at g2
   have i8:=em (i:Int) 8 (by decide)
   refine⟨_,U,_,U,_,U,_,_,U,U,_,U,_,_,U,U,(show(0:Int)<8 by decide),_,_,U,U,d,_,_,_,U,U,SqL.of g2,dgI (8+1+(i:Int) % 8) (by omega) (by omega),_,U,_,_,U,U,⟨by decide,by decide⟩,_,_,U,U,_,U,_,_,U,U,(show(0:Int)<sz0 by omega),_,_,U,U,?_⟩
   dsimp only[List.set]
   obtain⟨many,emany⟩:∃ many:Nat,(lo:Int)+(ds.getD (8+1+(i:Int) % 8).toNat 0+(i:Int) / 8) % sz0=(many:Int):=Int.eq_ofNat_of_zero_le (by have:=em (ds.getD (8+1+(i:Int) % 8).toNat 0+(i:Int) / 8) sz0 (by omega); omega)
   have hmany:1<=many/\many<=101/\many<=lo+sz0 - 1:=by have:=em (ds.getD (8+1+(i:Int) % 8).toNat 0+(i:Int) / 8) sz0 (by omega); omega
   rw[emany]
   refine⟨(sz_ 0),fun rl hrl=>?_⟩
   dsimp only[List.set]
   have h3:=h2.alloc hrl (.lst [])
   refine⟨_,U,_,U,by omega,by omega,bK (fun j σ H'=>∃ (o12 o13:Option V) (slot:Int) (rs:List (Addr×Rw)) (N':Kn),σ=[some (.ref d),some (.int 8),some (.int nm),some (.int nc),some (.int S),some (.int lo),some (.int sz0),some (.ref pl),some (.int slot),some (.int i),some (.int many),some (.ref rl),o12,o13]/\rs.length=j/\(∀ x ∈ rs,x.2.ok nm nc many i S)/\(∀ x ∈ rs,(x.1,HO.tup x.2.v) ∈ N')/\Has H' ((rl,.lst (rwV rs))::(N'++((pl,.lst (ssV ss))::(N++L))))) ⟨_,_,slot,[],[],U,U,by simp,by simp,h3⟩ ?_ ?_⟩
   ·clear h3
    rintro j σ H3 hj ⟨o12,o13,slot,rs,N',rfl,hrl2,hok,hin,h3⟩
    have hj:j<many:=by omega
    show le _ _ _ _ _
    dsimp only[List.set]
    have s80:=em slot 80 (by decide)
    refine⟨_,U,_,_,U,U,_,U,_,_,U,U,(show(0:Int)<80 by decide),_,_,U,U,.inl ⟨by decide,by decide⟩,_,_,U,U,?_⟩
    dsimp only[List.set]
    refine⟨_,U,.inl ⟨U,_,SqL.of (h3.get 0 U)⟩,_,U,_,U,_,U,_,_,U,U,⟨by decide,by decide⟩,_,U,_,U,_,U,_,U,_,_,U,U,_,U,_,_,U,fun p hp=>?_⟩
    have h4:=h3.alloc hp (.rng ((i:Int)+1) S)
    refine⟨p,_,_,U,h4.get 0 U,by omega,by omega,by omega,by omega,fun lt hlt=>?_⟩
    have h5:=h4.alloc hlt (.lst (dE ((i:Int)+1) ((S:Int) - ((i:Int)+1)).toNat))
    refine⟨d,lt,ds,_,_,many,nm,nc,i,S,_,U,h5,sH _ (sH _ (sH _ (sJ _ (sH _ (sJ _ md))))),(by rw[show S - (i+1)=((S:Int) - ((i:Int)+1)).toNat by omega]; exact sM),(by omega),(by omega),hmany.1,fun H6 a y hy h6=>?_⟩
    refine⟨rl,_,_,U,U,h6.get 3 U,sizeOk (by unfold rwV; rw[sI]; omega),?_⟩
    have h7:=h6.puti 3 U (.lst (rwV rs++[.ref a]))
    have h8:=eJ h7 3 rfl
    refine⟨_,U,_,_,U,U,?_⟩
    dsimp only[List.set]
    refine⟨_,_,slot+1,rs++[(a,y)],(a,.tup y.v)::(lt,.lst (dE ((i:Int)+1) ((S:Int) - ((i:Int)+1)).toNat))::(p,.rng ((i:Int)+1) S)::N',U,by simp[hrl2],?_,?_,?_⟩
    ·intro x hx
     rcases sY.mp hx with hx | hx
     ·exact hok x hx
     ·cases sO.mp hx
      exact hy
    ·intro x hx
     rcases sY.mp hx with hx | hx
     ·exact sH _ (sH _ (sH _ (hin x hx)))
     ·cases sO.mp hx
      exact sM
    ·have e:rwV (rs++[(a,y)])=rwV rs++[.ref a]:=by unfold rwV; rw[sP]; rfl
     rw[e]
     exact h8
   ·clear h3
    rintro σ H3 hP
    rw[Int.toNat_natCast] at hP
    obtain⟨o12,o13,slot,rs,N',rfl,hrl2,hok,hin,h3⟩:=hP
    have fin:∀ {H4:Hp} (rs1:List (Addr×Rw)) (N1:Kn),rs1.length=many->(∀ x ∈ rs1,x.2.ok nm nc many i S)->(∀ x ∈ rs1,(x.1,HO.tup x.2.v) ∈ N1)->(∃ a y,rs1.getLast?=some (a,y)/\y.last=true)->Has H4 ((rl,.lst (rwV rs1))::(N1++((pl,.lst (ssV ss))::(N++L)))) ->
      ∃ (N2:Kn),(∀ z ∈ ss++[(rl,rs1)],(z.1,HO.lst (rwV z.2)) ∈ N2)/\(∀ z ∈ ss++[(rl,rs1)],∀ x ∈ z.2,(x.1,HO.tup x.2.v) ∈ N2)/\GoodU nm nc S (lo+sz0 - 1) (ss++[(rl,rs1)])/\H4 pl=some (.lst (ssV ss))/\Has (upd H4 pl (.lst (ssV ss++[.ref rl]))) ((pl,.lst (ssV (ss++[(rl,rs1)])))::(N2++L)):=by
     intro H4 rs1 N1 l1 ok1 in1 la1 h4
     have h5:=Has.comm (X:=(rl,HO.lst (rwV rs1))::N1) (Y:=[(pl,HO.lst (ssV ss))]) h4
     have h6:=h5.puti 0 U (.lst (ssV ss++[.ref rl]))
     refine⟨((rl,HO.lst (rwV rs1))::N1)++N,?_,?_,hg.snoc (by rw[hl,l1]; exact ok1) la1 (by rw[l1]; exact hmany.2.2) (fun x hx e=>by
      have:=(List.nodup_cons.mp h4.nd).1
      exact this (by
       rw[show rl=x.1 from e.symm]
       exact tq (f:=(·.1)) (sJ _ (sH _ (sV _ (hz x hx)))))),h5.get 0 U,?_⟩
     ·intro z hz1
      rcases sY.mp hz1 with hz1 | hz1
      ·exact sJ _ (hz z hz1)
      ·cases sO.mp hz1
       exact sV _ sM
     ·intro z hz1 x hx1
      rcases sY.mp hz1 with hz1 | hz1
      ·exact sJ _ (hx z hz1 x hx1)
      ·cases sO.mp hz1
       exact sV _ (sH _ (in1 x hx1))
     ·have e:ssV (ss++[(rl,rs1)])=ssV ss++[.ref rl]:=by unfold ssV; rw[sP]; rfl
      rw[e,tj]
      exact h6
    obtain⟨⟨la,ly⟩,hla⟩:∃ z,rs.getLast?=some z:=by
     cases e:rs.getLast? with
     | none=>rw[List.getLast?_eq_none_iff] at e; rw[e] at hrl2; simp at hrl2; omega
     | some z=>exact⟨z,U⟩
    obtain⟨rs',ers⟩:=List.getLast?_eq_some_iff.mp hla
    have eV:rwV rs=rwV rs'++[.ref la]:=by rw[ers]; unfold rwV; rw[sP]; rfl
    have mla:(la,ly) ∈ rs:=by rw[ers]; simp
    have g1:=h3.get 0 rfl
    rw[eV] at g1
    have g2:=h3.at_ (la,_) (sH _ (sV _ (hin _ mla)))
    dsimp only at g2
    have lss:(ssV ss).length<=1000:=by unfold ssV; rw[sI]; omega
    refine⟨_,U,1,U,rl,_,_,_,U,U,SqL.of g1,gw _ _,la,_,_,_,U,U,SqT.of g2,aH (j:=0) rfl,(sz_ 3),fun wt hwt=>?_⟩
    have h4:=h3.alloc hwt (.tup [.str "ask",.str "go",.str "end"])
    refine⟨wt,_,U,.inr (SqT.of (h4.get 0 U)),U,U,_,U,?_⟩
    cases hlast:ly.last with
    | true=>
     refine ifF (ly.lastIn hlast) ?_
     obtain⟨N2,f1,f2,f3,f4,f5⟩:=fin rs N' hrl2 hok hin ⟨la,ly,hla,hlast⟩ h4.tail
     exact⟨_,U,.inl ⟨U,_,SqL.of f4⟩,_,U,pl,_,_,U,U,f4,sizeOk (by omega),_,_,_,_,_,slot,ss++[(rl,rs)],N2,U,by simp[hl],f3,f1,f2,f5⟩
    | false=>
     refine ifT (ly.notLast hlast) ?_
     refine⟨(sz_ 1),fun e he=>?_⟩
     have h5:=h4.alloc he (.tup (Rw.fin).v)
     have lrs:(rwV rs).length=many:=by unfold rwV; rw[sI]; exact hrl2
     refine⟨_,U,1,U,rl,_,_,_,U,U,h5.get 2 U,nH (by omega),?_⟩
     have h6:=h5.puti 2 U (.lst ((rwV rs).set ((rwV rs).length - 1) (.ref e)))
     have eS:(rwV rs).set ((rwV rs).length - 1) (.ref e)=rwV (rs'++[(e,Rw.fin)]):=by
      rw[eV,mx]
      unfold rwV
      rw[sP]
      rfl
     rw[eS] at h6
     rw[eS]
     have h7:=eJ h6 2 rfl
     have l1:(rs'++[(e,Rw.fin)]).length=many:=by rw[<- hrl2,ers]; simp
     obtain⟨N2,f1,f2,f3,f4,f5⟩:=fin (rs'++[(e,Rw.fin)]) ((e,.tup (Rw.fin).v)::(wt,.tup [.str "ask",.str "go",.str "end"])::N') l1 (by
      intro x hx
      rcases sY.mp hx with hx | hx
      ·exact hok x (by rw[ers]; exact sV _ hx)
      ·cases sO.mp hx
       trivial) (by
      intro x hx
      rcases sY.mp hx with hx | hx
      ·exact sH _ (sH _ (hin x (by rw[ers]; exact sV _ hx)))
      ·cases sO.mp hx
       exact sM) ⟨e,.fin,by simp,U⟩ h7
     exact⟨_,U,.inl ⟨U,_,SqL.of f4⟩,_,U,pl,_,_,U,U,f4,sizeOk (by omega),_,_,_,_,_,slot,ss++[(rl,rs'++[(e,Rw.fin)])],N2,U,by simp[hl],f3,f1,f2,f5⟩
  ·rintro σ H2 hP
   rw[Int.toNat_natCast] at hP
   obtain⟨o9,o10,o11,o12,o13,slot,ss,N,rfl,hl,hg,hz,hx,h2⟩:=hP
   exact⟨_,U,q _ pl ss N (by intro e; rw[e] at hl; simp at hl; omega) (by omega) (fun k z hk=>by rw[hl]; exact⟨(hg.1 k z hk).1,(hg.1 k z hk).2.1⟩) ⟨⟨lo+sz0 - 1,by rw[hl]; exact hSM,fun z hz=>by obtain⟨k,hk⟩:=List.getElem?_of_mem hz; exact(hg.1 k z hk).2.2⟩,hg.2⟩ hz hx h2⟩
end
inductive sp_Jq (vs:List V) (H:Hp) (Q:VK) (E_:XK):Prop
 | mk (d:Addr) (ds:List Int) (L:Kn) (_:vs=[.ref d]) (_:Has H L) (_:(d,HO.lst (ds.map V.int)) ∈ L) (_:340<=ds.length) (_:∀ H' tp m w pl (ms ws:List Int) (ss:Ss) (N:Kn),(∀ x ∈ ms,x=1∨x=2)->(∀ x ∈ ws,1<=x/\x<=8)->ms.length<=30->ws.length<=30->ss≠[]->ss.length<=40->rR ms.length ws.length ss->sG ss->(∀ z ∈ ss,(z.1,HO.lst (rwV z.2)) ∈ N)->(∀ z ∈ ss,∀ x ∈ z.2,(x.1,HO.tup x.2.v) ∈ N)->Has H' ((tp,.tup [.ref m,.ref w,.ref pl])::(pl,.lst (ssV ss))::(N++((w,.lst (ws.map V.int))::(m,.lst (ms.map V.int))::L)))->Q (.ref tp) H'):sp_Jq vs H Q E_
theorem pV {c:Bool}{v:V}{i:Nat}{D:Ends}{σ:St}{H:Hp} (h:∀ τ,(τ=σ.set i (some v)∨τ=σ)->D.nx τ H):if c=true then ma (tC v) (jB i) D σ H else pG D σ H:=by
 cases c
 ·exact dM (h σ (.inr rfl))
 ·exact cY (h _ (.inl rfl))
section
variable {P:Program}{w:World}{K:PySem.W.Frag}{mg:Str->Option Value}{base:Heap}{t:Adr}
theorem scLg:FnScope ["_law_d","_law_many","_law_marks","_law_widths","_law_turn","_law_width"] ["_law_d"] (ac io):={}
theorem ok_Jq (T:Txt K mg t):FnOk P w K mg base CX0 3 t.f_Jq t.d_Jq ["_law_d"] sp_Jq:=by
 refine T.F_Jq.ok scLg (fun vs H Q E h=>?_) (fun cdv A outer s H vs Q E hr h=>?_)
 ·obtain⟨_,_,_,rfl,_⟩:=h
  rfl
 ·obtain⟨d,ds,L,rfl,hH,md,hds,q⟩:=h
  have gd:=hH.at_ _ md
  dsimp only at gd
  refine⟨_,(af (aC (i:=1) scLg.nd rfl (Or.inl rfl) (ak ay (aA au (pv 0) ae) ae))
   (af (aD (ap aZ (ak ay (ak bN (aA au (pv 0) ae) ae) ae) ae (ar _))
    (ag (aC (i:=1) scLg.nd rfl (Or.inl rfl) ae))
    ax)
   (af (oQ (ix:=2) scLg.nd rfl (Or.inl rfl) (esc:=ac io) (k:=1) ["_law_turn","_law_d","_law_many","_law_marks","_law_widths","_law_turn'","_law_width"] rfl (bD (by rfl) T.z_range (aa (pv 1) ad)) (fun _ _ _ _ _=>by exact(az (i:=0) (show List.Nodup (["_law_turn","_law_d","_law_many","_law_marks","_law_widths","_law_turn'","_law_width"]:List Str) from by decide +kernel) rfl (Or.inl rfl))) (fun _ _ _ _ _=>by exact bB) (fun _ _ _ _ _=>by exact(ak aL ae (ak ay (aA (nG (K:=K) rfl) (pv 1) (ak aL ae (pv 0))) ae))) rfl (by decide +kernel) (by decide +kernel) rfl (by decide +kernel) (by rfl) (fun i y h hf=>by
    by_cases c:i=4
    ·subst c; cases h; exact absurd hf (by decide +kernel)
    ·have h2:(List.set (["_law_d","_law_many","_law_marks","_law_widths","_law_turn","_law_width"]:List Str) 4 "_law_turn'")[i]?=some y:=h
     rw[List.getElem?_set_ne (fun z=>c z.symm)] at h2; exact h2) (by decide +kernel))
   (af (aC (i:=3) scLg.nd rfl (Or.inl rfl) (aV ad))
   (af (aC (i:=1) scLg.nd rfl (Or.inl rfl) (ak ay (aA au (pv 0) ae) ae))
   (af (aD (ap aZ (ak ay (ak bN (aA au (pv 0) ae) ae) ae) ae (ar _))
    (ag (aC (i:=1) scLg.nd rfl (Or.inl rfl) ae))
    ax)
   (af (bv PassesOwn.never rfl (bD (by rfl) T.z_range (aa (pv 1) ad)) (az (i:=4) scLg.nd rfl (Or.inl rfl))
    (af (aC (i:=5) scLg.nd rfl (Or.inl rfl) (ak aL ae (ak ay (aA au (pv 0) (ak aL ae (pv 4))) ae)))
     (af (aD (ap aZ (ak ay (ak bN (aA au (pv 0) (ak aL ae (pv 4))) ae) ae) ae (ar _))
      (ag (aC (i:=5) scLg.nd rfl (Or.inl rfl) (ak aL ae (ak ay (ak bN (aA au (pv 0) (ak aL ae (pv 4))) ae) ae))))
      ax)
     (ag (aG (bf PySem.F.plainAttrs_list PySem.F.slot_list_append PySem.F.type_list_append aR (pv 3) (aa (pv 5) ad)))))))
   (ag (aJ (aF (aa (pv 2) (aa (pv 3) (aa (pcl (m5 T) hr T.m_parts T.F_parts.kp (pw T) (aa (pv 0) (aa ae (aa (aq av (by rfl) T.z_len (by rfl) (aa (pv 2) ad)) (aa (aq av (by rfl) T.z_len (by rfl) (aa (pv 3) ad)) ad))))) ad))))))))))))),?_⟩
  rw[show L2.start ["_law_d","_law_many","_law_marks","_law_widths","_law_turn","_law_width"] [V.ref d]=([some (V.ref d),none,none,none,none,none]:St) from rfl]
  have a0:atI (ds.map V.int) 0=some (.int (ds.getD (0:Int).toNat 0)):=dgI 0 (by decide) (by omega)
  have a4:atI (ds.map V.int) 4=some (.int (ds.getD (4:Int).toNat 0)):=dgI 4 (by decide) (by omega)
  obtain⟨x0,ex0⟩:∃ x0,ds.getD (0:Int).toNat 0=x0:=⟨_,U⟩
  obtain⟨x4,ex4⟩:∃ x4,ds.getD (4:Int).toNat 0=x4:=⟨_,U⟩
  rw[ex0] at a0
  rw[ex4] at a4
  refine⟨_,U,d,_,_,_,U,U,SqL.of gd,a0,_,_,U,U,(show(0:Int)<4 by decide),?_⟩
  dsimp only[List.set]
  refine⟨_,U,d,_,_,_,U,U,SqL.of gd,a0,_,_,U,U,⟨by decide,by decide⟩,_,_,U,U,(show(0:Int)<11 by decide),U,_,U,?_⟩
  refine pV (fun τ hτ=>?_)
  obtain⟨n,hn,rfl⟩:∃ n:Nat,n<=30/\τ=[some (.ref d),some (.int n),none,none,none,none]:=by
   rcases hτ with rfl | rfl
   ·exact⟨30,Nat.le_refl _,U⟩
   ·exact⟨(x0 % 4).toNat,by omega,by rw[Int.toNat_of_nonneg (by omega)]; rfl⟩
  refine⟨_,U,_,U,by omega,by omega,fun D hD=>?_⟩
  refine⟨fun i m zs H'=>m=n - i/\i<=n/\∃ ms:List Int,zs=ms.map V.int/\ms.length=i/\(∀ x ∈ ms,x=1∨x=2)/\Has H' ((D,.lst zs)::L),⟨_,U,Nat.zero_le _,[],U,U,by simp,hH.alloc hD _⟩,?_⟩
  rintro i m zs H2 ⟨rfl,hi,ms,rfl,hml,hms,h2⟩
  refine⟨h2.get 0 U,?_⟩
  have g2:=h2.tail.at_ _ md
  dsimp only at g2
  by_cases hlt:i<n
  ·refine .inr ⟨(show i<(n:Int).toNat by omega),?_⟩
   rintro x H3 ⟨rfl,rfl⟩
   refine⟨U,bS ?_⟩
   refine⟨_,U,_,U,_,_,U,U,d,_,_,_,U,U,SqL.of g2,dgI (1+(0+(i:Int))) (by omega) (by omega),_,_,U,U,(show(0:Int)<2 by decide),_,_,U,U,?_⟩
   dsimp only
   obtain⟨v,ev⟩:∃ v,1+ds.getD (1+(0+(i:Int))).toNat 0 % 2=v:=⟨_,U⟩
   rw[ev]
   refine⟨sizeOk (by rw[sI]; omega),h2.get 0 U,n - (i+1),by omega,U,hlt,ms++[v],by rw[sP]; rfl,by simp[hml],?_,h2.puti 0 U _⟩
   intro x hx
   rcases sY.mp hx with hx | hx
   ·exact hms x hx
   ·cases sO.mp hx
    omega
  ·refine .inl ⟨(show(n:Int).toNat<=i by omega),?_⟩
   dsimp only[List.set]
   refine⟨(sz_ 0),fun wl hwl=>?_⟩
   have h3:=h2.alloc hwl (.lst [])
   have g3:=h3.tail.tail.at_ _ md
   dsimp only[List.set] at g3 ⊢
   refine⟨_,U,d,_,_,_,U,U,SqL.of g3,a4,_,_,U,U,(show(0:Int)<4 by decide),?_⟩
   dsimp only[List.set]
   refine⟨_,U,d,_,_,_,U,U,SqL.of g3,a4,_,_,U,U,⟨by decide,by decide⟩,_,_,U,U,(show(0:Int)<11 by decide),U,_,U,?_⟩
   refine pV (fun τ hτ=>?_)
   obtain⟨n2,hn2,rfl⟩:∃ n2:Nat,n2<=30/\τ=[some (.ref d),some (.int n2),some (.ref D),some (.ref wl),none,none]:=by
    rcases hτ with rfl | rfl
    ·exact⟨30,Nat.le_refl _,U⟩
    ·exact⟨(x4 % 4).toNat,by omega,by rw[Int.toNat_of_nonneg (by omega)]; rfl⟩
   refine⟨_,U,_,U,by omega,by omega,bK (fun j σ H'=>∃ (o4 o5:Option V) (ws:List Int),σ=[some (.ref d),some (.int n2),some (.ref D),some (.ref wl),o4,o5]/\ws.length=j/\(∀ x ∈ ws,1<=x/\x<=8)/\Has H' ((wl,.lst (ws.map V.int))::(D,.lst (ms.map V.int))::L)) ⟨_,_,[],U,U,by simp,h3⟩ ?_ ?_⟩
   ·clear h3
    rintro j σ H3 hj ⟨o4,o5,ws,rfl,hwl2,hws,h3⟩
    have hj:j<n2:=by omega
    have g3:=h3.tail.tail.at_ _ md
    dsimp only at g3
    rw[Int.zero_add]
    show le _ _ _ _ _
    dsimp only[List.set]
    have a5:atI (ds.map V.int) (5+(j:Int))=some (.int (ds.getD (5+(j:Int)).toNat 0)):=dgI _ (by omega) (by omega)
    obtain⟨x5,ex5⟩:∃ x5,ds.getD (5+(j:Int)).toNat 0=x5:=⟨_,U⟩
    rw[ex5] at a5
    have fin:∀ (v:Int) (o4 o5:Option V),1<=v->v<=8->∃ (o4' o5':Option V) (ws':List Int),[some (V.ref d),some (.int n2),some (.ref D),some (.ref wl),o4,o5]=[some (V.ref d),some (.int n2),some (.ref D),some (.ref wl),o4',o5']/\ws'.length=j+1/\(∀ x ∈ ws',1<=x/\x<=8)/\Has (upd H3 wl (.lst (ws.map V.int++[.int v]))) ((wl,.lst (ws'.map V.int))::(D,.lst (ms.map V.int))::L):=by
     intro v o4 o5 v1 v8
     refine⟨o4,o5,ws++[v],U,by simp[hwl2],?_,?_⟩
     ·intro x hx
      rcases sY.mp hx with hx | hx
      ·exact hws x hx
      ·cases sO.mp hx
       exact⟨v1,v8⟩
     ·rw[sP]
      exact h3.puti 0 U _
    refine⟨_,U,_,U,_,_,U,U,d,_,_,_,U,U,SqL.of g3,a5,_,_,U,U,(show(0:Int)<2 by decide),_,_,U,U,?_⟩
    dsimp only[List.set]
    refine⟨_,U,_,U,_,_,U,U,d,_,_,_,U,U,SqL.of g3,a5,_,_,U,U,⟨by decide,by decide⟩,_,_,U,U,(show(0:Int)<4 by decide),U,_,U,?_⟩
    refine if2 (fun _=>?_) (fun _=>?_)
    ·refine⟨_,U,_,U,_,_,U,U,d,_,_,_,U,U,SqL.of g3,a5,_,_,U,U,⟨by decide,by decide⟩,_,_,U,U,(show(0:Int)<8 by decide),_,_,U,U,?_⟩
     exact⟨_,U,.inl ⟨U,_,SqL.of (h3.get 0 U)⟩,_,U,wl,_,_,U,U,h3.get 0 U,sizeOk (by rw[sI]; omega),fin (1+x5 / 8 % 8) _ _ (by omega) (by omega)⟩
    ·exact⟨_,U,.inl ⟨U,_,SqL.of (h3.get 0 U)⟩,_,U,wl,_,_,U,U,h3.get 0 U,sizeOk (by rw[sI]; omega),fin (1+x5 % 2) _ _ (by omega) (by omega)⟩
   ·clear h3
    rintro σ H3 hP
    rw[Int.toNat_natCast] at hP
    obtain⟨o4,o5,ws,rfl,hwl2,hws,h3⟩:=hP
    refine⟨_,U,_,U,_,U,_,U,D,_,U,.inl (SqL.of (h3.get 1 U)),_,U,wl,_,U,.inl (SqL.of (h3.get 0 U)),d,ds,ms.length,ws.length,_,(by rw[sI,sI]; rfl),h3,sH _ (sH _ md),hds,fun H4 pl ss N k1 k2 k3 kL k4 k5 h4=>?_⟩
    refine⟨(sz_ 3),fun tp htp=>?_⟩
    exact q _ tp D wl pl ms ws ss N hms hws (by omega) (by omega) k1 k2 k3 kL k4 k5 (h4.alloc htp _)
end
theorem lN:∀ i,i<22->((fw i).filter (·.2)).map (·.1)=[fT i]
 | 0,_=>rfl
 | 1,_=>rfl
 | 2,_=>rfl
 | 3,_=>rfl
 | 4,_=>rfl
 | 5,_=>rfl
 | 6,_=>rfl
 | 7,_=>rfl
 | 8,_=>rfl
 | 9,_=>rfl
 | 10,_=>rfl
 | 11,_=>rfl
 | 12,_=>rfl
 | 13,_=>rfl
 | 14,_=>rfl
 | 15,_=>rfl
 | 16,_=>rfl
 | 17,_=>rfl
 | 18,_=>rfl
 | 19,_=>rfl
 | 20,_=>rfl
 | 21,_=>rfl
 | i+22,h=>absurd h (by omega)
noncomputable def c9 (ts:List (Addr×Str×Bool)):Kn:=ts.map fun z=>(z.1,HO.tup [.str z.2.1,.bl z.2.2])
noncomputable def bI (ts:List (Addr×Str×Bool)):List V:=ts.map fun z=>V.ref z.1
inductive sp_names (K:PySem.W.Frag) (t:Adr) (vs:List V) (H:Hp) (Q:VK) (E_:XK):Prop
 | mk (a C:Addr) (i:Nat) (L:Kn) (_:vs=[.ref a]) (_:Has H L) (_:(a,HO.ext (ExcAt a C)) ∈ L) (_:aQ K C t.c_RailError (dN t i)=true) (_:∀ H' p ts,ts.map (·.2)=fw i->Has H' ((p,.lst (bI ts))::((c9 ts).reverse++L))->Q (.ref p) H'):sp_names K t vs H Q E_
noncomputable def pK (K:PySem.W.Frag) (t:Adr):(Hp->VK->XK->Prop)->Hp->VK->Prop:=fun spD H Q=>∃ (X0 L:Kn) (R:V->Kn->Prop) (RX:Nat->Kn->Prop),Has H (X0++L) /\
 (∀ H1 L1 Q1 E1,Has H1 (X0++L1)->(∀ v N H2,R v N->Has H2 (N++L1)->Q1 v H2)->(∀ C a i N H2,RX i N->i<22->aQ K C t.c_RailError (dN t i)=true->Has H2 (N++L1)->E1 (.ref C) (some a) H2)->spD H1 Q1 E1) /\
 (∀ v N r H2,R v N->Has H2 ((r,.lst [])::(N++L))->Q (.ref r) H2) /\
 (∀ i N r H2,RX i N->i<22->Has H2 ((r,.lst [.str (fT i)])::(N++L))->Q (.ref r) H2)
noncomputable def tRows (K:PySem.W.Frag) (rows:List (Str×Addr×Bool)) (tl:TA):TA:=rows.foldr (fun r acc=>da (qh (da (tC (.str r.1)) (da (tCB (fun xs H Q=>∃ (a D:Addr) (c:V) (b:Bool),xs=[V.ref a,c]/\(∃ z,c=.ref z∨∃ n,c=.ty n)/\H a=some (.ext (ExcAt a D))/\ExcCls K D/\W.kitOne K (.ref D) (pq c)=some b/\Q (.bl b) H) (da (fF 0) (da (tC (.ref r.2.1)) jR))) jR))) acc) tl
variable{K:PySem.W.Frag}
theorem kN {σ:St}{a C:Addr}{tl:TA} (e:σ[0]?=some (some (.ref a))) (hc:ExcCls K C):∀ (rows:List (Str×Addr×Bool)) {H:Hp}{L:Kn}{Q:List V->Hp->Prop},(∀ r ∈ rows,W.kitOne K (.ref C) (.ref r.2.1)=some r.2.2)->Has H L->(a,HO.ext (ExcAt a C)) ∈ L ->
  (∀ H' (ts:List (Addr×Str×Bool)),ts.map (·.2)=rows.map (fun r=>(r.1,r.2.2))->Has H' ((c9 ts).reverse++L)->tl σ H' (fun xs H2=>Q (bI ts++xs) H2))->tRows K rows tl σ H Q
 | [],H,_,_,_,h,_,k=>k H [] rfl h
 | r::rows,H,L,Q,hk,h,m,k=>⟨_,e,a,C,_,_,U,⟨_,.inl rfl⟩,h.at_ _ m,hc,hk r sM,aN (show 2<=1000000 by decide),fun p hp=>
   kN e hc rows (fun r hr=>hk r (sH _ hr)) (h.alloc hp (.tup [.str r.1,.bl r.2.2])) (sH _ m) (fun H' ts et ht=>k H' ((p,r.1,r.2.2)::ts) (congrArg (_::·) et) (by
    show Has H' ((((p,HO.tup [.str r.1,.bl r.2.2]))::c9 ts).reverse++L)
    rw[List.reverse_cons,tj]
    exact ht))⟩
section
variable {P:Program}{w:World}{K:PySem.W.Frag}{mg:Str->Option Value}{base:Heap}{t:Adr}
theorem scNm:FnScope ["_law_e"] ["_law_e"] (ac cv):={}
theorem m7 (T:Txt K mg t):FnOkQ P w K mg base 1 t.f_names t.d_names ["_law_e"] (sp_names K t):=by
 refine T.F_names.okQ scNm (fun vs H Q E h=>?_) (fun cdv A outer s H vs Q E hr h=>?_)
 ·obtain⟨_,_,_,_,rfl,_⟩:=h
  rfl
 ·obtain⟨a,C,i,L,rfl,h0,m0,hx,q⟩:=h
  refine⟨_,(ag (aJ (aV (@aa _ _ _ _ _ (aF (aa ah (aa (aq aI (by rfl) T.z_isinstance (by rfl) (aa (pv 0) (aa (aM (v:=.ref t.c_NoKind) (by rfl) T.m_NoKind rfl) ad))) ad))) (@aa _ _ _ _ _ (aF (aa ah (aa (aq aI (by rfl) T.z_isinstance (by rfl) (aa (pv 0) (aa (aM (v:=.ref t.c_NoEnd) (by rfl) T.m_NoEnd rfl) ad))) ad))) (@aa _ _ _ _ _ (aF (aa ah (aa (aq aI (by rfl) T.z_isinstance (by rfl) (aa (pv 0) (aa (aM (v:=.ref t.c_NoSide) (by rfl) T.m_NoSide rfl) ad))) ad))) (@aa _ _ _ _ _ (aF (aa ah (aa (aq aI (by rfl) T.z_isinstance (by rfl) (aa (pv 0) (aa (aM (v:=.ref t.c_NoNote) (by rfl) T.m_NoNote rfl) ad))) ad))) (@aa _ _ _ _ _ (aF (aa ah (aa (aq aI (by rfl) T.z_isinstance (by rfl) (aa (pv 0) (aa (aM (v:=.ref t.c_NoPiece) (by rfl) T.m_NoPiece rfl) ad))) ad))) (@aa _ _ _ _ _ (aF (aa ah (aa (aq aI (by rfl) T.z_isinstance (by rfl) (aa (pv 0) (aa (aM (v:=.ref t.c_NoRod) (by rfl) T.m_NoRod rfl) ad))) ad))) (@aa _ _ _ _ _ (aF (aa ah (aa (aq aI (by rfl) T.z_isinstance (by rfl) (aa (pv 0) (aa (aM (v:=.ref t.c_NoPoint) (by rfl) T.m_NoPoint rfl) ad))) ad))) (@aa _ _ _ _ _ (aF (aa ah (aa (aq aI (by rfl) T.z_isinstance (by rfl) (aa (pv 0) (aa (aM (v:=.ref t.c_NoBell) (by rfl) T.m_NoBell rfl) ad))) ad))) (@aa _ _ _ _ _ (aF (aa ah (aa (aq aI (by rfl) T.z_isinstance (by rfl) (aa (pv 0) (aa (aM (v:=.ref t.c_SameEnd) (by rfl) T.m_SameEnd rfl) ad))) ad))) (@aa _ _ _ _ _ (aF (aa ah (aa (aq aI (by rfl) T.z_isinstance (by rfl) (aa (pv 0) (aa (aM (v:=.ref t.c_Linked) (by rfl) T.m_Linked rfl) ad))) ad))) (@aa _ _ _ _ _ (aF (aa ah (aa (aq aI (by rfl) T.z_isinstance (by rfl) (aa (pv 0) (aa (aM (v:=.ref t.c_NotLinked) (by rfl) T.m_NotLinked rfl) ad))) ad))) (@aa _ _ _ _ _ (aF (aa ah (aa (aq aI (by rfl) T.z_isinstance (by rfl) (aa (pv 0) (aa (aM (v:=.ref t.c_Occupied) (by rfl) T.m_Occupied rfl) ad))) ad))) (@aa _ _ _ _ _ (aF (aa ah (aa (aq aI (by rfl) T.z_isinstance (by rfl) (aa (pv 0) (aa (aM (v:=.ref t.c_NoStand) (by rfl) T.m_NoStand rfl) ad))) ad))) (@aa _ _ _ _ _ (aF (aa ah (aa (aq aI (by rfl) T.z_isinstance (by rfl) (aa (pv 0) (aa (aM (v:=.ref t.c_NoMany) (by rfl) T.m_NoMany rfl) ad))) ad))) (@aa _ _ _ _ _ (aF (aa ah (aa (aq aI (by rfl) T.z_isinstance (by rfl) (aa (pv 0) (aa (aM (v:=.ref t.c_NoStretch) (by rfl) T.m_NoStretch rfl) ad))) ad))) (@aa _ _ _ _ _ (aF (aa ah (aa (aq aI (by rfl) T.z_isinstance (by rfl) (aa (pv 0) (aa (aM (v:=.ref t.c_NoRow) (by rfl) T.m_NoRow rfl) ad))) ad))) (@aa _ _ _ _ _ (aF (aa ah (aa (aq aI (by rfl) T.z_isinstance (by rfl) (aa (pv 0) (aa (aM (v:=.ref t.c_NoMark) (by rfl) T.m_NoMark rfl) ad))) ad))) (@aa _ _ _ _ _ (aF (aa ah (aa (aq aI (by rfl) T.z_isinstance (by rfl) (aa (pv 0) (aa (aM (v:=.ref t.c_NoCounter) (by rfl) T.m_NoCounter rfl) ad))) ad))) (@aa _ _ _ _ _ (aF (aa ah (aa (aq aI (by rfl) T.z_isinstance (by rfl) (aa (pv 0) (aa (aM (v:=.ref t.c_NoWidth) (by rfl) T.m_NoWidth rfl) ad))) ad))) (@aa _ _ _ _ _ (aF (aa ah (aa (aq aI (by rfl) T.z_isinstance (by rfl) (aa (pv 0) (aa (aM (v:=.ref t.c_NoValue) (by rfl) T.m_NoValue rfl) ad))) ad))) (@aa _ _ _ _ _ (aF (aa ah (aa (aq aI (by rfl) T.z_isinstance (by rfl) (aa (pv 0) (aa (aM (v:=.ref t.c_FallsOut) (by rfl) T.m_FallsOut rfl) ad))) ad))) (@aa _ _ _ _ _ (aF (aa ah (aa (aq aI (by rfl) T.z_isinstance (by rfl) (aa (pv 0) (aa (aM (v:=.ref t.c_NoText) (by rfl) T.m_NoText rfl) ad))) ad))) (@aa _ _ _ _ _ (aF (aa ah (aa (mS (aq aI (by rfl) T.z_isinstance (by rfl) (aa (pv 0) (aa (fi (v:=.ty "ValueError") (by rfl) T.z_ValueError (by rfl) rfl) ad)))) ad))) ad (by rfl)) (by rfl)) (by rfl)) (by rfl)) (by rfl)) (by rfl)) (by rfl)) (by rfl)) (by rfl)) (by rfl)) (by rfl)) (by rfl)) (by rfl)) (by rfl)) (by rfl)) (by rfl)) (by rfl)) (by rfl)) (by rfl)) (by rfl)) (by rfl)) (by rfl)) (by rfl))))),?_⟩
  obtain⟨rows,er⟩:∃ rows:List (Str×Addr×Bool),rows=[⟨"NoKind",t.c_NoKind,i == 0⟩,⟨"NoEnd",t.c_NoEnd,i == 1⟩,⟨"NoSide",t.c_NoSide,i == 2⟩,⟨"NoNote",t.c_NoNote,i == 3⟩,⟨"NoPiece",t.c_NoPiece,i == 4⟩,⟨"NoRod",t.c_NoRod,i == 5⟩,⟨"NoPoint",t.c_NoPoint,i == 6⟩,⟨"NoBell",t.c_NoBell,i == 7⟩,⟨"SameEnd",t.c_SameEnd,i == 8⟩,⟨"Linked",t.c_Linked,i == 9⟩,⟨"NotLinked",t.c_NotLinked,i == 10⟩,⟨"Occupied",t.c_Occupied,i == 11⟩,⟨"NoStand",t.c_NoStand,i == 12⟩,⟨"NoMany",t.c_NoMany,i == 13⟩,⟨"NoStretch",t.c_NoStretch,i == 14⟩,⟨"NoRow",t.c_NoRow,i == 15⟩,⟨"NoMark",t.c_NoMark,i == 16⟩,⟨"NoCounter",t.c_NoCounter,i == 17⟩,⟨"NoWidth",t.c_NoWidth,i == 18⟩,⟨"NoValue",t.c_NoValue,i == 19⟩,⟨"FallsOut",t.c_FallsOut,i == 20⟩,⟨"NoText",t.c_NoText,i == 21⟩]:=⟨_,U⟩
  have hk:∀ r ∈ rows,W.kitOne K (.ref C) (.ref r.2.1)=some r.2.2:=fun r hr=>by
   obtain⟨j,hj⟩:=List.getElem?_of_mem hr
   refine kh hx j ?_
   have e1:rows.map (·.2)=dN t i:=by rw[er]; rfl
   rw[<- e1,sN,hj]
   rfl
  have fin:=kN (tl:=da (qh (da (tC (.str "plain")) (da (pF (tCB (fun xs H Q=>∃ (a D:Addr) (c:V) (b:Bool),xs=[V.ref a,c]/\(∃ z,c=.ref z∨∃ n,c=.ty n)/\H a=some (.ext (ExcAt a D))/\ExcCls K D/\W.kitOne K (.ref D) (pq c)=some b/\Q (.bl b) H) (da (fF 0) (da (tC (.ty "ValueError")) jR)))) jR))) jR) (K:=K) (σ:=[some (.ref a)]) (a:=a) rfl (gm hx) rows (Q:=fun xs H1=>xs.length<=sizeLine/\∀ p,H1 p=none->Q (.ref p) (upd H1 p (.lst xs))) hk h0 m0 (fun H' ts et ht=>by
   refine⟨_,U,a,C,_,_,U,⟨0,.inr ⟨_,U⟩⟩,ht.at_ _ (sJ _ m0),gm hx,lS hx,_,U,aN (show 2<=1000000 by decide),fun tp htp=>?_⟩
   have h2:=ht.alloc htp (.tup [.str "plain",.bl (!true)])
   have el:(bI ts++[V.ref tp]).length=23:=by
    have:=congrArg List.length et
    rw[er,sI] at this
    unfold bI
    rw[sW,sI,this]
    rfl
   refine⟨by rw[el]; exact aN (show 23<=1000000 by decide),fun p hp=>?_⟩
   have h3:=h2.alloc hp (.lst (bI ts++[V.ref tp]))
   refine q _ p (ts++[⟨tp,"plain",false⟩]) ?_ ?_
   ·rw[sP,et,er]
    rfl
   ·unfold bI c9
    rw[sP,sP,List.reverse_append]
    exact h3)
  subst er
  exact fin
theorem scRf:FnScope ["_law_deed","_law_pairs","_law_e"] ["_law_deed"] (ac fL):={}
theorem m9 (T:Txt K mg t):RefOk P w K mg base 10 8 t.f_Jr (pK K t):=by
 refine(T.e_Jr ▸ T.F_Jr).refOk (N:=["_law_deed","_law_pairs","_law_e"]) (y := "_law_deed") scRf (b_Jr T) (fun cdv A outer s H g spD Q hr D hrs=>?_)
 obtain⟨X0,L,R,RX,hH,hD,hR,hRX⟩:=hrs
 obtain⟨t3,h3,fin⟩:∃ t3:TS,PSs (cP CX0 P w K mg base ["_law_deed","_law_pairs","_law_e"] "_law_refused" (ac fL) t.f_Jr cdv A outer s H E0).nox ((ai fL).drop 2) t3 /\
   ∀ (o:Option V) (H1:Hp) (p:Addr) (ts:List (Addr×Str×Bool)) (L1:Kn) (D1:Ends),ts.length<=1000->Has H1 ((p,.lst (bI ts))::((c9 ts).reverse++L1)) ->
    (∀ H2 r,Has H2 ((r,.lst (((ts.map (·.2)).filter (·.2)).map fun z=>.str z.1))::L1)->D1.rt (.ref r) H2)->t3 D1 [some (.ref g),some (.ref p),o] H1:=by
  refine⟨_,(ag (aJ (dD (esc:=ac fL) (k:=2) ["_law_name","_law_so","_law_deed","_law_pairs","_law_e"] rfl (bh (pv 1)) (fun _ _ _ _ _=>by exact(fh (K:=K) (n:=2) rfl rfl (aU (az (i:=0) (show List.Nodup (["_law_name","_law_so","_law_deed","_law_pairs","_law_e"]:List Str) from by decide +kernel) rfl (Or.inl rfl)) (aU (az (i:=1) (show List.Nodup (["_law_name","_law_so","_law_deed","_law_pairs","_law_e"]:List Str) from by decide +kernel) rfl (Or.inl rfl)) cz)))) (fun _ _ _ _ _=>by exact(oO (eh (pv 1)))) (fun _ _ _ _ _=>by exact(pv 0)) rfl (by decide +kernel) (by decide +kernel) rfl (by decide +kernel) (by rfl) (fun _ _ h _=>h) (by decide +kernel)))),?_⟩
  intro o H1 p ts L1 D1 hts h1 hq
  have inT:∀ {H2:Hp}{c:Addr×HO}{j:Nat}{z:Addr×Str×Bool},Has H2 (c::(p,.lst (bI ts))::((c9 ts).reverse++L1))->ts[j]?=some z->H2 z.1=some (.tup [.str z.2.1,.bl z.2.2]):=fun {H2 c j z} h e=>by
   refine h.at_ (z.1,_) (sH _ (sH _ (sV _ (List.mem_reverse.mpr ?_))))
   exact sZ.mpr ⟨z,sL e,U⟩
  refine⟨_,U,p,U,⟨_,SqL.of (h1.get 0 U)⟩,fun Dl hDl=>?_⟩
  refine⟨fun n m zs H2=>m=ts.length - n/\n<=ts.length/\zs=(((ts.take n).map (·.2)).filter (·.2)).map (fun z=>V.str z.1)/\Has H2 ((Dl,.lst zs)::(p,.lst (bI ts))::((c9 ts).reverse++L1)),⟨_,U,Nat.zero_le _,U,h1.alloc hDl _⟩,?_⟩
  rintro n m zs H2 ⟨rfl,hn,ez,h2⟩
  refine⟨h2.get 0 U,?_⟩
  have g0:=h2.get 1 rfl
  by_cases hlt:n<ts.length
  ·have hx0:(bI ts)[n]?=some (.ref ts[n].1):=by unfold bI; rw[sN,sK hlt]; rfl
   have e0:ts[n]?=some ts[n]:=sK hlt
   refine .inr ⟨⟨_,_,SqL.of g0,hx0⟩,?_⟩
   rintro x H3 ⟨rfl,hx⟩
   have e1:=hx _ (SqL.of g0)
   rw[hx0] at e1
   cases e1
   have lz:zs.length<=1000:=by
    rw[ez,sI]
    refine Nat.le_trans (List.length_filter_le _ _) ?_
    rw[sI,tx]
    omega
   have tk:ts.take (n+1)=ts.take n++[ts[n]]:=by rw[List.take_succ,e0]; rfl
   refine⟨ts[n].1,_,U,SqT.of (inT h2 e0),U,_,_,U,_,_,U,U,?_⟩
   refine⟨U,_,U,_,U,?_⟩
   cases hb:ts[n].2.2 with
   | true=>
    refine cY ⟨_,U,sizeOk (by omega),h2.get 0 U,ts.length - (n+1),by omega,U,hlt,?_,h2.puti 0 U _⟩
    rw[tk,sP,List.filter_append,sP,<- ez]
    show zs++[V.str ts[n].2.1]=zs++((List.filter (·.2) [ts[n].2]).map fun z=>V.str z.1)
    rw[List.filter_cons_of_pos hb]
    rfl
   | false=>
    refine dM ⟨ts.length - (n+1),by omega,U,hlt,?_,h2⟩
    rw[tk,sP,List.filter_append,sP,<- ez]
    show zs=zs++((List.filter (·.2) [ts[n].2]).map fun z=>V.str z.1)
    rw[List.filter_cons_of_neg (by rw[hb]; exact Bool.false_ne_true)]
    simp
  ·have en:n=ts.length:=by omega
   refine .inl ⟨⟨_,SqL.of g0,by unfold bI; rw[sI]; omega⟩,?_⟩
   rw[en,List.take_length] at ez
   subst ez
   exact hq _ Dl (h2.sub (.cons_cons _ (.cons _ (List.sublist_append_right _ _))))
 refine⟨_,(af (aC (i:=1) scRf.nd rfl (Or.inl rfl) (aV ad)) (af (qB (i:=0) (j:=2) D (hr.mono (by decide)) rfl rfl rfl (pv 0) (by rfl) T.m_RailError scRf.nd rfl rfl (fun e=>ag (aC (i:=1) scRf.nd rfl (Or.inl rfl) (mU (m7 T) ((hr.mono (by decide)).qm _) (by rfl) T.m_names T.F_names.kp (px T) (aa (pv 2) ad))))) h3)),?_⟩
 refine⟨aN (show 0<=1000000 by decide),fun p0 hp0=>?_⟩
 have h1:=hH.alloc hp0 (.lst [])
 refine⟨U,fun Cv ao H2=>∃ C a i N,Cv=.ref C/\ao=some a/\RX i N/\i<22/\aQ K C t.c_RailError (dN t i)=true/\Has H2 (N++((p0,.lst [])::L)),hD _ ((p0,.lst [])::L) _ _ h1.inn (fun v N H2 hRv h2=>?_) (fun C a i N H2 r1 r2 r3 h2=>⟨C,a,i,N,U,U,r1,r2,r3,h2⟩),?_⟩
 ·exact fin _ _ p0 [] (N++L) _ (Nat.zero_le _) h2.out fun H3 r h3'=>hR v N r H3 hRv h3'
 ·rintro C a H2 ⟨C',a',i,N,rfl,ea,r1,r2,r3,h2⟩ hn
  cases ea
  refine⟨C',U,ki r3,?_⟩
  have h4:=h2.alloc hn (.ext (ExcAt a C'))
  refine⟨_,U,a,C',i,_,U,h4,sM,r3,fun H3 p ts ets h5=>?_⟩
  have h6:Has H3 ((p,.lst (bI ts))::((c9 ts).reverse++(N++L))):=by
   refine h5.sub (List.Sublist.cons_cons _ ?_)
   refine List.Sublist.append_left ?_ _
   exact List.Sublist.cons _ (List.Sublist.append_left (List.Sublist.cons _ (List.Sublist.refl _)) _)
  refine fin _ _ p ts (N++L) _ (by have:=congrArg List.length ets; simp[fw] at this; omega) h6 fun H4 r h7=>?_
  rw[ets] at h7
  have e:=lN i r2
  refine hRX i N r H4 r1 r2 ?_
  have e2:(((fw i).filter (·.2)).map fun z=>V.str z.1)=[V.str (fT i)]:=by
   have:=congrArg (List.map V.str) e
   rw[tF] at this
   exact this
  rw[<- e2]
  exact h7
end
theorem pp (d:PyData) (h:d.canLay0=true):PyData.eqv d d=true:=PySem.SeqAt.eqv_refl d h
noncomputable def bw (ns:List Str):PyData:=.list (ns.map PyData.str)
theorem bO {H:Hp}{l:Addr}{ns:List Str} (h:H l=some (.lst (ns.map V.str))):DV K H (bw ns) (.ref l):=by
 unfold bw DV
 exact⟨l,_,U,SqL.of h,DVs.map _ _ _ fun x _=>by unfold DV; rfl⟩
noncomputable def cZ:Option Nat->List Str
 | none=>[]
 | some i=>[fT i]
theorem lB:∀ i,i<22->PyData.strOk (fT i)=true
 | 0,_=>by decide +kernel
 | 1,_=>by decide +kernel
 | 2,_=>by decide +kernel
 | 3,_=>by decide +kernel
 | 4,_=>by decide +kernel
 | 5,_=>by decide +kernel
 | 6,_=>by decide +kernel
 | 7,_=>by decide +kernel
 | 8,_=>by decide +kernel
 | 9,_=>by decide +kernel
 | 10,_=>by decide +kernel
 | 11,_=>by decide +kernel
 | 12,_=>by decide +kernel
 | 13,_=>by decide +kernel
 | 14,_=>by decide +kernel
 | 15,_=>by decide +kernel
 | 16,_=>by decide +kernel
 | 17,_=>by decide +kernel
 | 18,_=>by decide +kernel
 | 19,_=>by decide +kernel
 | 20,_=>by decide +kernel
 | 21,_=>by decide +kernel
 | i+22,h=>absurd h (by omega)
theorem iJ (o:Option Nat) (h:∀ i,o=some i->i<22):(bw (cZ o)).canLay0=true:=by
 cases o with
 | none=>rfl
 | some i=>simp[bw,cZ,PyData.canLay0,PyData.canLayAll0,lB i (h i rfl)]
theorem gZ (o:Option Nat) (h:∀ i,o=some i->i<22):SeqAt.shaped (bw (cZ o))=true:=by
 refine ee (iJ o h) ?_
 cases o <;> simp[bw,cZ,PyData.depth,PyData.depthAll]
noncomputable def Rw.d (x:Rw):PyData:=.tuple (.str x.ws::x.ns.map PyData.int)
noncomputable def rwD (rs:List (Addr×Rw)):PyData:=.list (rs.map fun x=>x.2.d)
theorem Rw.lay (x:Rw):x.d.canLay0=true:=by
 cases x <;> simp[Rw.d,PyData.canLay0,PyData.canLayAll0,Rw.ns,Rw.ws] <;> decide +kernel
theorem Rw.dep (x:Rw):x.d.depth<=1:=by
 cases x <;> simp[Rw.d,PyData.depth,PyData.depthAll,Rw.ns]
theorem kF (rs:List (Addr×Rw)):(rwD rs).canLay0=true:=by
 unfold rwD; rw[PyData.canLay0]; exact dF _ _ fun x _=>x.2.lay
theorem oJ (rs:List (Addr×Rw)):(rwD rs).depth<=2:=by
 unfold rwD; rw[PyData.depth]; exact Nat.add_le_add_right (d6 _ 1 _ fun x _=>x.2.dep) 1
theorem mB (rs:List (Addr×Rw)):SeqAt.shaped (rwD rs)=true:=ee (kF rs) (Nat.le_trans (oJ rs) (by decide))
theorem rS (K:PySem.W.Frag) (H:Hp) (ns:List Int):DVs K H (ns.map PyData.int) (ns.map V.int):=DVs.map _ _ _ fun x _=>by unfold DV; rfl
theorem Rw.dv {H:Hp}{a:Addr}{x:Rw} (h:H a=some (.tup x.v)):DV K H x.d (.ref a):=by
 unfold Rw.d DV
 refine⟨a,_,U,SqT.of h,?_⟩
 unfold DVs Rw.v
 exact⟨_,_,U,by unfold DV; rfl,rS _ _ _⟩
theorem mC {H:Hp}{l:Addr} (h:H l=some (.lst (rwV rs))) (hr:∀ x ∈ rs,H x.1=some (.tup x.2.v)):DV K H (rwD rs) (.ref l):=by
 unfold rwD DV
 refine⟨l,_,U,SqL.of h,?_⟩
 unfold rwV
 exact DVs.map _ _ _ fun x hx=>Rw.dv (hr x hx)
theorem qu {rs rs':List (Addr×Rw)} (e:rs'.map (·.2)=rs.map (·.2)):rwD rs'=rwD rs:=by
 unfold rwD
 rw[show(rs'.map fun x=>x.2.d)=(rs'.map (·.2)).map Rw.d by rw[tF]; rfl,e,tF]
 rfl
section
variable {P:Program}{w:World}{K:PySem.W.Frag}{mg:Str->Option Value}{base:Heap}{t:Adr}
theorem scCq2:FnScope ["stretch","many"] ["stretch","many"] (ac iu):={}
theorem ok_J9 (T:Txt K mg t):FnOk P w K mg base CX0 1 t.f_J9 t.d_J9 ["stretch","many"] sp_Jm:=by
 refine T.F_J9.ok scCq2 (fun vs H Q E h=>?_) (fun cdv A outer s H vs Q E hr h=>?_)
 ·obtain⟨_,_,rfl,_⟩:=h
  rfl
 ·obtain⟨n,m,rfl,n0,n1,q⟩:=h
  refine⟨_,(ag (aD (PW.pt (dB (ap cK (pv 0) ae (ar _)) (cG (ap jq (pv 0) (pv 1) (ar _)))))
    (ag mJ)
    ax)),?_⟩
  refine⟨_,U,_,_,U,U,_,U,ifF (decide_eq_false (by omega)) ?_⟩
  exact⟨_,U,_,U,_,_,U,U,_,U,ifF (decide_eq_false (by omega)) q⟩
end
theorem jp (A:PA):(pfl A).lookup ("rows" : Str)=none:=by kernel_rfl
inductive sp_prows (C:Addr) (vs:List V) (H:Hp) (Q:VK) (E_:XK):Prop
 | mk (A:PA) (ms ws:List Int) (ss:Ss) (L:Kn) (k:Nat) (z:Addr×List (Addr×Rw)) (_:vs=[.ref A.p,.int k]) (_:Has H L) (_:PIn C A ms ws ss L) (_:ss[k]?=some z) (_:∀ H' l,Has H' ((l,.lst (rwV z.2))::L)->Q (.ref l) H'):sp_prows C vs H Q E_
section
variable {P:Program}{w:World}{K:PySem.W.Frag}{mg:Str->Option Value}{base:Heap}{t:Adr}
theorem scPs:FnScope ["self","stretch"] ["self","stretch"] (ac i9):={}
theorem pO (T:Txt K mg t):FnOk P w K mg base CX0 2 t.f_Jf t.d_Jf ["self","stretch"] (sp_prows t.c_Program):=by
 refine T.F_Jf.ok scPs (fun vs H Q E h=>?_) (fun cdv A outer s H vs Q E hr h=>?_)
 ·obtain⟨_,_,_,_,_,_,_,rfl,_⟩:=h
  rfl
 ·obtain⟨A,ms,ws,ss,L,k,z,rfl,hH,pin,hz,q⟩:=h
  have hL:∀ {z:Addr×HO},z ∈ L->H z.1=some z.2:=fun m=>hH.at_ _ m
  have hk:k<ss.length:=(List.getElem?_eq_some_iff.mp hz).1
  refine⟨_,(af (aG (pcl (ok_J9 T) hr T.m_J9 T.F_J9.kp (sv T) (aa (pv 1) (aa (bz (pv 0) T.cl_Program T.M_Je (jr T) hr (n8 T) .nil c7) ad))))
   (ag (aJ (aO bp (by rfl) T.z_list (by rfl) (aa (aA au (cf (pv 0) rfl) (pv 1)) ad))))),?_⟩
  refine⟨_,U,_,U,A.p,A.dx,_,U,hL pin.p,(c6 _).1,A,_,U,hL pin.p,hL pin.s,k,_,U,by omega,(by unfold ssV; rw[sI]; omega),?_⟩
  exact⟨_,U,A.p,_,A.dx,_,_,U,hL pin.p,T.cl_Program,T.n_Program_stretches,gP _,_,U,A.s,_,_,_,U,U,SqL.of (hL pin.s),aH (cT hz),z.1,_,U,.inl (SqL.of (hL (pin.l z (sL hz)))),fun l hl=>q _ l (hH.alloc hl _)⟩
end
section
variable {P:Program}{w:World}{K:PySem.W.Frag}{mg:Str->Option Value}{base:Heap}{t:Adr}
theorem scPk:FnScope ["self"] ["self"] (ac jb):={}
theorem pQ (T:Txt K mg t):FnOk P w K mg base CX0 1 t.f_Ja t.d_Ja ["self"] (sp_pmarks t.c_Program):=by
 refine T.F_Ja.ok scPk (fun vs H Q E h=>?_) (fun cdv A outer s H vs Q E hr h=>?_)
 ·obtain⟨_,_,_,rfl,_⟩:=h
  rfl
 ·obtain⟨A,ms,L,rfl,hH,m1,m2,q⟩:=h
  refine⟨_,(ag (aJ (aO bp (by rfl) T.z_list (by rfl) (aa (cf (pv 0) rfl) ad)))),?_⟩
  exact⟨_,U,A.p,_,A.dx,_,_,U,hH.at_ _ m1,T.cl_Program,T.n_Program_mark_sides,mQ _,A.m,_,U,.inl (SqL.of (hH.at_ _ m2)),fun l hl=>q _ l (hH.alloc hl _)⟩
theorem scPw:FnScope ["self"] ["self"] (ac je):={}
theorem pR (T:Txt K mg t):FnOk P w K mg base CX0 1 t.f_J6 t.d_J6 ["self"] (sp_pwidths t.c_Program):=by
 refine T.F_J6.ok scPw (fun vs H Q E h=>?_) (fun cdv A outer s H vs Q E hr h=>?_)
 ·obtain⟨_,_,_,rfl,_⟩:=h
  rfl
 ·obtain⟨A,ms,L,rfl,hH,m1,m2,q⟩:=h
  refine⟨_,(ag (aJ (aO bp (by rfl) T.z_list (by rfl) (aa (cf (pv 0) rfl) ad)))),?_⟩
  exact⟨_,U,A.p,_,A.dx,_,_,U,hH.at_ _ m1,T.cl_Program,T.n_Program_counter_widths,mP _,A.w,_,U,.inl (SqL.of (hH.at_ _ m2)),fun l hl=>q _ l (hH.alloc hl _)⟩
end
end P
namespace L2
open PySem PySem.Spec PyProof.Rows
noncomputable def Aloft (B:Heap) (l:List Env) (e:Addr) (cls a0:Value) (h:Heap):Prop:=B.StaysIn h/\B.get? e=none/\h.FunFrames B l/\∃ fl,h.TracedAtW B e cls a0 fl
theorem Aloft.held {B h:Heap}{l:List Env}{e L:Addr}{cls a0:Value} (f:B.HeldW l e cls a0 L h):Aloft B l e cls a0 h:=⟨f.1,f.2.1,f.2.2.1,_,f.2.2.2⟩
theorem k7 {B h:Heap}{l:List Env}{e:Addr}{cls a0 fl:Value} (x:Value) (hk:B.StaysIn h) (hl:h.FunFrames B l) (ht:h.TracedAtW B e cls a0 fl) {T:Addr}{oT:Obj}{ts:Array Value}{oe:Obj}{vs:Array Value} (he:h.get? e=some oe) (hd:oe.data=.fields vs) (h1:vs[1]?=some (.ref T)) (hT:h.get? T=some oT) (hdT:oT.data=.fields ts) :
  B.StaysIn (h.update T (Obj.mapFields fun y=>y.setIfInBounds 3 x))/\(h.update T (Obj.mapFields fun y=>y.setIfInBounds 3 x)).FunFrames B l/\(h.update T (Obj.mapFields fun y=>y.setIfInBounds 3 x)).TracedAtW B e cls a0 x /\
   (∀ b o,h.get? b=some o->(∀ vs,o.data≠.fields vs)->(h.update T (Obj.mapFields fun y=>y.setIfInBounds 3 x)).get? b=some o):=by
 obtain⟨oe',vs',T',oT',ts',g1,g2,g3,g4,g5,g6,g7,g8,g9⟩:=ht
 rw[he] at g1; cases g1
 rw[hd] at g3; cases g3
 rw[h1] at g4; cases g4
 rw[hT] at g7; cases g7
 rw[hdT] at g8; cases g8
 have other:∀ b,b≠T->(h.update T (Obj.mapFields fun y=>y.setIfInBounds 3 x)).get? b=h.get? b:=fun b hb=>Heap.get?_update_ne _ _ _ _ hb
 have noR:∀ b o,h.get? b=some o->(∀ vs,o.data≠.fields vs)->b≠T:=fun b o hb hn q=>by
  subst q
  rw[hT] at hb; cases hb
  exact hn _ hdT
 have h3:3<ts.size:=(Array.getElem?_eq_some_iff.mp g9).1
 refine⟨fun b o hb=>?_,Heap.FunFrames.of_keeps (fun b o hb hn=>⟨o,(other b (noR b o hb hn)).trans hb,U⟩) hl,⟨oe,vs,T,_,_,(other e (Ne.symm g6)).trans he,g2,hd,h1,g5,g6,Heap.get?_update_self _ hT (Obj.isFreed_of_fields (Obj.data_mapFields hdT _)),Obj.data_mapFields hdT _,?_⟩,fun b o hb hn=>(other b (noR b o hb hn)).trans hb⟩
 ·refine(other b fun q=>?_).trans (hk b o hb)
  subst q
  rw[g5] at hb; cases hb
 ·simp[Array.getElem?_setIfInBounds,h3]
theorem lW {M:Model}{A:Around}{E:Value->Shared->Prop}{s:Shared}{B:Heap}{l:List Env}{e:Addr}{cls a0:Value}{Q:Unit->Shared->Prop} (f:Option Addr) (R:Aloft B l e cls a0 s.heap)
  (q:∀ h',Aloft B l e cls a0 h'->(∀ b o,s.heap.get? b=some o->(∀ vs,o.data≠.fields vs)->h'.get? b=some o)->Q () { s with heap:=h' }):wpAny M A (setFlight (.ref e) f) Q E s:=by
 obtain⟨hk,hn,hl,fl,ht⟩:=R
 obtain⟨oe,vs,T,oT,ts,g1,g2,g3,g4,g5,g6,g7,g8,g9⟩:=id ht
 obtain⟨k1,k2,k3,k4⟩:=k7 (f.elim .none fun f=>rawInt ↑f) hk hl ht g1 g3 g4 g7 g8
 unfold setFlight
 refine wpAny_bind (wpAny_field g1 g3 g4 ?_)
 rw[if_pos (by simp)]
 exact wpAny_setField g7 g8 (Array.getElem?_eq_some_iff.mp g9).1 (q _ ⟨k1,hn,k2,_,k3⟩ k4)
variable{s:Shared}
theorem og {M:Model}{A:Around}{E:Value->Shared->Prop}{B:Heap}{env:Env}{outer:List Env}{L e:Addr}{cls a0:Value}{Q:Unit->Shared->Prop} (hA:A.frames=some (env::outer)) (hf:env.frame=some L) (R:Aloft B (env::outer) e cls a0 s.heap)
  (q:∀ h',B.FlyingW outer e cls a0 h'->s.heap.UpToSlots h'->Q () { s with heap:=h' }):wpAny M A (leaving env (.ref e)) Q E s:=by
 obtain⟨hk,hn,hl,fl,ht⟩:=R
 obtain⟨oe,vs,T,oT,ts,g1,g2,g3,g4,g5,g6,g7,g8,g9⟩:=id ht
 unfold leaving noteFrame
 rw[hf]
 refine wpAny_bind ?_
 refine wpAny_bind (wpAny_field g1 g3 g4 ?_)
 dsimp only
 rw[if_pos (by simp)]
 refine wpAny_bind (wpAny_field g7 g8 g9 ?_)
 by_cases c:(fl == rawInt ↑L)=true
 ·rw[if_pos c]
  refine wpAny_pure ?_
  have:fl=rawInt ↑L:=by simpa using c
  subst this
  exact wpAny_landsW ⟨hk,hn,hl,ht⟩ fun h' k ups=>q h' ⟨k.1,k.2.1,k.2.2.1.2.2,k.2.2.2⟩ ups
 ·rw[if_neg c]
  obtain⟨k1,k2,k3,k4⟩:=k7 .none hk hl ht g1 g3 g4 g7 g8
  refine wpAny_bind (wpAny_setField g7 g8 (Array.getElem?_eq_some_iff.mp g9).1 ?_)
  obtain⟨oe',vs',T',oT',ts',f1,f2,f3,f4,f5,f6,f7,f8,f9⟩:=id k3
  have e1:1<vs'.size:=(Array.getElem?_eq_some_iff.mp f4).1
  have hcls:oe'.cls=cls:=f2.1
  refine wpAny_newEntryW (s:={ s with heap:=_ }) hA k2 hf f1 k1 hn f3 e1 f2.2 fun h' lf=>?_
  obtain⟨l1,l2,l3,l4⟩:=lf
  rw[hcls] at l3
  exact q h' ⟨l1,hn,l2.2.2,l3⟩ fun b o hb hnf=>l4 b o (k4 b o hb hnf) hnf
structure RazF (X:Cx) (E:XK) (Cd:Addr) (s:Shared) (a:Addr) (C a0:Value) (H':Hp) (B:Heap):Prop where
 al:Aloft B X.stack a C a0 s.heap
 os:s.os=X.s₀.os
 bare:AllBare s.gens
 sl:∀ b o,X.s₀.heap.get? b=some o->X.H₀ b=none->b ∈ frs X.outer->∃ sl,s.heap.get? b=some { o with slots:=sl }
 fr:∀ b o,X.s₀.heap.get? b=some o->X.H₀ b=none->H' b=none
 tu:∀ b xs,X.H₀ b=some (.tup xs)->H' b=some (.tup xs)
 fz:∀ b o u,X.H₀ b=some (.frz o u)->H' b=some (.frz o u)
 tb:∀ b ps,X.H₀ b=some (.tbl ps)->∃ more,H' b=some (.tbl (ps++more))
 k1:∀ b o,X.s₀.heap.get? b=some o->X.H₀ b=none->b ∉ frs X.outer->B.get? b=some o
 k2:∀ b o,X.s₀.heap.get? b=some o->b ∉ frs X.outer->∃ o',B.get? b=some o'
 hok:HOk X.prog X.w H' B
 hE:E C (some a) H'
 bC:B.get? Cd=none
 nC:Cd ∉ frs X.stack
noncomputable def Raz (X:Cx) (E:XK) (Cd:Addr) (e:Value) (s:Shared):Prop:=∃ (a:Addr) (C a0:Value) (H':Hp) (B:Heap),e=.ref a/\RazF X E Cd s a C a0 H' B/\∃ m,s.heap.Ns Cd m
theorem gf {h B B':Heap} (hB:∀ b,B.get? b=none->B'.get? b=none):∀ {l:List Env},h.FunFrames B l->h.FunFrames B' l
 | [],_=>trivial
 | env::r,⟨hk,⟨L,o,hf,hn,ho,hd⟩,hr⟩=>⟨hk,⟨L,o,hf,hB L hn,ho,hd⟩,gf hB hr⟩
theorem Aloft.sub {B B' h:Heap}{l:List Env}{e:Addr}{cls a0:Value} (R:Aloft B l e cls a0 h) (hB:∀ b,B.get? b=none->B'.get? b=none) (hS:∀ b o,B'.get? b=some o->B.get? b=some o):Aloft B' l e cls a0 h:=by
 obtain⟨hk,hn,hl,fl,oe,vs,T,oT,ts,g1,g2,g3,g4,g5,g6⟩:=R
 exact⟨fun b o hb=>hk b o (hS b o hb),hB _ hn,gf hB hl,fl,oe,vs,T,oT,ts,g1,g2,g3,g4,hB _ g5,g6⟩
theorem ns_up {h h':Heap}{C:Addr} (n:∃ m,h.Ns C m) (u:∀ o,h.get? C=some o->(∀ vs,o.data≠.fields vs)->∃ sl,h'.get? C=some { o with slots:=sl }):∃ m,h'.Ns C m:=by
 obtain⟨m,o,es,ep,g,d,k,f⟩:=n
 obtain⟨sl,g'⟩:=u o g fun vs z=>by rw[d] at z; cases z
 exact⟨m,_,es,ep,g',d,k,f⟩
theorem Raz.noted {X:Cx}{E:XK} (hstk:X.stack=X.env::X.outer) (hfr:X.env.frame=some X.env.locals) (hex:X.ex=[]) {pins:List (Addr×Obj)}{σ:St}{H:Hp}{e:Value}{s':Shared} (I:Inv X pins σ H s) {Cd:Addr} (hC:H Cd=none) (nsC:∃ m,s.heap.Ns Cd m) (nC:Cd ∉ frs X.stack) (cs:X.s₀.heap.objs.size<=Cd)
  (h:CXr X.prog X.w X.stack H s E e s') {cenv:Env} (hcf:cenv.frame=X.env.frame) {E1:Value->Shared->Prop}:wpAny (model X.prog X.w) X.A (noteFrame e cenv) (fun _ s''=>Raz X E Cd e s'') E1 s':=by
 obtain⟨a,C,a0,H',B,rfl,fl,os,bare,un,kb,tb,hok,hE⟩:=h
 have nox:∀ b:Addr,b ∉ ([]:List Addr):=fun b z=>nomatch z
 have nxx:∀ b:Addr,b ∉ X.ex:=fun b=>by rw[hex]; exact nox b
 have hAf:X.A.frames=some (X.env::X.outer):=by rw[<- hstk]; exact I.ok.frames
 have sfr:frs X.stack=X.env.locals::frs X.outer:=by rw[hstk]; unfold frs; rw[List.filterMap_cons,hfr]
 have nfr:∀ b o,X.s₀.heap.get? b=some o->b ∉ frs X.outer->b ∉ frs X.stack:=fun b o eb hb z=>by
  rw[sfr] at z
  rcases sR.mp z with z | z
  ·exact absurd (Nat.lt_of_lt_of_le (Heap.lt_size eb) I.ok.above) (by rw[z]; exact Nat.lt_irrefl _)
  ·exact hb z
 have neC:∀ b o,X.s₀.heap.get? b=some o->b ∉ [Cd]:=fun b o eb z=>by
  have e1:=sO.mp z
  have e2:=Heap.lt_size eb
  rw[e1] at e2
  exact absurd e2 (Nat.not_lt.mpr cs)
 have en:noteFrame (.ref a) cenv=noteFrame (.ref a) X.env:=by unfold noteFrame PySem.frameOf; rw[hcf]
 rw[en]
 have fl2:=fl
 rw[hstk] at fl2
 refine wpAny_looks_onW hAf hfr fl2 fun h' hd ups=>?_
 rw[<- hstk] at hd
 obtain⟨m0,oC,es,ep,gC,dC,kC,fC⟩:=id nsC
 have nfC:∀ vs,oC.data≠.fields vs:=fun vs z=>by rw[dC] at z; cases z
 have HC:H' Cd=none:=un.free Cd oC gC hC (nox Cd)
 have gC':s'.heap.get? Cd=some oC:=un.keep Cd oC gC hC nC (nox Cd)
 have hB:∀ b,B.get? b=none->(W.hideAll B [Cd]).get? b=none:=fun b hb=>by
  cases c:(W.hideAll B [Cd]).get? b with
  | none=>rfl
  | some o=>rw[W.of_hideAll [Cd] c] at hb; cases hb
 have fm:∀ {b:Addr},b ∈ frs X.stack->∃ o,s'.heap.get? b=some o/\∀ vs,o.data≠.fields vs:=fun hb=>(fl.2.2.1.mem hb).2
 refine⟨a,C,a0,H',W.hideAll B [Cd],U,?_,ns_up ⟨m0,oC,es,ep,gC',dC,kC,fC⟩ fun o g n=>ups Cd o g n⟩
 refine { al:=(Aloft.held hd).sub hB (fun b o q=>W.of_hideAll _ q),os:=os.trans I.os,bare:=bare,sl:=fun b o q n hb=>?_,fr:=fun b o q n=>?_,tu:=fun b xs q=>un.tups b xs (I.base.tups b xs q),fz:=fun b o u q=>un.frzs b o u (I.base.frzs b o u q),tb:=fun b ps q=>?_,k1:=fun b o q n hb=>?_,k2:=fun b o q hb=>?_,hok:=jA hok (fun b hb=>by rw[sO.mp hb]; exact HC),hE:=hE,bC:=W.hideAll_none _ (sO.mpr rfl),nC:=nC }
 ·obtain⟨sl,e1⟩:=I.base.slot b o q n hb (nxx b)
  have hbs:b ∈ frs X.stack:=by rw[sfr]; exact sH _ hb
  obtain⟨sl2,e2⟩:=un.slot b _ e1 (I.base.free b o q n (nxx b)) hbs (nox b)
  obtain⟨o2,ho2,hnf⟩:=fm hbs
  rw[e2] at ho2
  cases ho2
  obtain⟨sl3,e3⟩:=ups b _ e2 hnf
  exact⟨sl3,e3⟩
 ·obtain⟨sl,e1⟩:=I.base.any q n (nxx b)
  exact un.free b _ e1 (I.base.free b o q n (nxx b)) (nox b)
 ·obtain⟨more,e1⟩:=I.base.tbls b ps q
  obtain⟨more2,e2⟩:=un.tbls b _ e1
  exact⟨more++more2,by rw[<- Array.append_assoc]; exact e2⟩
 ·exact W.hideAll_get _ (kb b o (I.base.keep b o q n hb (nxx b)) (I.base.free b o q n (nxx b)) (nfr b o q hb)) (neC b o q)
 ·obtain⟨o1,e1⟩:=I.base.there b o q (nxx b)
  obtain⟨o2,e2⟩:=tb b o1 e1 (nfr b o q hb)
  exact⟨o2,W.hideAll_get _ e2 (neC b o q)⟩
theorem Raz.leave {X:Cx}{E:XK} (hstk:X.stack=X.env::X.outer) (hfr:X.env.frame=some X.env.locals) (hA:X.A.frames=some X.stack) {a Cd:Addr}{C a0:Value}{H':Hp}{B:Heap} (R:RazF X E Cd s a C a0 H' B) {E1:Value->Shared->Prop} :
  wpAny (model X.prog X.w) X.A (leaving X.env (.ref a)) (fun _ s''=>CXr X.prog X.w X.outer X.H₀ X.s₀ E (.ref a) s'') E1 s:=by
 have al:=R.al
 have fm:∀ {b:Addr},b ∈ frs X.stack->∃ o,s.heap.get? b=some o/\∀ vs,o.data≠.fields vs:=fun hb=>(al.2.2.1.mem hb).2
 have sfr:frs X.stack=X.env.locals::frs X.outer:=by rw[hstk]; unfold frs; rw[List.filterMap_cons,hfr]
 rw[hstk] at al hA
 refine og hA hfr al fun h' fl' ups=>?_
 refine⟨a,C,a0,H',B,U,fl',R.os,R.bare,⟨fun b o q n hb _=>fl'.1 b o (R.k1 b o q n hb),fun b o q n hb _=>?_,fun b o q n _=>R.fr b o q n,fun b o q _=>?_,R.tu,R.fz,R.tb⟩,R.k1,R.k2,R.hok,R.hE⟩
 ·obtain⟨sl,e1⟩:=R.sl b o q n hb
  obtain⟨o2,e2,nf⟩:=fm (b:=b) (by rw[sfr]; exact sH _ hb)
  rw[e1] at e2
  cases e2
  have z:=ups b _ e1 nf
  exact z
 ·by_cases hb:b ∈ frs X.outer
  ·obtain⟨o2,e2,nf⟩:=fm (b:=b) (by rw[sfr]; exact sH _ hb)
   obtain⟨sl,e3⟩:=ups b _ e2 nf
   exact⟨_,e3⟩
  ·obtain⟨o',e'⟩:=R.k2 b o q hb
   exact⟨o',fl'.1 b o' e'⟩
theorem RazF.later {X:Cx}{E:XK}{Cd:Addr}{a:Addr}{C a0:Value}{H':Hp}{B h':Heap} (R:RazF X E Cd s a C a0 H' B) (al:Aloft B X.stack a C a0 h') (u:∀ b,b ∈ frs X.outer->∀ o,s.heap.get? b=some o->(∀ vs,o.data≠.fields vs)->h'.get? b=some o) (sub:∀ b,b ∈ frs X.outer->b ∈ frs X.stack):RazF X E Cd { s with heap:=h' } a C a0 H' B:=by
 refine { al:=al,os:=R.os,bare:=R.bare,sl:=fun b o q n hb=>?_,fr:=R.fr,tu:=R.tu,fz:=R.fz,tb:=R.tb,k1:=R.k1,k2:=R.k2,hok:=R.hok,hE:=R.hE,bC:=R.bC,nC:=R.nC }
 obtain⟨sl,e1⟩:=R.sl b o q n hb
 obtain⟨o2,e2,nf⟩:=(R.al.2.2.1.mem (sub b hb)).2
 rw[e1] at e2
 cases e2
 exact⟨sl,u b hb _ e1 nf⟩
theorem Aloft.same {B h h':Heap}{l:List Env}{e Cd:Addr}{cls a0:Value} (R:Aloft B l e cls a0 h) (sb:Heap.SameBut Cd h h') (bC:B.get? Cd=none) (nC:Cd ∉ frs l) (nf:∀ o vs,h.get? Cd=some o->o.data≠.fields vs):Aloft B l e cls a0 h':=by
 obtain⟨hk,hn,hl,fl,oe,vs,T,oT,ts,g1,g2,g3,g4,g5,g6,g7,g8,g9⟩:=R
 have e1:e≠Cd:=fun z=>nf oe vs (by rw[<- z]; exact g1) g3
 have e2:T≠Cd:=fun z=>nf oT ts (by rw[<- z]; exact g7) g8
 refine⟨fun b o hb=>?_,hn,?_,fl,oe,vs,T,oT,ts,(sb.2 e e1).trans g1,g2,g3,g4,g5,g6,(sb.2 T e2).trans g7,g8,g9⟩
 ·have:b≠Cd:=fun z=>by rw[z,bC] at hb; cases hb
  exact(sb.2 b this).trans (hk b o hb)
 ·clear g1 g2 g3 g4 g5 g6 g7 g8 g9 hk
  induction l with
  | nil=>trivial
  | cons env r ih=>
   obtain⟨hk,⟨L,o,hf,hn,ho,hd⟩,hr⟩:=hl
   have sf:frs (env::r)=L::frs r:=by unfold frs; rw[List.filterMap_cons,hf]
   rw[sf] at nC
   have:L≠Cd:=fun z=>nC (by rw[z]; exact sM)
   exact⟨hk,⟨L,o,hf,hn,(sb.2 L this).trans ho,hd⟩,ih (fun z=>nC (sH _ z)) hr⟩
theorem Raz.out {X:Cx}{E:XK} (hstk:X.stack=X.env::X.outer) (hfr:X.env.frame=some X.env.locals) (hA:X.A.frames=some X.stack) {Cd:Addr}{e:Value} (R:Raz X E Cd e s)
  (hx:∀ s',(∀ E1:Value->Shared->Prop,wpAny (model X.prog X.w) X.A (leaving X.env e) (fun _ s''=>CXr X.prog X.w X.outer X.H₀ X.s₀ E e s'') E1 s')->X.xe e s') :
  ∃ m,s.heap.Ns Cd m/\∀ h',Heap.SameBut Cd s.heap h'->∀ cenv:Env,cenv.locals=Cd->wpAny (model X.prog X.w) X.A (PySem.passOn (α:=Value) "comprehension.variables-let-go" e cenv) (fun _ _=>False) X.xe { s with heap:=h' }:=by
 obtain⟨a,C,a0,H',B,rfl,R,m,ns⟩:=R
 refine⟨m,ns,fun h' sb cenv _=>?_⟩
 have sfr:frs X.stack=X.env.locals::frs X.outer:=by rw[hstk]; unfold frs; rw[List.filterMap_cons,hfr]
 have sub:∀ b,b ∈ frs X.outer->b ∈ frs X.stack:=fun b hb=>by rw[sfr]; exact sH _ hb
 have neC:∀ b,b ∈ frs X.stack->b≠Cd:=fun b hb z=>R.nC (by rw[<- z]; exact hb)
 obtain⟨oC,es,ep,gC,dC,_⟩:=ns
 have al1:Aloft B X.stack a C a0 h':=R.al.same sb R.bC R.nC fun o vs g z=>by
  rw[gC] at g; cases g
  rw[dC] at z; cases z
 have R1:=R.later al1 (fun b hb o g _=>(sb.2 b (neC b (sub b hb))).trans g) sub
 obtain⟨oe,vs,T,oT,ts,g1,g2,g3,g4,g5⟩:=al1.2.2.2.choose_spec
 unfold PySem.passOn
 refine wpAny_bind (wpAny_field g1 g3 g4 ?_)
 dsimp only
 rw[if_neg (by simp)]
 refine wpAny_bind (lW (s:={ s with heap:=h' }) cenv.frame al1 fun h2 al2 k2=>?_)
 have R2:=R1.later al2 (fun b _ o g n=>k2 b o g n) sub
 have out:=hx { s with heap:=h2 } fun E1=>Raz.leave hstk hfr hA R2
 exact wpAny_throw out
end L2
namespace L2
open PySem PySem.Spec PyProof.Rows
variable{scope:Scope}
theorem d7 {prog:Program}{w:World}{A:Around}{R:Result->Shared->Prop}{s:Shared}{elt target iter:Expr}{ifs:List Expr}{pos:Pos}{it acc:Value}{env:Env} (Eb:Value->Shared->Prop) (I:Nat->Shared->Prop) (hEb:∀ e s',Eb e s'->notedBy (model prog w) A env (fun x s''=>R (.error x) s'') e s')
  (turn:∀ n s,I n s->wpAny (model prog w) A (pyNext it) (fun r s₁=>match r with
   | none=>R (.ok .next) s₁
   | some v=>wpAny (model prog w) A (letOwnedTupleGo target it v) (fun _ s₀=>wpAny (model prog w) A (assign target env v) (fun _ s₂=>
     wpAny (model prog w) A (forIn ifs true fun c r=>if r=true then do let ok <- isTrue c env (eval c env); pure (ForInStep.yield ok) else pure (ForInStep.yield r)) (fun ok s₃=>
      if ok=true then wpAny (model prog w) A (eval elt env) (fun x s₄=>
       wpAny (model prog w) A (call (.builtin "list.append") [acc,x]) (fun _ s₅=>∃ m,m<n/\I m s₅) Eb s₄) Eb s₃
      else ∃ m,m<n/\I m s₃) Eb s₂) Eb s₀) Eb s₁) Eb s)
  (n:Nat) (h:I n s) :
  codeAny (model prog w) A (.compLoop (.ListComp elt [⟨target,iter,ifs,0⟩] scope pos) 0 it acc env) R s:=by
 refine codeAny_loop rfl I (fun n s hI=>?_) n h
 show wpAny _ A ((compTurn (.ListComp elt [⟨target,iter,ifs,0⟩] scope pos) 0 it acc env).onRaise (fun x=>do noteFrame x env; theTreesLotGoes x)) _ _ s
 refine wpAny_noted ?_
 rw[compTurn_list]
 refine wpAny_bind (wpAny_standAt (wpAny_bind (wpAny_mono (turn n s hI) (fun r s₁ h₁=>?_) hEb)))
 cases r with
 | none=>exact wpAny_pure h₁
 | some v=>
  refine wpAny_bind (wpAny_mono h₁ (fun _ s₀ h₀=>?_) hEb)
  refine wpAny_bind (wpAny_mono h₀ (fun _ s₂ h₂=>wpAny_bind (wpAny_mono h₂ (fun ok s₃ h₃=>?_) hEb)) hEb)
  cases ok with
  | false=>exact wpAny_pure ⟨U,h₃⟩
  | true=>
   exact wpAny_bind (wpAny_bind (wpAny_mono h₃ (fun x s₄ h₄=>wpAny_bind (wpAny_mono h₄ (fun _ s₅ h₅=>wpAny_pure (wpAny_pure ⟨U,h₅⟩)) hEb)) hEb))
noncomputable def bt (X:Cx) (E:XK) (C:Addr) (e:Value) (s':Shared):Prop:=∃ (pins:List (Addr×Obj)) (σ:St) (H:Hp) (s:Shared),Inv X pins σ H s/\H C=none/\(∃ m,s.heap.Ns C m)/\CXr X.prog X.w X.stack H s E e s'
noncomputable abbrev bF (X:Cx) (Eb:Value->Shared->Prop) (scope:Scope) (N':List Str) (C:Addr) (s₀:Shared) (H₀:Hp) (fp:List Addr) (pins:List (Addr×Obj)):Cx:={ blk X scope N' C s₀ H₀ fp pins with xe:=Eb }
section
variable {X:Cx}
theorem pL {E:XK}{N':List Str}{C:Addr}{s₀:Shared}{H₀:Hp}{fp:List Addr}{pins:List (Addr×Obj)} (bk:∀ pins' σ' H s,Inv (bF X (bt X E C) scope N' C s₀ H₀ fp pins) pins' σ' H s->∃ pins σ,Inv X pins σ H s) :
  cI (CXr X.prog X.w) (bF X (bt X E C) scope N' C s₀ H₀ fp pins) E:=fun pins' σ' H s e s' I h=>by
 obtain⟨p,σ,I'⟩:=bk _ _ _ _ I
 obtain⟨m,n,_⟩:=id I.loc
 exact⟨p,σ,H,s,I',I.free,⟨m,n⟩,h⟩
theorem qI {elt tg iter:Expr}{ifs:List Expr}{pos:Pos}{wi:TI}{k:Nat}{g:TG}{tc:TT}{te:TE}{E:XK} (N':List Str) (hstk:X.stack=X.env::X.outer) (hfr0:X.env.frame=some X.env.locals) (hex:X.ex=[]) (hx:∀ e s',(∀ E1:Value->Shared->Prop,wpAny (model X.prog X.w) X.A (leaving X.env e) (fun _ s''=>CXr X.prog X.w X.outer X.H₀ X.s₀ E e s'') E1 s')->X.xe e s') (hc:X.calm=true) (hi:PI X tg iter wi)
  (hg:∀ C s₀ H₀ fp pins,PG (bF X (bt X E C) scope N' C s₀ H₀ fp pins) tg g) (ht:∀ C s₀ H₀ fp pins,PTs (bF X (bt X E C) scope N' C s₀ H₀ fp pins) ifs tc) (he:∀ C s₀ H₀ fp pins,(∀ pins' σ' H s,Inv (bF X (bt X E C) scope N' C s₀ H₀ fp pins) pins' σ' H s->∃ pins σ,Inv X pins σ H s)->PE (bF X (bt X E C) scope N' C s₀ H₀ fp pins) elt te)
  (hk:scope.kind=.function) (hcell:∀ y ∈ scope.names,y.2≠.cell) (hnames:∀ y ∈ scope.names,y.2=.local->scope.names.lookup y.1=some .local)
  {esc:Scope} (hsc:X.env.scope=esc) (hfr':∀ y ∈ scope.names,y.2=.free->esc.names.lookup y.1=some .cell∨esc.names.lookup y.1=some .free)
  (hlen:N'.length=k+X.N.length)
  (hN:∀ (i:Nat) (x:Str),N'[i+k]?=some x->(x,NameKind.free) ∈ scope.names->X.N[i]?=some x)
  (hN2:∀ x ∈ N'.drop k,scope.names.lookup x≠some .local)
  (hs:∀ x,foldedSetIterable iter X.env x=pure x:=by intro _; rfl) :
  PE X (.ListComp elt [⟨tg,iter,ifs,0⟩] scope pos) (tLC wi k g tc te):=by
 intro pins s σ H Q I h
 have hfr:∀ y ∈ scope.names,y.2=.free->X.env.kindOf y.1=some .cell∨X.env.kindOf y.1=some .free:=fun y hy hf=>by
  show X.env.scope.names.lookup y.1=_∨X.env.scope.names.lookup y.1=_
  rw[hsc]; exact hfr' y hy hf
 have hcells:∀ y ∈ scope.names,y.2=.free->∃ c,X.env.cells.lookup y.1=some c:=fun y hy hf=>I.ok.has y.1 (hfr y hy hf)
 have hclos:=cj scope X.env hcells
 rw[eval_ListComp]
 refine wpAny_comprehension_free (use:=none) rfl hs hclos hk hnames (thn (hi pins s σ H _ I h) fun v s1 h1=>thn h1 fun itv s2 h2=>?_)
 obtain⟨it,fp,tn,J,H2,e,I2,T,st2,f2,R⟩:=h2
 subst e
 refine wpAny_newObj_type ?_
 have hD:H2 s2.heap.objs.size=none:=I2.hok.fresh (Nat.le_refl _)
 obtain⟨W,⟨m0,w0⟩,turn⟩:=R _ hD
 generalize eD:s2.heap.objs.size=D at *
 have I3:Inv X pins σ (upd H2 D (.lst [])) { s2 with heap:=s2.heap.push { cls:=.type "list",dict:=none,data:=.seq ([]:List Value).toArray } } :=
  I2.laid (a:=D) (o:=.lst []) (t':=s2.toks) (fun b u e=>Heap.get?_push_of_some _ e) (Nat.le_of_eq eD) ⟨Nat.zero_le _,[],0,.nil,by rw[<- eD]; exact Heap.get?_push_size _ rfl⟩
 generalize e3:({ s2 with heap:=s2.heap.push { cls:=.type "list",dict:=none,data:=.seq ([]:List Value).toArray } }:Shared)=s3 at *
 have st3:tn 0 s3.heap:=T.keep _ _ _ st2 fun b _ o e=>by rw[<- e3]; exact Heap.get?_push_of_some _ e
 have lt2:∀ b ∈ fp,b<s2.heap.objs.size:=fun b hb=>by
  obtain⟨o,e,_⟩:=T.obj _ _ st2 b hb
  exact Heap.lt_size e
 have neD:∀ b ∈ fp,b≠D:=fun b hb=>by
  have:=lt2 b hb
  rw[eD] at this
  exact Nat.ne_of_lt this
 have f3:∀ b ∈ fp,cJ X pins (upd H2 D (.lst [])) b:=fun b hb=>⟨by rw[aw (neD b hb)]; exact(f2 b hb).1,(f2 b hb).2⟩
 generalize upd H2 D (.lst [])=H3 at *
 refine wpAny_newFunctionEnv hcell (by intro y hy; simp at hy) (fun h₁ hns₁ hsb₁=>?_) hk
 try dsimp only at hns₁ hsb₁ ⊢
 have lt3:∀ b ∈ fp,b<s3.heap.objs.size:=fun b hb=>by
  obtain⟨o,e,_⟩:=T.obj _ _ st3 b hb
  exact Heap.lt_size e
 generalize eC:s3.heap.objs.size=C at *
 have kp:∀ b o,s3.heap.get? b=some o->h₁.get? b=some o:=fun b o e=>(hsb₁.2 b (by rw[<- eC]; exact Nat.ne_of_lt (Heap.lt_size e))).trans (Heap.get?_push_of_some _ e)
 have subC:∀ x c,(bR X.env.cells scope.names []).lookup x=some c->X.env.cells.lookup x=some c:=fun x c e=>ck scope.names [] hcells (fun y d z=>by simp at z) e
 have hCnone:H3 C=none:=I3.hok.fresh (Nat.le_of_eq eC)
 have ok':(bF X (bt X E C) scope N' C s3 H3 fp pins).Ok:={
  mod:=I3.ok.mod
  kind:=hk
  glob:=I3.ok.glob
  blt:=I3.ok.blt
  above:=Nat.le_of_eq eC
  inj:=fun x y c a b=>I3.ok.inj x y c (subC x c a) (subC y c b)
  has:=fun x hx=>br scope.names [] (bn scope.names hcell hx)
  cab:=fun x c a _=>absurd a Bool.false_ne_true
  hd:=I3.ok.hd
  frames:=I3.ok.frames
  stk:=.inl rfl
  exf:=fun b hb=>⟨by have:=lt3 b hb; exact Nat.ne_of_lt this,fun x c e=>(f3 b hb).2.2.2.2.1 x c (subC x c e)⟩
  bs:=I3.bs
  bsz:=Nat.le_trans I3.ok.bsz I3.sz
  noex:=fun b o e hb=>by
   rcases (f3 b hb).2.2.2.1 with z | z
   ·exact I3.ok.noex b o e z
   ·exact absurd (Nat.lt_of_lt_of_le (Heap.lt_size e) (Nat.le_trans I3.ok.bsz z)) (Nat.lt_irrefl _)
  exfs:=fun b hb z=>by
   rcases sR.mp (I3.stkSub b z) with e | e
   ·exact(f3 b hb).2.1 e
   ·exact(f3 b hb).2.2.1 e
  funs:=I3.stack
  frf:=I3.stkFree }
 have s4os:({ s3 with heap:=h₁,toks:=s3.toks+([]:List (Str×Value)).length }:Shared).os=s3.os:=rfl
 generalize e4:({ s3 with heap:=h₁,toks:=s3.toks+([]:List (Str×Value)).length }:Shared)=s4 at *
 have h4:s4.heap=h₁:=by rw[<- e4]
 have J4:Inv (bF X (bt X E C) scope N' C s3 H3 fp pins) [] (List.replicate k none++σ) H3 s4:=by
  refine⟨ok',s4os,by rw[<- e4]; exact I3.bare,?_,⟨_,by rw[h4]; exact hns₁,fun i x v e1 e2 e5=>?_⟩,fun x c e=>?_,hCnone,fun x c e=>I3.freeC x c (subC x c e),fun p hp=>?_,?_,?_⟩
  ·rw[h4]; exact Un.kept kp
  ·have hik:¬ i<k:=fun hlt=>by
    rw[tm (by rw[sQ]; exact hlt),List.getElem?_replicate] at e2
    split at e2 <;> cases e2
   obtain⟨j,rfl⟩:∃ j,i=j+k:=⟨i - k,by omega⟩
   have e2':σ[j]?=some (some v):=by
    rw[tf (by rw[sQ]; omega),sQ] at e2
    have:j+k - k=j:=by omega
    rw[this] at e2; exact e2
   have nl:(relabel scope X.env).names.lookup x≠some .local:=fun z=>by
    have q:∀ (l:List (Str×NameKind)),(l.map fun(n,k)=>if (k == NameKind.free && X.env.scope.kind == .function && X.env.kindOf n == some .cell) then(n,NameKind.cell) else(n,k)).lookup x=some .local->l.lookup x=some .local:=by
     intro l
     induction l with
     | nil=>intro z; simp at z
     | cons y l ih=>
      obtain⟨n,kk⟩:=y
      intro z
      by_cases hcc:(kk == NameKind.free && X.env.scope.kind == .function && X.env.kindOf n == some .cell)=true
      ·simp only[sX,if_pos hcc,tD] at z ⊢
       cases hx:x == n with
       | true=>simp only[hx] at z; cases z
       | false=>simp only[hx] at z ⊢; exact ih z
      ·simp only[sX,if_neg hcc,tD] at z ⊢
       cases hx:x == n with
       | true=>simp only[hx] at z ⊢; exact z
       | false=>simp only[hx] at z ⊢; exact ih z
    exact hN2 x (sL (i:=j) (by rw[List.getElem?_drop,Nat.add_comm]; exact e1)) (q _ z)
   have hcf:(relabel scope X.env).names.lookup x=some .cell∨(relabel scope X.env).names.lookup x=some .free:=by
    rcases e5 with z | z | z
    ·exact absurd z nl
    ·exact .inl z
    ·exact .inr z
   have hmem:(x,NameKind.free) ∈ scope.names:=bn scope.names hcell hcf
   have hx:=hN j x e1 hmem
   obtain⟨mo,_,hl⟩:=I3.loc
   have hkx:=hfr (x,.free) hmem rfl
   obtain⟨u,ru,lk⟩:=hl j x v hx e2' (by
    rcases hkx with z | z
    ·exact .inr (.inl z)
    ·exact .inr (.inr z))
   refine⟨u,ru,.inr ⟨hcf,?_⟩⟩
   rcases lk with ⟨z,_⟩ | ⟨_,c,hc1,hc2⟩
   ·rcases hkx with q | q
    ·rw[q] at z; cases z
    ·rw[q] at z; cases z
   ·obtain⟨c',hc'⟩:=br (cells:=X.env.cells) scope.names [] hmem
    have:=subC x c' hc'
    rw[hc1] at this; cases this
    obtain⟨oc,h5,h6⟩:=hc2
    exact⟨c,hc',oc,by rw[h4]; exact kp _ _ h5,h6⟩
  ·obtain⟨v,oc,h5,h6⟩:=I3.cell x c (subC x c e)
   exact⟨v,oc,by rw[h4]; exact kp _ _ h5,h6⟩
  ·have hp':p ∈ X.pn++pins:=by simpa using hp
   obtain⟨a1,a2,a3,a4,a5⟩:=I3.pin p hp'
   refine⟨by rw[h4]; exact kp _ _ a1,a2,?_,fun z=>?_,a5⟩
   ·have:=Heap.lt_size a1
    rw[eC] at this
    exact Nat.ne_of_lt this
   ·rcases sR.mp (I3.stkSub p.1 z) with q | q
    ·exact a3 q
    ·exact a4 q
  ·rw[h4]; exact I3.hok.kept kp
  ·rw[sW,sQ,I3.len]; exact hlen.symm
 have stat:∀ {H':Hp},(∀ b ∈ fp,H' b=none)->∀ b ∈ fp,cJ (bF X (bt X E C) scope N' C s3 H3 fp pins) [] H' b:=fun hn b hb=>
  ⟨hn b hb,(ok'.exf b hb).1,ok'.exfs b hb,.inl hb,fun x c e=>(ok'.exf b hb).2 x c e,fun p hp=>(f3 b hb).2.2.2.2.2 p (by simpa using hp)⟩
 have fr4:∀ b ∈ fp,H3 b=none:=fun b hb=>(f3 b hb).1
 have st4:tn 0 s4.heap:=T.keep _ _ _ st3 fun b _ o e=>by rw[h4]; exact kp _ _ e
 have bk:∀ pins' σ' H s,Inv (bF X (bt X E C) scope N' C s3 H3 fp pins) pins' σ' H s->∃ pins σ,Inv X pins σ H s:=fun _ _ _ _ I6=>⟨pins,σ,I3.call' (ch:=fp) I6.os I6.base I6.hok I6.bare (fun b hb=>⟨(f3 b hb).2.2.2.1,(f3 b hb).2.1,(f3 b hb).2.2.2.2.1,(f3 b hb).2.2.2.2.2⟩)⟩
 have nCs:C ∉ frs X.stack:=fun z=>by
  obtain⟨o,g,_⟩:=(I3.stack.mem z).2
  have:=Heap.lt_size g
  rw[eC] at this
  exact Nat.lt_irrefl _ this
 have csz:X.s₀.heap.objs.size<=C:=by rw[<- eC]; exact I3.sz
 have hEb:∀ e s',bt X E C e s'->notedBy (model X.prog X.w) X.A (compEnvC scope (bR X.env.cells scope.names []) C X.env) (fun x s''=>compPost (model X.prog X.w) X.A X.xe none (EP X pins σ Q) (.ref D) C (.error x) s'') e s':=fun e s' ⟨p,σ',H,s,I,hC,ns,h⟩=>
  wpAny_mono (Raz.noted hstk hfr0 hex I hC ns nCs csz h rfl) (fun _ s'' R=>Raz.out hstk hfr0 I.ok.frames R (hx e)) (fun _ _ z=>z)
 have loop:codeAny (model X.prog X.w) X.A (.compLoop (.ListComp elt [⟨tg,iter,ifs,0⟩] scope pos) 0 (.ref it) (.ref D) (compEnvC scope (bR X.env.cells scope.names []) C X.env))
   (compPost (model X.prog X.w) X.A X.xe none (EP X pins σ Q) (.ref D) C) s4:=by
  refine d7 (bt X E C) (fun n s'=>∃ i ys H',Inv (bF X (bt X E C) scope N' C s3 H3 fp pins) [] (List.replicate k none++σ) H' s'/\tn i s'.heap/\(∀ b ∈ fp,H' b=none)/\W i n ys H') hEb ?_ m0 ⟨0,[],H3,J4,st4,fr4,w0⟩
  rintro n s5 ⟨i,ys,H5,I5,st5,fr5,w5⟩
  obtain⟨hDl,stp⟩:=turn i n ys H5 w5
  rcases stp with ⟨stop,qn⟩ | ⟨go,step⟩
  ·refine thn (T.done (bF X (bt X E C) scope N' C s3 H3 fp pins) rfl rfl rfl hc i [] s5 _ H5 (bt X E C) I5 (stat fr5) st5 stop) fun r s6 ⟨hr,I6⟩=>?_
   subst hr
   obtain⟨m6,ns6,_⟩:=id I6.loc
   refine⟨m6,ns6,fun h' hsb=>⟨.ref D,H5,?_,U,qn⟩⟩
   have hC5:H5 C=none:=I6.free
   have un6:Un (frs X.stack) fp H3 H5 s3.heap s6.heap:=I6.base
   have neC:∀ b o,s3.heap.get? b=some o->b≠C:=fun b o e=>by
    have:=Heap.lt_size e
    rw[eC] at this
    exact Nat.ne_of_lt this
   refine I3.call' (s':={ s6 with heap:=h' }) (ch:=fp) I6.os ⟨fun b o e a1 a2 a3=>?_,fun b o e a1 a2 a3=>?_,un6.free,fun b o e a3=>?_,un6.tups,un6.frzs,un6.tbls⟩ ?_ I6.bare (fun b hb=>?_)
   ·exact(hsb.2 b (neC b o e)).trans (un6.keep b o e a1 a2 a3)
   ·obtain⟨sl,z⟩:=un6.slot b o e a1 a2 a3
    exact⟨sl,(hsb.2 b (neC b o e)).trans z⟩
   ·obtain⟨o',z⟩:=un6.there b o e a3
    exact⟨o',(hsb.2 b (neC b o e)).trans z⟩
   ·intro b u e
    refine(I6.hok b u e).stay (fun c w' hcc q=>(hsb.2 c ?_).trans q) (fun _ q=>q) fun _ _ q=>q
    rintro rfl
    rcases hcc with z | z
    ·rw[z,e] at hC5; cases hC5
    ·rw[z] at hC5; cases hC5
   ·exact⟨(f3 b hb).2.2.2.1,(f3 b hb).2.1,(f3 b hb).2.2.2.2.1,(f3 b hb).2.2.2.2.2⟩
  ·refine thn (T.item (bF X (bt X E C) scope N' C s3 H3 fp pins) rfl rfl rfl hc i [] s5 _ H5 (bt X E C) I5 (stat fr5) st5 go) fun r s6 ⟨u,hr,h6⟩=>?_
   subst hr
   refine thn h6 fun _ s7 ⟨x,H7,I7,r7,y7,st7,fr7⟩=>?_
   have I7':=I7.pinned (stat fr7) (T.obj _ _ st7)
   refine thn (hg C s3 H3 fp pins _ s7 _ H7 x u _ I7' r7 (step x H7 y7)) fun _ s8 ⟨σ8,H8,I8,d8,q8⟩=>?_
   refine thn (ht C s3 H3 fp pins _ s8 σ8 H8 _ I8 q8) fun b s9 ⟨H9,I9,q9⟩=>?_
   have kz:∀ (j:Nat) v,(List.replicate k none++σ)[j]?=some (some v)->σ8[j]?=some (some v):=fun j v e=>by
    have hik:¬ j<k:=fun hlt=>by
     rw[tm (by rw[sQ]; exact hlt),List.getElem?_replicate] at e
     split at e <;> cases e
    rw[tf (by rw[sQ]; omega),sQ,<- d8,List.getElem?_drop] at e
    have:k+(j - k)=j:=by omega
    rw[this] at e; exact e
   have again:∀ {Hz:Hp}{sz:Shared}{zs:List V}{m':Nat},Inv (bF X (bt X E C) scope N' C s3 H3 fp pins) ([]++dg fp s7.heap) σ8 Hz sz->m'<n->W (i+1) m' zs Hz ->
     ∃ m,m<n/\∃ i ys H',Inv (bF X (bt X E C) scope N' C s3 H3 fp pins) [] (List.replicate k none++σ) H' sz/\tn i sz.heap/\(∀ b ∈ fp,H' b=none)/\W i m ys H':=fun {Hz sz zs m'} Iz hm wz=>by
    refine⟨m',hm,i+1,zs,Hz,(Iz.unpinned).weak ?_ kz,T.keep _ _ _ st7 fun b hb o e=>(Iz.pin (b,o) (sJ _ (sJ _ (aX hb e)))).1,fun b hb=>?_,wz⟩
    ·rw[Iz.len]; exact I5.len
    ·obtain⟨o,e,d⟩:=T.obj _ _ st7 b hb
     exact(Iz.pin (b,o) (sJ _ (sJ _ (aX hb e)))).2.1
   cases b with
   | false=>
    obtain⟨m',hm,w9⟩:=(show ∃ m',m'<n/\W (i+1) m' ys H9 by simpa using q9)
    rw[if_neg Bool.false_ne_true]
    exact again I9 hm w9
   | true=>
    rw[if_pos rfl] at q9 ⊢
    refine thn (he C s3 H3 fp pins bk _ s9 σ8 H9 _ I9 q9) fun u9 s10 ⟨y,H10,I10,r10,hz,hD10,m',hm,w10⟩=>?_
    refine thn (aR (X:=bF X (bt X E C) scope N' C s3 H3 fp pins) _ s10 σ8 H10 (.ref D) [y] (.ref D) [u9] (fun _ H'=>H'=upd H10 D (.lst (ys++[y]))) I10 rfl (.cons r10 .nil) ⟨D,ys,y,U,U,hD10,hz,U⟩) fun _ s11 ⟨_,H11,I11,_,e11⟩=>?_
    subst e11
    exact again I11 hm w10
 exact codeAny_compStart_list loop (T.self _ 0 _ _ _ st4 loop)
theorem mI {ix:Nat}{nm:Str}{pos' spos:Pos}{elt tg iter:Expr}{ifs:List Expr}{pos:Pos}{wi:TI}{k:Nat}{g:TG}{tc:TT}{te:TE} (hNd:X.N.Nodup) (hix:X.N[ix]?=some nm) (hLx:Loc X.env.scope nm) {E:XK} (N':List Str) (hstk:X.stack=X.env::X.outer) (hfr0:X.env.frame=some X.env.locals) (hex:X.ex=[]) (hx:∀ e s',(∀ E1:Value->Shared->Prop,wpAny (model X.prog X.w) X.A (leaving X.env e) (fun _ s''=>CXr X.prog X.w X.outer X.H₀ X.s₀ E e s'') E1 s')->X.xe e s') (hc:X.calm=true) (hi:PI X tg iter wi)
  (hg:∀ C s₀ H₀ fp pins,PG (bF X (bt X E C) scope N' C s₀ H₀ fp pins) tg g) (ht:∀ C s₀ H₀ fp pins,PTs (bF X (bt X E C) scope N' C s₀ H₀ fp pins) ifs tc) (he:∀ C s₀ H₀ fp pins,(∀ pins' σ' H s,Inv (bF X (bt X E C) scope N' C s₀ H₀ fp pins) pins' σ' H s->∃ pins σ,Inv X pins σ H s)->PE (bF X (bt X E C) scope N' C s₀ H₀ fp pins) elt te)
  (hk:scope.kind=.function) (hcell:∀ y ∈ scope.names,y.2≠.cell) (hnames:∀ y ∈ scope.names,y.2=.local->scope.names.lookup y.1=some .local)
  {esc:Scope} (hsc:X.env.scope=esc) (hfr':∀ y ∈ scope.names,y.2=.free->esc.names.lookup y.1=some .cell∨esc.names.lookup y.1=some .free)
  (hlen:N'.length=k+X.N.length)
  (hN:∀ (i:Nat) (x:Str),N'[i+k]?=some x->(x,NameKind.free) ∈ scope.names->X.N[i]?=some x)
  (hN2:∀ x ∈ N'.drop k,scope.names.lookup x≠some .local)
  (hs:∀ x,foldedSetIterable iter X.env x=pure x:=by intro _; rfl)
  (hsw:swapsWith (.ListComp elt [⟨tg,iter,ifs,0⟩] scope pos) (some (.Name nm pos')) spos.line X.env=pure true:=by rfl)
  (hf:X.fn nm=true∨X.env.scope.names.lookup nm=some .local:=by first | exact .inl rfl | exact .inr rfl | assumption) :
  PS X (.Assign [.Name nm pos'] (.ListComp elt [⟨tg,iter,ifs,0⟩] scope pos) spos) (ma (tLC wi k g tc te) (jB ix)):=by
 intro pins s σ H Dn I h
 have hfr:∀ y ∈ scope.names,y.2=.free->X.env.kindOf y.1=some .cell∨X.env.kindOf y.1=some .free:=fun y hy hf=>by
  show X.env.scope.names.lookup y.1=_∨X.env.scope.names.lookup y.1=_
  rw[hsc]; exact hfr' y hy hf
 have hcells:∀ y ∈ scope.names,y.2=.free->∃ c,X.env.cells.lookup y.1=some c:=fun y hy hf=>I.ok.has y.1 (hfr y hy hf)
 have hclos:=cj scope X.env hcells
 rw[exec_Assign_Name_used _ _ _ _ hsw]
 refine wpAny_bind (wpAny_standAt (wpAny_bind ?_))
 show wpAny _ X.A (do let _ <- comprehension (.ListComp elt [⟨tg,iter,ifs,0⟩] scope pos) scope X.env _ (newList []) false (eval iter X.env) (some (assign (.Name nm pos') X.env))) _ _ s
 refine wpAny_bind (wpAny_mono (wpAny_comprehension_free (Q:=fun _ s'=>SP X pins Dn .next s') (use:=some (assign (.Name nm pos') X.env)) rfl hs hclos hk hnames ?_) (fun _ s' hq=>wpAny_pure (wpAny_pure hq)) fun _ _ e=>e)
 refine(thn (hi pins s σ H _ I h) fun v s1 h1=>thn h1 fun itv s2 h2=>?_)
 obtain⟨it,fp,tn,J,H2,e,I2,T,st2,f2,R⟩:=h2
 subst e
 refine wpAny_newObj_type ?_
 have hD:H2 s2.heap.objs.size=none:=I2.hok.fresh (Nat.le_refl _)
 obtain⟨W,⟨m0,w0⟩,turn⟩:=R _ hD
 generalize eD:s2.heap.objs.size=D at *
 have I3:Inv X pins σ (upd H2 D (.lst [])) { s2 with heap:=s2.heap.push { cls:=.type "list",dict:=none,data:=.seq ([]:List Value).toArray } } :=
  I2.laid (a:=D) (o:=.lst []) (t':=s2.toks) (fun b u e=>Heap.get?_push_of_some _ e) (Nat.le_of_eq eD) ⟨Nat.zero_le _,[],0,.nil,by rw[<- eD]; exact Heap.get?_push_size _ rfl⟩
 generalize e3:({ s2 with heap:=s2.heap.push { cls:=.type "list",dict:=none,data:=.seq ([]:List Value).toArray } }:Shared)=s3 at *
 have st3:tn 0 s3.heap:=T.keep _ _ _ st2 fun b _ o e=>by rw[<- e3]; exact Heap.get?_push_of_some _ e
 have lt2:∀ b ∈ fp,b<s2.heap.objs.size:=fun b hb=>by
  obtain⟨o,e,_⟩:=T.obj _ _ st2 b hb
  exact Heap.lt_size e
 have neD:∀ b ∈ fp,b≠D:=fun b hb=>by
  have:=lt2 b hb
  rw[eD] at this
  exact Nat.ne_of_lt this
 have f3:∀ b ∈ fp,cJ X pins (upd H2 D (.lst [])) b:=fun b hb=>⟨by rw[aw (neD b hb)]; exact(f2 b hb).1,(f2 b hb).2⟩
 generalize upd H2 D (.lst [])=H3 at *
 refine wpAny_newFunctionEnv hcell (by intro y hy; simp at hy) (fun h₁ hns₁ hsb₁=>?_) hk
 try dsimp only at hns₁ hsb₁ ⊢
 have lt3:∀ b ∈ fp,b<s3.heap.objs.size:=fun b hb=>by
  obtain⟨o,e,_⟩:=T.obj _ _ st3 b hb
  exact Heap.lt_size e
 generalize eC:s3.heap.objs.size=C at *
 have kp:∀ b o,s3.heap.get? b=some o->h₁.get? b=some o:=fun b o e=>(hsb₁.2 b (by rw[<- eC]; exact Nat.ne_of_lt (Heap.lt_size e))).trans (Heap.get?_push_of_some _ e)
 have subC:∀ x c,(bR X.env.cells scope.names []).lookup x=some c->X.env.cells.lookup x=some c:=fun x c e=>ck scope.names [] hcells (fun y d z=>by simp at z) e
 have hCnone:H3 C=none:=I3.hok.fresh (Nat.le_of_eq eC)
 have ok':(bF X (bt X E C) scope N' C s3 H3 fp pins).Ok:={
  mod:=I3.ok.mod
  kind:=hk
  glob:=I3.ok.glob
  blt:=I3.ok.blt
  above:=Nat.le_of_eq eC
  inj:=fun x y c a b=>I3.ok.inj x y c (subC x c a) (subC y c b)
  has:=fun x hx=>br scope.names [] (bn scope.names hcell hx)
  cab:=fun x c a _=>absurd a Bool.false_ne_true
  hd:=I3.ok.hd
  frames:=I3.ok.frames
  stk:=.inl rfl
  exf:=fun b hb=>⟨by have:=lt3 b hb; exact Nat.ne_of_lt this,fun x c e=>(f3 b hb).2.2.2.2.1 x c (subC x c e)⟩
  bs:=I3.bs
  bsz:=Nat.le_trans I3.ok.bsz I3.sz
  noex:=fun b o e hb=>by
   rcases (f3 b hb).2.2.2.1 with z | z
   ·exact I3.ok.noex b o e z
   ·exact absurd (Nat.lt_of_lt_of_le (Heap.lt_size e) (Nat.le_trans I3.ok.bsz z)) (Nat.lt_irrefl _)
  exfs:=fun b hb z=>by
   rcases sR.mp (I3.stkSub b z) with e | e
   ·exact(f3 b hb).2.1 e
   ·exact(f3 b hb).2.2.1 e
  funs:=I3.stack
  frf:=I3.stkFree }
 have s4os:({ s3 with heap:=h₁,toks:=s3.toks+([]:List (Str×Value)).length }:Shared).os=s3.os:=rfl
 generalize e4:({ s3 with heap:=h₁,toks:=s3.toks+([]:List (Str×Value)).length }:Shared)=s4 at *
 have h4:s4.heap=h₁:=by rw[<- e4]
 have J4:Inv (bF X (bt X E C) scope N' C s3 H3 fp pins) [] (List.replicate k none++σ) H3 s4:=by
  refine⟨ok',s4os,by rw[<- e4]; exact I3.bare,?_,⟨_,by rw[h4]; exact hns₁,fun i x v e1 e2 e5=>?_⟩,fun x c e=>?_,hCnone,fun x c e=>I3.freeC x c (subC x c e),fun p hp=>?_,?_,?_⟩
  ·rw[h4]; exact Un.kept kp
  ·have hik:¬ i<k:=fun hlt=>by
    rw[tm (by rw[sQ]; exact hlt),List.getElem?_replicate] at e2
    split at e2 <;> cases e2
   obtain⟨j,rfl⟩:∃ j,i=j+k:=⟨i - k,by omega⟩
   have e2':σ[j]?=some (some v):=by
    rw[tf (by rw[sQ]; omega),sQ] at e2
    have:j+k - k=j:=by omega
    rw[this] at e2; exact e2
   have nl:(relabel scope X.env).names.lookup x≠some .local:=fun z=>by
    have q:∀ (l:List (Str×NameKind)),(l.map fun(n,k)=>if (k == NameKind.free && X.env.scope.kind == .function && X.env.kindOf n == some .cell) then(n,NameKind.cell) else(n,k)).lookup x=some .local->l.lookup x=some .local:=by
     intro l
     induction l with
     | nil=>intro z; simp at z
     | cons y l ih=>
      obtain⟨n,kk⟩:=y
      intro z
      by_cases hcc:(kk == NameKind.free && X.env.scope.kind == .function && X.env.kindOf n == some .cell)=true
      ·simp only[sX,if_pos hcc,tD] at z ⊢
       cases hx:x == n with
       | true=>simp only[hx] at z; cases z
       | false=>simp only[hx] at z ⊢; exact ih z
      ·simp only[sX,if_neg hcc,tD] at z ⊢
       cases hx:x == n with
       | true=>simp only[hx] at z ⊢; exact z
       | false=>simp only[hx] at z ⊢; exact ih z
    exact hN2 x (sL (i:=j) (by rw[List.getElem?_drop,Nat.add_comm]; exact e1)) (q _ z)
   have hcf:(relabel scope X.env).names.lookup x=some .cell∨(relabel scope X.env).names.lookup x=some .free:=by
    rcases e5 with z | z | z
    ·exact absurd z nl
    ·exact .inl z
    ·exact .inr z
   have hmem:(x,NameKind.free) ∈ scope.names:=bn scope.names hcell hcf
   have hx:=hN j x e1 hmem
   obtain⟨mo,_,hl⟩:=I3.loc
   have hkx:=hfr (x,.free) hmem rfl
   obtain⟨u,ru,lk⟩:=hl j x v hx e2' (by
    rcases hkx with z | z
    ·exact .inr (.inl z)
    ·exact .inr (.inr z))
   refine⟨u,ru,.inr ⟨hcf,?_⟩⟩
   rcases lk with ⟨z,_⟩ | ⟨_,c,hc1,hc2⟩
   ·rcases hkx with q | q
    ·rw[q] at z; cases z
    ·rw[q] at z; cases z
   ·obtain⟨c',hc'⟩:=br (cells:=X.env.cells) scope.names [] hmem
    have:=subC x c' hc'
    rw[hc1] at this; cases this
    obtain⟨oc,h5,h6⟩:=hc2
    exact⟨c,hc',oc,by rw[h4]; exact kp _ _ h5,h6⟩
  ·obtain⟨v,oc,h5,h6⟩:=I3.cell x c (subC x c e)
   exact⟨v,oc,by rw[h4]; exact kp _ _ h5,h6⟩
  ·have hp':p ∈ X.pn++pins:=by simpa using hp
   obtain⟨a1,a2,a3,a4,a5⟩:=I3.pin p hp'
   refine⟨by rw[h4]; exact kp _ _ a1,a2,?_,fun z=>?_,a5⟩
   ·have:=Heap.lt_size a1
    rw[eC] at this
    exact Nat.ne_of_lt this
   ·rcases sR.mp (I3.stkSub p.1 z) with q | q
    ·exact a3 q
    ·exact a4 q
  ·rw[h4]; exact I3.hok.kept kp
  ·rw[sW,sQ,I3.len]; exact hlen.symm
 have stat:∀ {H':Hp},(∀ b ∈ fp,H' b=none)->∀ b ∈ fp,cJ (bF X (bt X E C) scope N' C s3 H3 fp pins) [] H' b:=fun hn b hb=>
  ⟨hn b hb,(ok'.exf b hb).1,ok'.exfs b hb,.inl hb,fun x c e=>(ok'.exf b hb).2 x c e,fun p hp=>(f3 b hb).2.2.2.2.2 p (by simpa using hp)⟩
 have fr4:∀ b ∈ fp,H3 b=none:=fun b hb=>(f3 b hb).1
 have st4:tn 0 s4.heap:=T.keep _ _ _ st3 fun b _ o e=>by rw[h4]; exact kp _ _ e
 have bk:∀ pins' σ' H s,Inv (bF X (bt X E C) scope N' C s3 H3 fp pins) pins' σ' H s->∃ pins σ,Inv X pins σ H s:=fun _ _ _ _ I6=>⟨pins,σ,I3.call' (ch:=fp) I6.os I6.base I6.hok I6.bare (fun b hb=>⟨(f3 b hb).2.2.2.1,(f3 b hb).2.1,(f3 b hb).2.2.2.2.1,(f3 b hb).2.2.2.2.2⟩)⟩
 have nCs:C ∉ frs X.stack:=fun z=>by
  obtain⟨o,g,_⟩:=(I3.stack.mem z).2
  have:=Heap.lt_size g
  rw[eC] at this
  exact Nat.lt_irrefl _ this
 have csz:X.s₀.heap.objs.size<=C:=by rw[<- eC]; exact I3.sz
 have hEb:∀ e s',bt X E C e s'->notedBy (model X.prog X.w) X.A (compEnvC scope (bR X.env.cells scope.names []) C X.env) (fun x s''=>compPost (model X.prog X.w) X.A X.xe (some (assign (.Name nm pos') X.env)) (fun _ s'=>SP X pins Dn .next s') (.ref D) C (.error x) s'') e s':=fun e s' ⟨p,σ',H,s,I,hC,ns,h⟩=>
  wpAny_mono (Raz.noted hstk hfr0 hex I hC ns nCs csz h rfl) (fun _ s'' R=>Raz.out hstk hfr0 I.ok.frames R (hx e)) (fun _ _ z=>z)
 have loop:codeAny (model X.prog X.w) X.A (.compLoop (.ListComp elt [⟨tg,iter,ifs,0⟩] scope pos) 0 (.ref it) (.ref D) (compEnvC scope (bR X.env.cells scope.names []) C X.env))
   (compPost (model X.prog X.w) X.A X.xe (some (assign (.Name nm pos') X.env)) (fun _ s'=>SP X pins Dn .next s') (.ref D) C) s4:=by
  refine d7 (bt X E C) (fun n s'=>∃ i ys H',Inv (bF X (bt X E C) scope N' C s3 H3 fp pins) [] (List.replicate k none++σ) H' s'/\tn i s'.heap/\(∀ b ∈ fp,H' b=none)/\W i n ys H') hEb ?_ m0 ⟨0,[],H3,J4,st4,fr4,w0⟩
  rintro n s5 ⟨i,ys,H5,I5,st5,fr5,w5⟩
  obtain⟨hDl,stp⟩:=turn i n ys H5 w5
  rcases stp with ⟨stop,qn⟩ | ⟨go,step⟩
  ·refine thn (T.done (bF X (bt X E C) scope N' C s3 H3 fp pins) rfl rfl rfl hc i [] s5 _ H5 (bt X E C) I5 (stat fr5) st5 stop) fun r s6 ⟨hr,I6⟩=>?_
   subst hr
   obtain⟨m6,ns6,_⟩:=id I6.loc
   have hC5:H5 C=none:=I6.free
   have un6:Un (frs X.stack) fp H3 H5 s3.heap s6.heap:=I6.base
   have IX:Inv X pins σ H5 s6:=by
    refine I3.call' (s':=s6) (ch:=fp) I6.os un6 I6.hok I6.bare (fun b hb=>?_)
    exact⟨(f3 b hb).2.2.2.1,(f3 b hb).2.1,(f3 b hb).2.2.2.2.1,(f3 b hb).2.2.2.2.2⟩
   have fpC:cJ X pins H5 C:=I3.fpOk (Nat.le_of_eq eC) hC5
   obtain⟨oC,esC,epC,gC,dC,rC⟩:=ns6
   have IXp:=IX.pinned (fp:=[C]) (fun b hb=>by rw[sO.mp hb]; exact fpC) (fun b hb=>by rw[sO.mp hb]; exact⟨oC,gC,fun v z=>by rw[dC] at z; cases z⟩)
   have sto:=az (pos:=pos') hNd hix hLx hf _ s6 σ H5 (.ref D) (.ref D) (fun σ' H'=>σ'=σ.set ix (some (.ref D))/\H'=H5) IXp rfl ⟨U,U⟩
   show wpAny _ _ (assign (.Name nm pos') X.env (.ref D)) _ _ s6
   refine thn sto fun _ s7 ⟨σ7,H7,I7,e7,e7'⟩=>?_
   subst e7 e7'
   have gC7:s7.heap.get? C=some oC:=(I7.pin (C,oC) (sJ _ (sJ _ (aX (sO.mpr rfl) gC)))).1
   refine⟨_,⟨oC,esC,epC,gC7,dC,rC⟩,fun h' hsb=>⟨σ.set ix (some (.ref D)),_,?_,qn⟩⟩
   refine(I7.unpinned).call' (s':={ s7 with heap:=h' }) (ch:=[C]) rfl ⟨fun b o e a1 a2 a3=>?_,fun b o e a1 a2 a3=>?_,fun _ _ _ n _=>n,fun b o e a3=>?_,fun _ _ q=>q,fun _ _ _ q=>q,fun _ ps q=>⟨#[],by rw[q]; simp⟩⟩ ?_ I7.bare (fun b hb=>?_)
   ·exact(hsb.2 b (fun z=>a3 (sO.mpr z))).trans e
   ·exact⟨o.slots,(hsb.2 b (fun z=>a3 (sO.mpr z))).trans e⟩
   ·exact⟨o,(hsb.2 b (fun z=>a3 (sO.mpr z))).trans e⟩
   ·intro b u e
    refine(I7.hok b u e).stay (fun c w' hcc q=>(hsb.2 c ?_).trans q) (fun _ q=>q) fun _ _ q=>q
    rintro rfl
    rcases hcc with z | z
    ·rw[z,e] at hC5; cases hC5
    ·rw[z] at hC5; cases hC5
   ·rw[sO.mp hb]
    exact⟨fpC.2.2.2.1,fpC.2.1,fpC.2.2.2.2.1,fpC.2.2.2.2.2⟩
  ·refine thn (T.item (bF X (bt X E C) scope N' C s3 H3 fp pins) rfl rfl rfl hc i [] s5 _ H5 (bt X E C) I5 (stat fr5) st5 go) fun r s6 ⟨u,hr,h6⟩=>?_
   subst hr
   refine thn h6 fun _ s7 ⟨x,H7,I7,r7,y7,st7,fr7⟩=>?_
   have I7':=I7.pinned (stat fr7) (T.obj _ _ st7)
   refine thn (hg C s3 H3 fp pins _ s7 _ H7 x u _ I7' r7 (step x H7 y7)) fun _ s8 ⟨σ8,H8,I8,d8,q8⟩=>?_
   refine thn (ht C s3 H3 fp pins _ s8 σ8 H8 _ I8 q8) fun b s9 ⟨H9,I9,q9⟩=>?_
   have kz:∀ (j:Nat) v,(List.replicate k none++σ)[j]?=some (some v)->σ8[j]?=some (some v):=fun j v e=>by
    have hik:¬ j<k:=fun hlt=>by
     rw[tm (by rw[sQ]; exact hlt),List.getElem?_replicate] at e
     split at e <;> cases e
    rw[tf (by rw[sQ]; omega),sQ,<- d8,List.getElem?_drop] at e
    have:k+(j - k)=j:=by omega
    rw[this] at e; exact e
   have again:∀ {Hz:Hp}{sz:Shared}{zs:List V}{m':Nat},Inv (bF X (bt X E C) scope N' C s3 H3 fp pins) ([]++dg fp s7.heap) σ8 Hz sz->m'<n->W (i+1) m' zs Hz ->
     ∃ m,m<n/\∃ i ys H',Inv (bF X (bt X E C) scope N' C s3 H3 fp pins) [] (List.replicate k none++σ) H' sz/\tn i sz.heap/\(∀ b ∈ fp,H' b=none)/\W i m ys H':=fun {Hz sz zs m'} Iz hm wz=>by
    refine⟨m',hm,i+1,zs,Hz,(Iz.unpinned).weak ?_ kz,T.keep _ _ _ st7 fun b hb o e=>(Iz.pin (b,o) (sJ _ (sJ _ (aX hb e)))).1,fun b hb=>?_,wz⟩
    ·rw[Iz.len]; exact I5.len
    ·obtain⟨o,e,d⟩:=T.obj _ _ st7 b hb
     exact(Iz.pin (b,o) (sJ _ (sJ _ (aX hb e)))).2.1
   cases b with
   | false=>
    obtain⟨m',hm,w9⟩:=(show ∃ m',m'<n/\W (i+1) m' ys H9 by simpa using q9)
    rw[if_neg Bool.false_ne_true]
    exact again I9 hm w9
   | true=>
    rw[if_pos rfl] at q9 ⊢
    refine thn (he C s3 H3 fp pins bk _ s9 σ8 H9 _ I9 q9) fun u9 s10 ⟨y,H10,I10,r10,hz,hD10,m',hm,w10⟩=>?_
    refine thn (aR (X:=bF X (bt X E C) scope N' C s3 H3 fp pins) _ s10 σ8 H10 (.ref D) [y] (.ref D) [u9] (fun _ H'=>H'=upd H10 D (.lst (ys++[y]))) I10 rfl (.cons r10 .nil) ⟨D,ys,y,U,U,hD10,hz,U⟩) fun _ s11 ⟨_,H11,I11,_,e11⟩=>?_
    subst e11
    exact again I11 hm w10
 exact codeAny_compStart_list loop (T.self _ 0 _ _ _ st4 loop)
end
end L2
set_option maxHeartbeats 4000000
namespace P
open PySem L2
noncomputable def kq (c:Nat):Bool:=decide (48<=c) && decide (c<=57)
noncomputable def plB (z:Str):Bool:=z.cps.toList.all kq && (decide (z = "0") || (decide (z ≠ "") && decide (z.cps.toList[0]? ≠ some 48)))
theorem kT:∀ c:Nat,c<128->(!(!(Builtin.Str.occurrences ("0123456789" : Str) ⟨#[c]⟩ 0 ("0123456789" : Str).length 1).isEmpty)) = !kq c:=by decide +kernel
theorem iB {z:Str}{c:Nat} (h:c ∈ z.cps.toList) (hf:kq c=false):plB z=false:=by
 unfold plB
 rw[Bool.and_eq_false_iff]
 exact .inl (by rw[List.all_eq_false]; exact⟨c,h,by rw[hf]; decide⟩)
noncomputable def eL (c:Nat) (y:Str):Prop:=c ∉ y.cps.toList
theorem du {n:Int} (h0:0<=n) {c:Nat} (hc:c<48):eL c (nT n):=by
 obtain⟨m,rfl⟩:=Int.eq_ofNat_of_zero_le h0
 intro h
 have:=dy m c h
 omega
theorem rc {n:Int} (h:n.natAbs<=10 ^ 58):n.natAbs.log2<1920:=dR (Nat.lt_of_le_of_lt h (by decide))
theorem kP (m d:Nat) (h:m<10 ^ (d+1)):(nT (m:Int)).length<=d+1:=by
 have e:(nT (m:Int)).length=(nT (m:Int)).cps.toList.length:=by rw[Array.length_toList]; rfl
 rw[e,show(nT (m:Int)).cps.toList=_ from PySem.W.KIN.signs_num m,sI]
 have:=(Nat.length_toDigits_le_iff (b:=10) (n:=m) (k:=d+1) (by decide) (by omega)).mpr h
 exact this
theorem j8 {n:Int} (h0:0<=n) (h1:n.natAbs<=10 ^ 58):Asc 60 (nT n):=by
 obtain⟨m,rfl⟩:=Int.eq_ofNat_of_zero_le h0
 refine⟨Nat.le_trans (kP m 58 (by have:m<=10 ^ 58:=h1; omega)) (by decide),fun c hc=>?_⟩
 have:=dy m c hc
 omega
theorem q5 (m:Nat):plB (nT (m:Int))=true:=by
 have hd:=dy m
 have hne:=nk m
 have hhd:=@oZ m
 unfold plB
 rw[Bool.and_eq_true]
 refine⟨List.all_eq_true.mpr fun c hc=>?_,?_⟩
 ·have:=hd c hc
  unfold kq
  rw[Bool.and_eq_true]
  exact⟨decide_eq_true this.1,decide_eq_true this.2⟩
 ·rw[Bool.or_eq_true]
  by_cases h0:m=0
  ·subst h0; exact .inl (by decide +kernel)
  ·refine .inr ?_
   rw[Bool.and_eq_true]
   refine⟨decide_eq_true (fun e=>hne (by rw[e]; rfl)),decide_eq_true (fun e=>h0 (hhd e rfl))⟩
inductive sp_plain (vs:List V) (H:Hp) (Q:VK) (E_:XK):Prop
 | mk (z:Str) (_:vs=[.str z]) (_:Asc 100 z) (_:Q (.bl (plB z)) H):sp_plain vs H Q E_
inductive It54 where
 | n (k:Int)
 | b (z:Str)
noncomputable def It54.t:It54->Str
 | .n k=>nT k
 | .b z=>z
noncomputable def Wk (z:Str):Prop:=Asc 80 z/\eL 32 z/\eL 10 z
noncomputable def It54.ok:It54->Prop
 | .n k=>0<=k/\k.natAbs<=10 ^ 58
 | .b z=>plB z=false/\Wk z
theorem It54.wk {i:It54} (h:i.ok):Wk i.t:=by
 cases i with
 | n k=>exact⟨(j8 h.1 h.2).mono (by decide),du h.1 (by decide),du h.1 (by decide)⟩
 | b z=>exact h.2
noncomputable def mq (t:Adr):Sp:=fun vs H Q E=>∃ i:It54,vs=[.str i.t]/\i.ok/\(∀ k,i=.n k->Q (.int k) H)/\(∀ z,i=.b z->∀ a,E (.ref t.c_NoText) (some a) H)
noncomputable abbrev Ln:=Str×List It54
noncomputable def lT (l:Ln):Str:=Txt.join " " (l.1::l.2.map It54.t)
structure LnOk (l:Ln):Prop where
 w:Wk l.1
 i:∀ x ∈ l.2,x.ok
 n:l.2.length<=100
noncomputable def qo (t:Adr):Sp:=fun vs H Q E=>∃ (l:Ln) (L:Kn),vs=[.str (lT l)]/\Has H L/\LnOk l/\(∀ ns:List Int,l.2=ns.map It54.n->∀ H' p q,Has H' ((p,.tup [.str l.1,.ref q])::(q,.lst (ns.map V.int))::L)->Q (.ref p) H')/\((∃ z,It54.b z ∈ l.2)->∀ H' N a,Has H' (N++L)->E (.ref t.c_NoText) (some a) H')
theorem jy {l:Ln} (h:LnOk l):Txt.split (lT l) " " = l.1::l.2.map It54.t:=by
 show Txt.split (Builtin.Str.glued " " _) _=_
 rw[StrLaws.glued_eq_join]
 refine fJ (c:=32) (by simp) (fun x hx=>?_)
 rcases sR.mp hx with rfl | hx
 ·exact h.w.2.1
 ·obtain⟨n,hn',rfl⟩:=sZ.mp hx
  exact(It54.wk (h.i n hn')).2.1
theorem cX {sep:Str}{ys:List Str}{M:Nat} (h:∀ y ∈ ys,y.length<=M):(Txt.join sep ys).length<=ys.length*(M+sep.length):=by
 show(Builtin.Str.glued sep ys).length<=_
 rw[StrLaws.glued_eq_join]
 refine Nat.le_trans (StrLaws.join_length_le sep ys) ?_
 have:(ys.map (·.length)).sum<=ys.length*M:=by
  induction ys with
  | nil=>simp
  | cons a r ih=>
   rw[sX,List.sum_cons,sT,Nat.succ_mul]
   have:=h a sM
   have:=ih fun y hy=>h y (sH _ hy)
   omega
 rw[Nat.mul_add]
 omega
theorem fX {l:Ln} (h:LnOk l):∀ x ∈ l.1::l.2.map It54.t,Wk x:=fun x hx=>by
 rcases sR.mp hx with rfl | hx
 ·exact h.w
 ·obtain⟨n,hn',rfl⟩:=sZ.mp hx
  exact It54.wk (h.i n hn')
theorem iF {l:Ln} (h:LnOk l):(lT l).length<=8181:=by
 refine Nat.le_trans (cX (M:=80) fun y hy=>(fX h y hy).1.1) ?_
 have:=h.n
 rw[sT,sI,show(Str.ofString " ").length=1 from rfl]
 omega
section
variable {P:Program}{w:World}{K:PySem.W.Frag}{mg:Str->Option Value}{base:Heap}{t:Adr}
theorem scIp:FnScope ["word","sign"] ["word"] (ac iT):={}
theorem ok_Jp (T:Txt K mg t):FnOk P w K mg base CX0 1 t.f_Jp t.d_Jp ["word"] sp_plain:=by
 refine T.F_Jp.ok scIp (fun vs H Q E h=>?_) (fun cdv A outer s H vs Q E hr h=>?_)
 ·obtain⟨_,rfl,_⟩:=h
  rfl
 ·obtain⟨z,rfl,ha,q⟩:=h
  refine⟨_,(af (bv PassesOwn.never rfl (qE (pv 0)) (az (i:=1) scIp.nd rfl (Or.inl rfl))
    (ag (aD (ap dW (pv 1) (aM (by rfl) T.g_FIGURES T.r_FIGURES) (by rfl))
      (ag (aJ gQ))
      ax)))
   (ag (aJ (pe_or (bZ aZ (pv 0) ah (ar _)) (fQ (iC (bZ gR (pv 0) ah (ar _)) (fQ (bZ gR (aA rz (pv 0) ae) ah (ar _))))))))),?_⟩
  have asc:z.cps.all (· < 128)=true:=by
   rw[<- Array.all_toList,List.all_eq_true]
   intro c hc
   exact decide_eq_true (ha.2 c hc)
  refine⟨_,U,z,U,asc,pj (fun i σ H'=>∃ o:Option V,σ=[some (.str z),o]/\H'=H/\∀ k,k<i->∀ c,z.cps[k]?=some c->kq c=true) ⟨_,U,U,fun k hk=>absurd hk (Nat.not_lt_zero _)⟩ ?_ ?_⟩
  ·rintro i c σ H' hc ⟨o,rfl,rfl,ok⟩
   have hm:c ∈ z.cps.toList:=sL (by rw[Array.getElem?_toList]; exact hc)
   refine⟨_,U,_,_,U,U,_,U,?_⟩
   cases hf:kq c with
   | true=>
    refine ifF (by rw[kT c (ha.2 c hm),hf]; rfl) ⟨_,U,U,fun k hk d hd=>?_⟩
    by_cases e:k=i
    ·subst e; rw[hc] at hd; cases hd; exact hf
    ·exact ok k (by omega) d hd
   | false=>
    refine ifT (by rw[kT c (ha.2 c hm),hf]; rfl) ?_
    rw[iB hm hf] at q
    exact q
  ·rintro σ H' ⟨o,rfl,rfl,ok⟩
   have all:z.cps.toList.all kq=true:=List.all_eq_true.mpr fun c hc=>by
    obtain⟨k,hk,e⟩:=List.mem_iff_getElem.mp hc
    have hk':k<z.cps.size:=by rw[<- Array.length_toList]; exact hk
    exact ok k hk' c (by rw[<- Array.getElem?_toList,sK hk,e])
   have decS:∀ x y:Str,decide (V.str x=V.str y)=decide (x=y):=fun x y=>by by_cases h:x=y <;> simp[h]
   unfold plB at q
   rw[all,Bool.true_and] at q
   refine⟨_,U,U,_,U,?_⟩
   rw[decS]
   refine ifd (fun e0=>?_) (fun e0=>?_)
   ·rw[decide_eq_true e0,Bool.true_or] at q
    exact q
   rw[decide_eq_false e0,Bool.false_or] at q
   refine⟨_,U,U,_,U,?_⟩
   rw[decS]
   by_cases e1:z = ""
   ·refine ifF (by rw[decide_eq_true e1]; rfl) ?_
    rw[decide_eq_false (fun h=>h e1),Bool.false_and] at q
    exact q
   refine ifT (by rw[decide_eq_false e1]; rfl) ?_
   rw[decide_eq_true e1,Bool.true_and] at q
   have hpos:0<z.cps.toList.length:=List.length_pos_iff.mpr (fun e=>e1 (by
    cases z with
    | mk cps=>
     have:cps = #[]:=by cases cps; simp at e; rw[e]
     rw[this]; rfl))
   obtain⟨c,hc⟩:∃ c,z.cps.toList[0]?=some c:=⟨_,sK hpos⟩
   have lz:z.length<=sizeLine:=Nat.le_trans ha.1 ((sz_ 100))
   refine⟨_,U,z,0,c,U,U,lz,aH (j:=0) hc,U,?_⟩
   rw[decS]
   rw[hc] at q
   have e2:(!decide ((⟨#[c]⟩:Str) = "0"))=decide (some c≠some 48):=by
    by_cases c48:c=48
    ·subst c48; rw[decide_eq_true (by rfl),decide_eq_false (by simp)]; rfl
    ·rw[decide_eq_false (fun e=>c48 (by injection e with e; injection e with e; injection e)),decide_eq_true (by simpa using c48)]; rfl
   rw[<- e2] at q
   exact q
theorem scRn:FnScope ["word"] ["word"] (ac iZ):={}
theorem qS (T:Txt K mg t):FnOk P w K mg base (CXr P w) 2 t.f_Jh t.d_Jh ["word"] (mq t):=by
 refine T.F_Jh.okR scRn (fun vs H Q E h=>?_) (fun cdv A outer s H vs Q E hr h=>?_)
 ·obtain⟨_,rfl,_⟩:=h
  rfl
 ·obtain⟨i,rfl,ok,qg,qb⟩:=h
  refine⟨_,(af (aD (df (eh (pcl (ok_Jp T) hr T.m_Jp T.F_Jp.kp (b_Jp T) (aa (pv 0) ad))))
    (ag (aY bo rfl (by rfl) T.m_NoText (aW T.x_NoText) (bc (aK ah (aK (kM (pv 0)) bU)))))
    ax)
   (ag (aJ (aO gu (by rfl) T.z_int (by rfl) (aa (pv 0) ad))))),?_⟩
  have wk:=It54.wk ok
  refine⟨_,U,i.t,U,wk.1.mono (by decide),_,U,?_⟩
  cases i with
  | n k=>
   obtain⟨m,rfl⟩:=Int.eq_ofNat_of_zero_le ok.1
   have lm:(nT (m:Int)).length<=640:=Nat.le_trans wk.1.1 (by decide)
   rw[show It54.t (.n (m:Int))=nT (m:Int) from rfl,q5 m]
   refine dM ?_
   exact⟨_,U,nT (m:Int),(m:Int),U,nj lm,lm,qg _ rfl⟩
  | b z=>
   rw[show It54.t (.b z)=z from rfl,show plB z=false from ok.1]
   refine cY ?_
   exact rzR rfl (Nat.le_trans wk.1.repr (by decide)) (fun e=>qb z rfl e)
theorem scRl:FnScope ["line","words"] ["line"] (ac ip):={}
theorem qO (T:Txt K mg t):FnOk P w K mg base (CXr P w) 3 t.f_Jn t.d_Jn ["line"] (qo t):=by
 refine T.F_Jn.okR scRl (fun vs H Q E h=>?_) (fun cdv A outer s H vs Q E hr h=>?_)
 ·obtain⟨_,_,rfl,_⟩:=h
  rfl
 ·obtain⟨⟨y,its⟩,L,rfl,hH,ok,qg,qb⟩:=h
  refine⟨_,(af (aC (i:=1) scRl.nd rfl (Or.inl rfl) (bf PySem.F.plainAttrs_str PySem.F.slot_str_split PySem.F.type_str_split dY (pv 0) (aa ah ad)))
   (ag (aJ (aF (aa (aA au (pv 1) ae) (aa (qI (E:=E) (esc:=ac ip) (k:=1) ["word","line","words"] rfl rfl rfl (fun _ _ h=>h _) rfl (bh (bG dq (pv 1) (bX ae) bY)) (fun _ _ _ _ _=>by exact(az (i:=0) (show List.Nodup (["word","line","words"]:List Str) from by decide +kernel) rfl (Or.inl rfl))) (fun _ _ _ _ _=>by exact bB) (fun _ _ _ _ _ bk=>by exact(bu (qS T) (hr.mono (by decide)) (by rfl) T.m_Jh T.F_Jh.kp (b_Jh T) .nil (pL bk) (aa (pv 0) ad))) rfl (by decide +kernel) (by decide +kernel) rfl (by decide +kernel) (by rfl) (fun _ _ h _=>h) (by decide +kernel)) ad)))))),?_⟩
  have es:=jy ok
  have hn:=ok.n
  dsimp only at es hn qg qb
  refine⟨_,U,U,lT (y,its),_,U,U,U,Nat.le_trans (iF ok) ((sz_ 8181)),?_,fun l hl=>?_⟩
  ·rw[es,sT,sI]
   exact sz (by omega)
  rw[es]
  have h1:=hH.alloc hl (.lst ((y::its.map It54.t).map V.str))
  refine⟨_,U,l,_,_,_,U,U,SqL.of (h1.get 0 U),aH (j:=0) rfl,?_⟩
  refine⟨_,U,_,U,l,_,U,SqL.of (h1.get 0 U),fun l2 hl2=>?_⟩
  have ecut:bQ ((y::its.map It54.t).map V.str) (some 1) none=its.map fun i=>V.str i.t:=by
   simp only[bQ,HT.sIx,sX,sT,sI]
   simp
   rw[List.take_of_length_le (by simp)]
   rfl
  rw[ecut]
  have h2:=h1.alloc hl2 (.lst (its.map fun i=>V.str i.t))
  refine⟨l2,U,⟨_,SqL.of (h2.get 0 U)⟩,fun D hD=>?_⟩
  refine⟨fun n m zs H'=>∃ ks:List Int,m=its.length - n/\n<=its.length/\zs=ks.map V.int/\its.take n=ks.map It54.n/\Has H' ((D,.lst zs)::(l2,.lst (its.map fun i=>V.str i.t))::(l,.lst ((y::its.map It54.t).map V.str))::L),⟨_,[],U,Nat.zero_le _,U,U,h2.alloc hD _⟩,?_⟩
  rintro n m zs H3 ⟨ks,rfl,hn2,rfl,et,h3⟩
  refine⟨h3.get 0 U,?_⟩
  have lk:ks.length=n:=by
   have:=congrArg List.length et
   rw[tx,sI] at this
   omega
  by_cases hlt:n<its.length
  ·have hx0:(its.map fun i=>V.str i.t)[n]?=some (.str its[n].t):=by rw[sN,sK hlt]; rfl
   refine .inr ⟨⟨_,_,SqL.of (h3.get 1 U),hx0⟩,?_⟩
   rintro x H4 ⟨rfl,hx⟩
   have e1:=hx _ (SqL.of (h3.get 1 U))
   rw[hx0] at e1
   cases e1
   refine⟨U,bS ?_⟩
   refine⟨_,U,its[n],U,ok.i _ (List.getElem_mem hlt),fun k ek=>?_,fun z ez a=>?_⟩
   ·refine⟨sizeOk (by rw[sI]; omega),h3.get 0 U,its.length - (n+1),by omega,ks++[k],U,hlt,by rw[sP]; rfl,?_,h3.puti 0 U _⟩
    rw[List.take_succ,sK hlt,et,sP,ek]
    rfl
   ·exact qb ⟨z,by rw[<- ez]; exact List.getElem_mem hlt⟩ _ [_,_,_] a h3
  ·refine .inl ⟨⟨_,SqL.of (h3.get 1 U),by rw[sI]; omega⟩,?_⟩
   have en:n=its.length:=by omega
   rw[en,List.take_length] at et
   refine⟨(sz_ 2),fun p hp=>?_⟩
   have h4:=h3.alloc hp (.tup [.str y,.ref D])
   exact qg ks et _ p D (h4.sub (by
    refine .cons_cons _ (.cons_cons _ ?_)
    exact .cons _ (.cons _ (List.Sublist.refl _))))
end
noncomputable def iO (l:Ln) (j:Nat):Prop:=¬ (l.1 = "stretch" /\ l.2=[])/\(j=0∨∀ x:Rw,¬ (x.ws=l.1/\x.ns.length=l.2.length))
noncomputable def xT (ls:List Ln):Str:=Txt.join "\n" (ls.map lT)
structure LsOk (ls:List Ln):Prop where
 l:∀ l ∈ ls,LnOk l
 n:ls.length<=400
 ne:ls≠[]
noncomputable def kI (ls:List Ln):Prop:=(∃ l ∈ ls,∃ z,It54.b z ∈ l.2)∨(ls.take 2).map (·.1)≠(["marks","widths"]:List Str)∨∃ j l,(ls.drop 2)[j]?=some l/\iO l j
noncomputable def ssR (ss:Ss):List (List Rw):=ss.map fun z=>z.2.map (·.2)
inductive Tk where
 | st
 | rw (x:Rw)
noncomputable def Tk.w:Tk->Str
 | .st => "stretch"
 | .rw x=>x.ws
noncomputable def Tk.n:Tk->List Int
 | .st=>[]
 | .rw x=>x.ns
noncomputable def Tk.l (t:Tk):Ln:=(t.w,t.n.map It54.n)
noncomputable def tks (ss:List (List Rw)):List Tk:=ss.flatMap fun rs=>Tk.st::rs.map Tk.rw
noncomputable def gL (ms ws:List Int) (ss:List (List Rw)):List Ln:=("marks",ms.map It54.n)::("widths",ws.map It54.n)::(tks ss).map Tk.l
noncomputable def stp (acc:List (List Rw)):Tk->List (List Rw)
 | .st=>acc++[[]]
 | .rw x=>acc.dropLast++[(acc.getLast?.getD [])++[x]]
theorem jS (acc:List (List Rw)) (r:List Rw) (x:Rw):stp (acc++[r]) (.rw x)=acc++[r++[x]]:=by simp[stp]
theorem oq {acc:List (List Rw)} (h:acc≠[]∨t=Tk.st):tks (stp acc t)=tks acc++[t]:=by
 cases t with
 | st=>unfold stp tks; rw[List.flatMap_append]; rfl
 | rw x=>
  have ne:acc≠[]:=h.elim id (fun e=>nomatch e)
  obtain⟨a,r,rfl⟩:∃ a r,acc=a++[r]:=⟨_,_,(List.dropLast_concat_getLast ne).symm⟩
  rw[jS]
  unfold tks
  rw[List.flatMap_append,List.flatMap_append]
  simp
theorem rw_of (y:Str) (ns:List Int):(∃ x:Rw,x.ws=y/\x.ns=ns)∨(∀ x:Rw,¬ (x.ws=y/\x.ns.length=ns.length)):=by
 by_cases h:∃ x:Rw,x.ws=y/\x.ns.length=ns.length
 ·left
  obtain⟨x,rfl,e⟩:=h
  cases x <;> simp only[Rw.ns,sT,List.length_nil] at e
  case bell=>match ns,e with | [a],_=>exact⟨.bell a,U,U⟩
  case set=>match ns,e with | [a,b],_=>exact⟨.set a b,U,U⟩
  case ask=>match ns,e with | [a,b,c],_=>exact⟨.ask a b c,U,U⟩
  case bump=>match ns,e with | [a,b],_=>exact⟨.bump a b,U,U⟩
  case go=>match ns,e with | [a],_=>exact⟨.go a,U,U⟩
  case call=>match ns,e with | [a],_=>exact⟨.call a,U,U⟩
  case fin=>match ns,e with | [],_=>exact⟨.fin,U,U⟩
 ·right
  intro x hx
  exact h ⟨x,hx⟩
theorem mW {y : Str}{ps : List Str} (h : partsD.lookup y=some ps) : ∃ x : Rw, x.ws=y/\x.ns.length=ps.length := by
  unfold partsD at h
  simp only[tD, List.lookup_nil] at h
  repeat' split at h
  all_goals first
    | (cases h; done)
    | skip
  all_goals rename_i c
  all_goals cases h
  all_goals have c := beq_iff_eq.mp c
  · exact⟨.bell 0, c.symm, rfl⟩
  · exact⟨.set 0 0, c.symm, rfl⟩
  · exact⟨.ask 0 0 0, c.symm, rfl⟩
  · exact⟨.bump 0 0, c.symm, rfl⟩
  · exact⟨.go 0, c.symm, rfl⟩
  · exact⟨.call 0, c.symm, rfl⟩
  · exact⟨.fin, c.symm, rfl⟩
theorem jN {k : Str}{ss : List Str} : ∀ {D : List (Str×List Str)}, D.lookup k=some ss->(!(D.any fun p=>decide (k=p.1)))=false
  | [], h=>by cases h
  | (x, d) :: D, h => by
    rw[tD] at h
    rw[List.any_cons]
    by_cases e : k=x
    · rw[decide_eq_true e]; rfl
    · rw[beq_eq_false_iff_ne.mpr e] at h
      rw[decide_eq_false e, Bool.false_or]
      exact jN h
theorem jM {k : Str} : ∀ {D : List (Str×List Str)}, D.lookup k=none->(!(D.any fun p=>decide (k=p.1)))=true
  | [], _=>rfl
  | (x, d) :: D, h => by
    rw[tD] at h
    rw[List.any_cons]
    by_cases e : k=x
    · rw[beq_iff_eq.mpr e] at h; cases h
    · rw[beq_eq_false_iff_ne.mpr e] at h
      rw[decide_eq_false e, Bool.false_or]
      exact jM h
theorem pc {y:Str} (h:partsD.lookup y=none) (x:Rw):x.ws≠y:=fun e=>by
 rw[<- e,x.parts] at h
 cases h
noncomputable def lj (t:Adr):Sp:=fun vs H Q E=>∃ (y:Str) (ns:List Int) (l:Addr) (L:Kn),vs=[.str y,.ref l]/\Has H L/\(l,HO.lst (ns.map V.int)) ∈ L/\Wk y/\ns.length<=100/\(∀ x:Rw,x.ws=y->x.ns=ns->∀ H' p,Has H' ((p,.tup x.v)::L)->Q (.ref p) H')/\((∀ x:Rw,¬ (x.ws=y/\x.ns.length=ns.length))->∀ H' N a,Has H' (N++L)->E (.ref t.c_NoText) (some a) H')
section
variable {E:XK}{C:Addr}{D:Ends}{σ:St}{H:Hp}{x x1 x2 y:Str}{i:Nat}{n:Int}{te:TE}
theorem rW (hv:σ[i]?=some (some (.str y))) (hy:(reprText y).length<=1000) (hw:∀ Q:VK,Q (.int n) H->te σ H Q) (hn:cF n) (q:∀ e,E (.ref C) (some e) H) (hx:x.length<=1000:=by decide +kernel) (hx1:x1.length<=1000:=by decide +kernel) (hx2:x2.length<=1000:=by decide +kernel) :
  dI E C (fun σ H Q=>tJ1 (tC (.str x)) (tJ1 (l9 (fF i)) (tJ1 (tC (.str x1)) (tJ1 (lg te) (tJ1 (tC (.str x2)) tJ0)))) Str.empty σ H Q) D σ H:=by
 have l1:=dA dm hx
 have l2:=dA l1 hy
 have l3:=dA l2 hx1
 have l4:=dA l3 (dc hn)
 have l5:=dA l4 hx2
 exact⟨x,U,aN (by omega),.str y,hv,y,U,aN (by omega),_,U,aN (by omega),_,U,aN (by omega),hw _ (.inr ⟨n,U,hn,_,U,aN (by omega),_,U,aN (by omega),aN (by omega),q⟩)⟩
end
section
variable {P:Program}{w:World}{K:PySem.W.Frag}{mg:Str->Option Value}{base:Heap}{t:Adr}
theorem scRo:FnScope ["word","numbers"] ["word","numbers"] (ac iS):={}
theorem qM (T:Txt K mg t):FnOk P w K mg base (CXr P w) 1 t.f_Ju t.d_Ju ["word","numbers"] (lj t):=by
 refine T.F_Ju.okR scRo (fun vs H Q E h=>?_) (fun cdv A outer s H vs Q E hr h=>?_)
 ·obtain⟨_,_,_,_,rfl,_⟩:=h
  rfl
 ·obtain⟨y,ns,l,L,rfl,hH,ml,wk,hn,qg,qb⟩:=h
  obtain⟨aE,eE,hE⟩:=T.x_PARTS
  have T_r_PARTS:RelV (.ref aE) t.u_PARTS:=by rw[eE]; rfl
  refine⟨_,(af (aD (PW.pt (dB (ap j5 (pv 0) (aM (by rfl) T.g_PARTS T_r_PARTS) (by rfl)) (cG (ap gR (aq av (by rfl) T.z_len (by rfl) (aa (pv 1) ad)) (aq av (by rfl) T.z_len (by rfl) (aa (mT (aM (by rfl) T.g_PARTS T_r_PARTS) (pv 0) (fun _ _=>rfl)) ad)) (ar _)))))
    (ag (aY bo rfl (by rfl) T.m_NoText (aW T.x_NoText) (bc (aK ah (aK (kM (pv 0)) (aK ah (aK (bV (aq av (by rfl) T.z_len (by rfl) (aa (pv 1) ad))) (aK ah bU))))))))
    ax)
   (ag (aJ (aO dG (by rfl) T.z_tuple (by rfl) (aa (ak dt (aV (aa (pv 0) ad)) (pv 1)) ad))))),?_⟩
  have gl:∀ {H':Hp}{X:Kn},Has H' (X++L)->H' l=some (.lst (ns.map V.int)):=fun h=>h.at_ (l,_) (sJ _ ml)
  have lnl:(ns.map V.int).length=ns.length:=sI ..
  have bad:∀ {H':Hp}{N:Kn}{D:Ends}{x x1 x2:Str},Has H' (N++L)->(∀ x:Rw,¬ (x.ws=y/\x.ns.length=ns.length))->x.length<=1000->x1.length<=1000->x2.length<=1000->True:=fun _ _ _ _ _=>trivial
  refine⟨_,U,_,aE,_,U,U,hE,_,U,?_⟩
  cases hl:partsD.lookup y with
  | none=>
   refine ifT (jM hl) ?_
   refine rW (D:=⟨fun _ _=>False,fun _ _=>False,fun _ _=>False,fun _ _=>False⟩) rfl (Nat.le_trans wk.1.repr (by decide)) (n:=ns.length) (fun Q q=>⟨_,U,l,_,U,.inl (SqL.of (gl (X:=[]) hH)),by rw[lnl]; exact q⟩) (dR (Nat.lt_of_le_of_lt (show((ns.length:Nat):Int).natAbs<=100 by omega) (by decide))) (fun e=>qb (fun x hx=>pc hl x hx.1) _ [] e hH)
  | some ps=>
   obtain⟨x0,rfl,lx⟩:=mW hl
   have psl:ps.length<=1000:=by rw[<- lx]; have:=x0.nsl; omega
   refine ifF (jN hl) ?_
   refine⟨_,U,l,_,U,.inl (SqL.of (gl (X:=[]) hH)),_,U,_,aE,_,ps,U,U,hE,hl,psl,fun b hb=>?_⟩
   refine⟨b,_,U,.inr (hb _),U,_,U,?_⟩
   rw[bb,sI,sI]
   by_cases c:ns.length=ps.length
   ·refine ifF (by rw[decide_eq_true (by omega)]; rfl) ?_
    rcases rw_of x0.ws ns with ⟨x,e1,e2⟩ | no
    ·refine⟨_,U,(sz_ 1),fun l1 hl1=>?_⟩
     have h1:=hH.alloc hl1 (.lst [.str x0.ws])
     refine⟨_,U,l1,l,_,_,U,U,SqL.of (h1.get 0 U),SqL.of (gl (X:=[_]) h1),(by rw[lnl]; exact sz (show [V.str x0.ws].length+ns.length<=1000000 by simp; omega)),fun l2 hl2=>?_⟩
     have h2:=h1.alloc hl2 (.lst ([.str x0.ws]++ns.map V.int))
     refine⟨l2,_,U,.inl ⟨SqL.of (h2.get 0 U),fun p hp=>?_⟩⟩
     have h3:=h2.alloc hp (.tup ([.str x0.ws]++ns.map V.int))
     have ev:x.v=[.str x0.ws]++ns.map V.int:=by rw[Rw.v_eq,e1,e2]; rfl
     rw[<- ev] at h3 ⊢
     exact qg x e1 e2 _ p (h3.sub (.cons_cons _ (.cons _ (.cons _ (List.Sublist.refl _)))))
    ·exact absurd ⟨U,by omega⟩ (no x0)
   ·refine ifT (by rw[decide_eq_false (by omega)]; rfl) ?_
    refine rW (D:=⟨fun _ _=>False,fun _ _=>False,fun _ _=>False,fun _ _=>False⟩) rfl (Nat.le_trans wk.1.repr (by decide)) (n:=ns.length) (fun Q q=>⟨_,U,l,_,U,.inl (SqL.of (gl (X:=[]) hH)),by rw[lnl]; exact q⟩) (dR (Nat.lt_of_le_of_lt (show((ns.length:Nat):Int).natAbs<=100 by omega) (by decide))) (fun e=>qb (fun x hx=>?_) _ [] e hH)
    have e3:=x.len
    have e4:=x.parts
    rw[hx.1,hl] at e4
    cases e4
    omega
end
theorem jE (a b:List Str):PyData.eqv (bw a) (bw b)=decide (a=b):=by
 unfold bw
 rw[PyData.eqv]
 induction a generalizing b with
 | nil=>cases b <;> simp[PyData.eqvAll]
 | cons x xs ih=>
  cases b with
  | nil=>simp[PyData.eqvAll]
  | cons y ys=>
   simp only[sX,PyData.eqvAll,ih,PyData.eqv]
   by_cases h:x=y
   ·subst h; simp
   ·have:(x == y)=false:=beq_eq_false_iff_ne.mpr h
    rw[this,Bool.false_and]
    exact(decide_eq_false (fun e=>h (List.cons.inj e).1)).symm
theorem nA (a:List Str) (h:∀ y ∈ a,PyData.strOk y=true):(bw a).canLay0=true:=by
 unfold bw
 rw[PyData.canLay0]
 induction a with
 | nil=>rfl
 | cons x xs ih=>
  rw[sX,PyData.canLayAll0,ih fun y hy=>h y (sH _ hy)]
  simp[PyData.canLay0,h x sM]
theorem kB (a:List Str) (h:∀ y ∈ a,PyData.strOk y=true):SeqAt.shaped (bw a)=true:=by
 refine ee (nA a h) ?_
 unfold bw
 rw[PyData.depth]
 have:PyData.depthAll (a.map PyData.str)=0:=by
  clear h
  induction a with
  | nil=>rfl
  | cons x xs ih=>rw[sX,PyData.depthAll,ih]; simp[PyData.depth]
 rw[this]; decide
theorem gU {c:Nat}{sep:Str} (hs:eL c sep):∀ {ys:List Str},(∀ y ∈ ys,eL c y)->eL c (Str.join sep ys)
 | [],_=>by
  show c ∉ (Str.join sep []).cps.toList
  intro h
  cases h
 | [y],h=>h y sM
 | y::z::r,h=>by
  show c ∉ (y++sep++Str.join sep (z::r)).cps.toList
  rw[Str.appL,Str.appL]
  intro m
  rcases sY.mp m with m | m
  ·rcases sY.mp m with m | m
   ·exact h y sM m
   ·exact hs m
  ·exact gU hs (fun x hx=>h x (sH _ hx)) m
structure LnA where
 p:Addr
 l:Addr
 w:Str
 n:List Int
structure LnIn (zs:List LnA) (L:Kn):Prop where
 p:∀ z ∈ zs,(z.p,HO.tup [.str z.w,.ref z.l]) ∈ L
 l:∀ z ∈ zs,(z.l,HO.lst (z.n.map V.int)) ∈ L
theorem LnIn.mono {zs:List LnA}{L L':Kn} (h:LnIn zs L) (s:∀ z ∈ L,z ∈ L'):LnIn zs L':=⟨fun z hz=>s _ (h.p z hz),fun z hz=>s _ (h.l z hz)⟩
noncomputable def RdH (sl:Addr) (sd:Ss) (R:Kn) (H:Hp):Prop:=∃ N,(∀ z ∈ sd,∀ x ∈ z.2,(x.1,HO.tup x.2.v) ∈ N)/\((sd=[]/\Has H ((sl,.lst [])::(N++R)))∨(∃ s0 r rs,sd=s0++[(r,rs)]/\(∀ z ∈ s0,(z.1,HO.lst (rwV z.2)) ∈ N)/\Has H ((sl,.lst (ssV s0++[.ref r]))::(r,.lst (rwV rs))::(N++R))))
theorem fI (s0:Ss) (r:Addr) (rs:List (Addr×Rw)):ssV (s0++[(r,rs)])=ssV s0++[.ref r]:=by unfold ssV; rw[sP]; rfl
theorem my (rs:List (Addr×Rw)) (x:Addr×Rw):rwV (rs++[x])=rwV rs++[.ref x.1]:=by unfold rwV; rw[sP]; rfl
variable{H:Hp}
theorem RdH.at_ {sl:Addr}{sd:Ss}{R:Kn} (h:RdH sl sd R H) {z:Addr×HO} (m:z ∈ R):H z.1=some z.2:=by
 obtain⟨N,_,h | ⟨s0,r,rs,_,_,h⟩⟩:=h
 ·exact h.2.at_ _ (by simp[m])
 ·exact h.at_ _ (by simp[m])
theorem RdH.sl {sl:Addr}{sd:Ss}{R:Kn} (h:RdH sl sd R H):H sl=some (.lst (ssV sd)):=by
 obtain⟨N,_,h | ⟨s0,r,rs,e,_,h⟩⟩:=h
 ·rw[h.1]; exact h.2.get 0 rfl
 ·rw[e,fI]; exact h.get 0 rfl
theorem RdH.st {sl:Addr}{sd:Ss}{R:Kn} (h:RdH sl sd R H) {r2:Addr} (hr:H r2=none):RdH sl (sd++[(r2,[])]) R (upd (upd H r2 (.lst [])) sl (.lst (ssV sd++[.ref r2]))):=by
 obtain⟨N,hN,h | ⟨s0,r,rs,e,h0,h⟩⟩:=h
 ·obtain⟨rfl,h⟩:=h
  refine⟨N,fun z hz=>by cases sO.mp hz; simp,.inr ⟨[],r2,[],U,by simp,?_⟩⟩
  exact((h.alloc hr (.lst [])).puti 1 U (.lst [.ref r2])).swap2
 ·refine⟨(r,.lst (rwV rs))::N,fun z hz x hx=>?_,.inr ⟨sd,r2,[],U,fun z hz=>?_,?_⟩⟩
  ·rcases sY.mp hz with hz | hz
   ·exact sH _ (hN z hz x hx)
   ·cases sO.mp hz
    exact absurd hx (by simp)
  ·rw[e] at hz
   rcases sY.mp hz with hz | hz
   ·exact sH _ (h0 z hz)
   ·cases sO.mp hz
    exact sM
  ·exact((h.alloc hr (.lst [])).puti 1 U (.lst (ssV sd++[.ref r2]))).swap2
variable{rs:List (Addr×Rw)}
theorem RdH.row {sl:Addr}{s0:Ss}{r:Addr}{N R:Kn}{p:Addr}{x:Rw} (hN:∀ z ∈ s0++[(r,rs)],∀ x ∈ z.2,(x.1,HO.tup x.2.v) ∈ N) (h0:∀ z ∈ s0,(z.1,HO.lst (rwV z.2)) ∈ N)
  (h:Has H ((p,.tup x.v)::(sl,.lst (ssV s0++[.ref r]))::(r,.lst (rwV rs))::(N++R))):RdH sl (s0++[(r,rs++[(p,x)])]) R (upd H r (.lst (rwV rs++[.ref p]))):=by
 refine⟨(p,.tup x.v)::N,fun z hz y hy=>?_,.inr ⟨s0,r,rs++[(p,x)],U,fun z hz=>sH _ (h0 z hz),?_⟩⟩
 ·rcases sY.mp hz with hz | hz
  ·exact sH _ (hN z (sV _ hz) y hy)
  ·cases sO.mp hz
   rcases sY.mp hy with hy | hy
   ·exact sH _ (hN _ (sJ _ sM) y hy)
   ·cases sO.mp hy
    exact sM
 ·rw[my]
  have h1:=h.puti 2 U (.lst (rwV rs++[.ref p]))
  exact eJ (eJ h1 2 rfl) 2 rfl
theorem RdH.fin {sl:Addr}{sd:Ss}{R:Kn} (h:RdH sl sd R H):∃ N,(∀ z ∈ sd,(z.1,HO.lst (rwV z.2)) ∈ N)/\(∀ z ∈ sd,∀ x ∈ z.2,(x.1,HO.tup x.2.v) ∈ N)/\Has H ((sl,.lst (ssV sd))::(N++R)):=by
 obtain⟨N,hN,h | ⟨s0,r,rs,e,h0,h⟩⟩:=h
 ·obtain⟨rfl,h⟩:=h
  exact⟨N,by simp,hN,h⟩
 ·subst e
  refine⟨(r,.lst (rwV rs))::N,fun z hz=>?_,fun z hz x hx=>sH _ (hN z hz x hx),by rw[fI]; exact h⟩
  rcases sY.mp hz with hz | hz
  ·exact sH _ (h0 z hz)
  ·cases sO.mp hz
   exact sM
theorem Rw.nst:∀ (x:Rw),decide (V.str x.ws=V.str "stretch")=false
 | .bell _=>(by decide +kernel:decide (V.str ("bell" : Str)=V.str "stretch")=false)
 | .set _ _=>(by decide +kernel:decide (V.str ("set" : Str)=V.str "stretch")=false)
 | .ask _ _ _=>(by decide +kernel:decide (V.str ("ask" : Str)=V.str "stretch")=false)
 | .bump _ _=>(by decide +kernel:decide (V.str ("bump" : Str)=V.str "stretch")=false)
 | .go _=>(by decide +kernel:decide (V.str ("go" : Str)=V.str "stretch")=false)
 | .call _=>(by decide +kernel:decide (V.str ("call" : Str)=V.str "stretch")=false)
 | .fin=>(by decide +kernel:decide (V.str ("end" : Str)=V.str "stretch")=false)
theorem iQ {α:Type}{l:List α}{i:Nat}{x:α} (h:l[i]?=some x):l.take (i+1)=l.take i++[x]:=by rw[List.take_succ,h]; rfl
theorem Wk.ok {z:Str} (h:Wk z):PyData.strOk z=true:=by
 unfold PyData.strOk
 rw[<- Array.all_toList,List.all_eq_true]
 intro c hc
 have:=h.1.2 c hc
 exact decide_eq_true (by omega)
theorem pe {l:Ln} (h:LnOk l):eL 10 (lT l):=by
 show eL 10 (Builtin.Str.glued " " _)
 rw[StrLaws.glued_eq_join]
 exact gU (by unfold eL; decide +kernel) (fun x hx=>(fX h x hx).2.2)
variable{ls:List Ln}
theorem iP (h:LsOk ls):Txt.split (xT ls) "\n" = ls.map lT:=by
 show Txt.split (Builtin.Str.glued "\n" (ls.map lT)) _=_
 rw[StrLaws.glued_eq_join]
 refine fJ (c:=10) (by have:=h.ne; cases ls <;> simp_all) (fun x hx=>?_)
 obtain⟨l,hl,rfl⟩:=sZ.mp hx
 exact pe (h.l l hl)
theorem jO (h:LsOk ls):(xT ls).length<=3300000:=by
 refine Nat.le_trans (cX (M:=8181) fun y hy=>?_) ?_
 ·obtain⟨l,hl,rfl⟩:=sZ.mp hy
  exact iF (h.l l hl)
 ·have:=h.n
  rw[sI,show(Str.ofString "\n").length=1 from rfl]
  omega
theorem ou {n:Nat} (h:n<=3300000):n<=sizeLine:=Nat.le_trans h (by decide)
noncomputable def LnA.l' (z:LnA):Ln:=(z.w,z.n.map It54.n)
noncomputable def mj (t:Adr):Sp:=fun vs H Q E=>∃ (ls:List Ln) (L:Kn),vs=[.str (xT ls)]/\Has H L/\LsOk ls/\(kI ls->∀ H' N a,Has H' (N++L)->E (.ref t.c_NoText) (some a) H') /\
 (∀ ms ws ss,ls=gL ms ws ss->∀ sd:Ss,ssR sd=ss->(aT ms ws sd=none->∀ H' A sd' N,ssR sd'=ss->PIn t.c_Program A ms ws sd' (N++L)->Has H' (N++L)->Q (.ref A.p) H')/\(∀ i,aT ms ws sd=some i->∀ H' N a,Has H' (N++L)->E (.ref (hU t i)) (some a) H'))
section
variable {P:Program}{w:World}{K:PySem.W.Frag}{mg:Str->Option Value}{base:Heap}{t:Adr}
theorem scRp:FnScope ["text","lines","stretches","word","numbers"] ["text"] (ac gH):={}
theorem j7 (T:Txt K mg t):FnOk P w K mg base (CXr P w) 7 t.f_Jc t.d_Jc ["text"] (mj t):=by
 refine T.F_Jc.okR scRp (fun vs H Q E h=>?_) (fun cdv A outer s H vs Q E hr h=>?_)
 ·obtain⟨_,_,rfl,_⟩:=h
  rfl
 ·obtain⟨ls,L,rfl,hH,ok,hB,hG⟩:=h
  refine⟨_,(af (mI (E:=E) (ix:=1) scRp.nd rfl (Or.inl rfl) (esc:=ac gH) (k:=1) ["line","text","lines","stretches","word","numbers"] rfl rfl rfl (fun _ _ h=>h _) rfl (bh (bf PySem.F.plainAttrs_str PySem.F.slot_str_split PySem.F.type_str_split dY (pv 0) (aa ah ad))) (fun _ _ _ _ _=>by exact(az (i:=0) (show List.Nodup (["line","text","lines","stretches","word","numbers"]:List Str) from by decide +kernel) rfl (Or.inl rfl))) (fun _ _ _ _ _=>by exact bB) (fun _ _ _ _ _ bk=>by exact(bu (qO T) (hr.mono (by decide)) (by rfl) T.m_Jn T.F_Jn.kp (b_Jn T) .nil (pL bk) (aa (pv 0) ad))) rfl (by decide +kernel) (by decide +kernel) rfl (by decide +kernel) (by rfl) (fun _ _ h _=>h) (by decide +kernel))
   (af (aD (ap (j6 hr.units) (dD (esc:=ac gH) (k:=2) ["word","numbers","text","lines","stretches","word'","numbers'"] rfl (bh (bG dq (pv 1) bY (bX ae))) (fun _ _ _ _ _=>by exact(fh (K:=K) (n:=2) rfl rfl (aU (az (i:=0) (show List.Nodup (["word","numbers","text","lines","stretches","word'","numbers'"]:List Str) from by decide +kernel) rfl (Or.inl rfl)) (aU (az (i:=1) (show List.Nodup (["word","numbers","text","lines","stretches","word'","numbers'"]:List Str) from by decide +kernel) rfl (Or.inl rfl)) cz)))) (fun _ _ _ _ _=>by exact bB) (fun _ _ _ _ _=>by exact(pv 0)) rfl (by decide +kernel) (by decide +kernel) rfl (by decide +kernel) (by rfl) (fun i y h hf=>by
    by_cases c:i=3
    ·subst c; cases h; exact absurd hf (by decide +kernel)
    ·by_cases c2:i=4
     ·subst c2; cases h; exact absurd hf (by decide +kernel)
     ·have h2:(List.set (List.set (["text","lines","stretches","word","numbers"]:List Str) 3 "word'") 4 "numbers'")[i]?=some y:=h
      rw[List.getElem?_set_ne (fun z=>c2 z.symm),List.getElem?_set_ne (fun z=>c z.symm)] at h2; exact h2) (by decide +kernel)) (aV (aa ah (aa ah ad))) (ar _))
    (ag (aY bo rfl (by rfl) T.m_NoText (aW T.x_NoText) ah))
    ax)
   (af (aC (i:=2) scRp.nd rfl (Or.inl rfl) (aV ad))
   (af (bv PassesOwn.leaving rfl (bh (bG dq (pv 1) (bX ae) bY)) (fO rfl (aU (az (i:=3) scRp.nd rfl (Or.inl rfl)) (aU (az (i:=4) scRp.nd rfl (Or.inl rfl)) cz)))
    (ag (aD (PW.pt (bJ (ap aZ (pv 3) ah (ar _)) (bM (df (dS (pv 4) (by intro _; rfl))))))
      (ag (aG (bf PySem.F.plainAttrs_list PySem.F.slot_list_append PySem.F.type_list_append aR (pv 2) (aa (aV ad) ad))))
      (ag (aD (dS (pv 2) (by intro _; rfl))
        (ag (aG (bf PySem.F.plainAttrs_list PySem.F.slot_list_append PySem.F.type_list_append aR (aA au (pv 2) (kJ ii ae)) (aa (bu (qM T) (hr.mono (by decide)) (by rfl) T.m_Ju T.F_Ju.kp (b_Ju T) .nil cA (aa (pv 3) (aa (pv 4) ad))) ad))))
        (ag (aY bo rfl (by rfl) T.m_NoText (aW T.x_NoText) ah)))))))
   (ag (aJ (kK T.mk_Program (nh T) (hr.mono (by decide)) (by rfl) T.m_Program (sr T) .nil cA (aa (aA dL (aA au (pv 1) ae (fun _ _=>rfl)) ae) (aa (aA dL (aA au (pv 1) ae (fun _ _=>rfl)) ae) (aa (pv 2) ad)))))))))),?_⟩
  have es:=iP ok
  have lls:=ok.n
  refine⟨_,U,U,xT ls,_,U,U,U,ou (jO ok),?_,fun l hl=>?_⟩
  ·rw[es,sI]
   exact sz (by omega)
  rw[es]
  have h1:=hH.alloc hl (.lst ((ls.map lT).map V.str))
  have epl:(ls.map lT).map V.str=ls.map fun p=>V.str (lT p):=by rw[tF]; rfl
  rw[epl] at h1 ⊢
  refine⟨l,U,⟨_,SqL.of (h1.get 0 U)⟩,fun D hD=>?_⟩
  refine⟨fun n m zs H'=>∃ (qs:List LnA) (N:Kn),m=ls.length - n/\n<=ls.length/\zs=qs.map (fun z=>V.ref z.p)/\qs.map LnA.l'=ls.take n/\LnIn qs N/\Has H' ((D,.lst zs)::(N++((l,.lst (ls.map fun p=>V.str (lT p)))::L))),⟨_,[],[],U,Nat.zero_le _,U,U,⟨fun z hz=>(by cases hz),fun z hz=>(by cases hz)⟩,h1.alloc hD _⟩,?_⟩
  rintro n m zs H2 ⟨qs,N,rfl,hn,rfl,eq1,lin,h2⟩
  refine⟨h2.get 0 U,?_⟩
  have lq:qs.length=n:=by
   have:=congrArg List.length eq1
   simp at this
   omega
  have g1:H2 l=some (.lst (ls.map fun p=>V.str (lT p))):=h2.at_ (l,_) (sH _ (sJ _ sM))
  by_cases hlt:n<ls.length
  ·have hx0:(ls.map fun p=>V.str (lT p))[n]?=some (.str (lT ls[n])):=by rw[sN,sK hlt]; rfl
   refine .inr ⟨⟨_,_,SqL.of g1,hx0⟩,?_⟩
   rintro x H4 ⟨rfl,hx⟩
   have e1:=hx _ (SqL.of g1)
   rw[hx0] at e1
   cases e1
   refine⟨U,bS ?_⟩
   refine⟨_,U,ls[n],_,U,h2,ok.l _ (List.getElem_mem hlt),fun ns ens H5 p k h5=>?_,fun hz H5 N5 a h5=>?_⟩
   ·have h6:=eJ h5 2 rfl
    refine⟨sizeOk (by rw[sI]; omega),h6.get 0 U,ls.length - (n+1),by omega,qs++[⟨p,k,ls[n].1,ns⟩],(p,.tup [.str ls[n].1,.ref k])::(k,.lst (ns.map V.int))::N,U,hlt,by rw[sP]; rfl,?_,⟨fun z hz=>?_,fun z hz=>?_⟩,h6.puti 0 U _⟩
    ·rw[sP,eq1,List.take_succ,sK hlt]
     show _++[(ls[n].1,ns.map It54.n)]=_++[ls[n]]
     rw[<- ens]
    ·rcases sY.mp hz with hz | hz
     ·exact sH _ (sH _ (lin.p z hz))
     ·cases sO.mp hz
      exact sM
    ·rcases sY.mp hz with hz | hz
     ·exact sH _ (sH _ (lin.l z hz))
     ·cases sO.mp hz
      exact sH _ sM
   ·refine hB (.inl ⟨_,List.getElem_mem hlt,hz⟩) H5 (N5++((D,.lst (qs.map fun z=>V.ref z.p))::(N++[(l,.lst (ls.map fun p=>V.str (lT p)))]))) a ?_
    simpa [tj] using h5
  refine .inl ⟨⟨_,SqL.of g1,by rw[sI]; omega⟩,?_⟩
  have en:n=ls.length:=by omega
  rw[en,List.take_length] at eq1
  rw[en] at lq
  obtain⟨M,eM⟩:∃ M:Kn,N++[(l,HO.lst (ls.map fun p=>V.str (lT p)))]=M:=⟨_,U⟩
  have h2:Has H2 ((D,.lst (qs.map fun z=>V.ref z.p))::(M++L)):=by rw[<- eM,tj]; exact h2
  have lin:LnIn qs M:=lin.mono fun z hz=>by rw[<- eM]; exact sV _ hz
  clear eM g1 h1 epl en
  have inM:∀ {H':Hp}{X:Kn}{z:Addr×HO},Has H' (X++(M++L))->z ∈ M->H' z.1=some z.2:=fun h m=>h.at_ _ (sJ _ (sV _ m))
  obtain⟨rv,erv⟩:∃ rv,qs.map (fun z=>V.ref z.p)=rv:=⟨_,U⟩
  have lrv:rv.length=ls.length:=by rw[<- erv,sI,lq]
  have grv:∀ (i:Nat) z,qs[i]?=some z->rv[i]?=some (.ref z.p):=fun i z h=>by rw[<- erv,sN,h]; rfl
  rw[erv] at h2
  have ec:∀ k:Nat,bQ rv none (some (k:Int))=rv.take k:=fun k=>by rw[cQ rv k (by omega)]; simp
  have ec2:bQ rv (some 2) none=rv.drop 2:=by
   simp only[bQ,HT.sIx]
   simp
   rcases Nat.le_total 2 rv.length with h | h
   ·rw[Nat.min_eq_left h]
    exact List.take_of_length_le (by simp)
   ·rw[Nat.min_eq_right h,Nat.sub_self]
    exact(List.drop_eq_nil_of_le h).symm
  refine⟨_,U,_,U,D,_,U,SqL.of (h2.get 0 U),fun l2 hl2=>?_⟩
  rw[show bQ rv none (some 2)=rv.take 2 from cQ rv 2 (by decide)]
  have h3:=h2.alloc hl2 (.lst (rv.take 2))
  obtain⟨q2,eq2⟩:∃ q2,qs.take 2=q2:=⟨_,U⟩
  have q2m:∀ z ∈ q2,z ∈ qs:=fun z hz=>List.mem_of_mem_take (by rw[eq2]; exact hz)
  have rv2:rv.take 2=q2.map fun z=>V.ref z.p:=by rw[<- erv,<- List.map_take,eq2]
  have l2q:q2.length<=2:=by rw[<- eq2,tx]; omega
  rw[rv2] at h3 ⊢
  refine⟨l2,U,⟨_,SqL.of (h3.get 0 U)⟩,fun D2 hD2=>?_⟩
  refine⟨fun n m zs H'=>m=q2.length - n/\n<=q2.length/\zs=((q2.take n).map (·.w)).map V.str/\Has H' ((D2,.lst zs)::(l2,.lst (q2.map fun z=>V.ref z.p))::(D,.lst rv)::(M++L)),⟨_,U,Nat.zero_le _,U,h3.alloc hD2 _⟩,?_⟩
  rintro n m zs H4 ⟨rfl,hn2,rfl,h4⟩
  refine⟨h4.get 0 U,?_⟩
  by_cases hlt2:n<q2.length
  ·have hz:=sK hlt2
   obtain⟨z,ez⟩:∃ z,q2[n]=z:=⟨_,U⟩
   rw[ez] at hz
   have hx0:(q2.map fun z=>V.ref z.p)[n]?=some (.ref z.p):=by rw[sN,hz]; rfl
   refine .inr ⟨⟨_,_,SqL.of (h4.get 1 U),hx0⟩,?_⟩
   rintro x H5 ⟨rfl,hx⟩
   have e1:=hx _ (SqL.of (h4.get 1 U))
   rw[hx0] at e1
   cases e1
   refine⟨z.p,_,U,SqT.of (inM (X:=[_,_,_]) h4 (lin.p z (q2m z (sL hz)))),U,_,_,U,_,_,U,U,U,bS ⟨_,U,?_⟩⟩
   refine⟨sizeOk (by rw[sI,sI,tx]; omega),h4.get 0 U,q2.length - (n+1),by omega,U,hlt2,?_,h4.puti 0 U _⟩
   rw[iQ hz,sP,sP]; rfl
  refine .inl ⟨⟨_,SqL.of (h4.get 1 U),by rw[sI]; omega⟩,?_⟩
  have en2:n=q2.length:=by omega
  subst en2
  rw[List.take_length] at h4
  refine⟨(sz_ 2),fun l4 hl4=>?_⟩
  have h5:=h4.alloc hl4 (.lst ([("marks" : Str),"widths"].map V.str))
  have wok:∀ z ∈ qs,LnOk z.l':=fun z hz=>ok.l _ (by rw[<- eq1]; exact tq hz)
  refine⟨bw (q2.map (·.w)),bw ["marks","widths"],bO (h5.get 1 U),bO (h5.get 0 U),kB _ (fun y hy=>?_),kB _ (by decide +kernel),?_⟩
  ·obtain⟨z,hz,rfl⟩:=sZ.mp hy
   exact Wk.ok (wok z (q2m z hz)).w
  rw[jE]
  by_cases c:q2.map (·.w)=(["marks","widths"]:List Str)
  rotate_left
  ·refine⟨_,U,ifT (by rw[decide_eq_false c]; rfl) ?_⟩
   refine rz0 (fun e=>hB (.inr (.inl fun e2=>c ?_)) _ (_::_::_::_::M) e h5)
   rw[<- e2,<- eq1,<- List.map_take,eq2,tF]; rfl
  refine⟨_,U,ifF (by rw[decide_eq_true c]; rfl) ?_⟩
  have h6:Has _ ((D,.lst rv)::(M++L)):=h5.tail.tail.tail
  refine⟨(sz_ 0),fun sl hsl=>?_⟩
  have h7:=h6.alloc hsl (.lst [])
  clear h3 h4 h5 h6 h2
  refine⟨_,U,_,U,D,_,U,SqL.of (h7.get 1 U),fun l3 hl3=>?_⟩
  have h8:=h7.alloc hl3 (.lst (bQ rv (some 2) none))
  rw[ec2] at h8 ⊢
  clear h7
  obtain⟨q0,q1,qr,eqs,w0,w1⟩:∃ q0 q1 qr,qs=q0::q1::qr/\q0.w = "marks" /\ q1.w = "widths":=by
   rw[<- eq2] at c
   match qs,c with
   | [q0],e=>injection e with _ e; cases e
   | q0::q1::qr,e=>
    injection e with e1 e
    injection e with e2 _
    exact⟨q0,q1,qr,U,e1,e2⟩
  have ervr:rv.drop 2=qr.map fun z=>V.ref z.p:=by rw[<- erv,eqs]; rfl
  have elr:ls.drop 2=qr.map LnA.l':=by rw[<- eq1,eqs]; rfl
  have qrm:∀ z ∈ qr,z ∈ qs:=fun z hz=>by rw[eqs]; exact sH _ (sH _ hz)
  have lqr:qr.length<=398:=by have:=congrArg List.length eqs; simp at this; omega
  rw[ervr] at h8 ⊢
  obtain⟨R,eR⟩:∃ R:Kn,(l3,HO.lst (qr.map fun z=>V.ref z.p))::(D,.lst rv)::M=R:=⟨_,U⟩
  have h9:RdH sl [] (R++L) _:=⟨[],by simp,.inl ⟨U,by rw[<- eR]; exact h8.swap2⟩⟩
  have ml3:(l3,HO.lst (qr.map fun z=>V.ref z.p)) ∈ R++L:=by rw[<- eR]; simp
  have linR:LnIn qs (R++L):=lin.mono fun z hz=>by rw[<- eR]; simp[hz]
  have mD:(D,HO.lst rv) ∈ R++L:=by rw[<- eR]; simp
  have toE:∀ {sd:Ss}{H':Hp},RdH sl sd (R++L) H'->∃ N,Has H' (N++L):=fun {sd H'} h=>by
   obtain⟨N,_,_,h⟩:=h.fin
   exact⟨(sl,.lst (ssV sd))::(N++R),by simpa [tj] using h⟩
  refine⟨l3,U,⟨_,SqL.of (h8.get 0 U)⟩,bP (xs:=qr.map fun z=>V.ref z.p) (fun i σ H'=>∃ (o3 o4:Option V) (sd:Ss),σ=[some (.str (xT ls)),some (.ref D),some (.ref sl),o3,o4]/\(qr.take i).map LnA.l'=(tks (ssR sd)).map Tk.l/\sd.length<=i/\(∀ z ∈ sd,z.2.length<=i)/\RdH sl sd (R++L) H') ⟨_,_,[],U,U,Nat.le_refl 0,by simp,h9⟩ (fun i σ H' _ ⟨_,_,_,_,_,_,_,e⟩=>SqL.of (e.at_ ml3)) ?_ ?_⟩
  ·clear h8 h9
   rintro i x σ H5 hx ⟨o3,o4,sd,rfl,esd,b1,b2,h5⟩
   rw[sN] at hx
   obtain⟨z,hz,rfl⟩:=Option.map_eq_some_iff.mp hx
   have hzm:=sL hz
   have hzq:=qrm z hzm
   have il:i<398:=Nat.lt_of_lt_of_le (List.getElem?_eq_some_iff.mp hz).1 lqr
   have gp:=h5.at_ (linR.p z hzq)
   have gl:=h5.at_ (linR.l z hzq)
   have zok:=wok z hzq
   have bad:iO z.l' i->kI ls:=fun h=>.inr (.inr ⟨i,z.l',by rw[elr,sN,hz]; rfl,h⟩)
   have etake:∀ t,z.l'=t.l->(sd≠[]∨t=Tk.st)->∀ sd':Ss,ssR sd'=stp (ssR sd) t->(qr.take (i+1)).map LnA.l'=(tks (ssR sd')).map Tk.l:=fun t e hs sd' e'=>by
    rw[e',oq (hs.imp (fun h c=>h (by unfold ssR at c; exact List.map_eq_nil_iff.mp c)) id),iQ hz,sP,sP,esd]
    show _++[z.l']=_++[t.l]
    rw[e]
   refine⟨z.p,_,U,SqT.of gp,U,_,_,U,_,_,U,U,?_⟩
   by_cases cs:z.w = "stretch" /\ z.n=[]
   ·obtain⟨cw,cn⟩:=cs
    rw[cn] at gl
    refine⟨_,U,U,_,U,ifT (decide_eq_true (by rw[cw])) ?_⟩
    refine⟨_,U,false,.inl ⟨_,SqL.of gl,U⟩,cY ?_⟩
    refine⟨_,U,.inl ⟨U,_,SqL.of h5.sl⟩,(sz_ 0),fun r2 hr2=>?_⟩
    have g5:upd H5 r2 (.lst []) sl=some (.lst (ssV sd)):=by
     rw[aw (fun e=>by have:=h5.sl; rw[e,hr2] at this; cases this)]
     exact h5.sl
    refine⟨sl,_,_,U,U,g5,sizeOk (by unfold ssV; rw[sI]; omega),_,_,sd++[(r2,[])],U,?_,(by rw[sW,tE]; omega),fun z hz=>?_,h5.st hr2⟩
    ·refine etake .st ?_ (.inr rfl) _ ?_
     ·show(z.w,z.n.map It54.n)=_
      rw[cw,cn]; rfl
     ·unfold ssR stp
      rw[sP]
      rfl
    ·rcases sY.mp hz with hz | hz
     ·exact Nat.le_succ_of_le (b2 z hz)
     ·cases sO.mp hz
      exact Nat.zero_le _
   have cs':¬ (z.l'.1 = "stretch" /\ z.l'.2=[]):=fun h=>cs ⟨h.1,List.map_eq_nil_iff.mp h.2⟩
   refine(fun rest=>⟨_,U,U,_,U,ifd (fun cw=>⟨_,U,true,.inl ⟨_,SqL.of gl,?_⟩,dM rest⟩) (fun _=>rest)⟩) ?_
   rotate_left
   ·have nn:z.n≠[]:=fun e=>cs ⟨by simpa using cw,e⟩
    cases hzn:z.n with
    | nil=>exact absurd hzn nn
    | cons a r=>rfl
   by_cases hne:sd=[]
   ·refine⟨_,U,false,.inl ⟨_,SqL.of h5.sl,by rw[hne]; rfl⟩,dM ?_⟩
    obtain⟨N5,h6⟩:=toE h5
    refine rz0 (fun e=>hB (bad ⟨cs',.inl ?_⟩) _ N5 e h6)
    rw[hne] at esd
    have hl:min i qr.length=0:=by
     have:=congrArg List.length esd
     rw[sI,tx] at this
     exact this
    have:=(List.getElem?_eq_some_iff.mp hz).1
    omega
   have g5:=h5.sl
   obtain⟨N5,hN,h5 | ⟨s0,r,rs,e,h0,h5⟩⟩:=h5
   ·exact absurd h5.1 hne
   subst e
   rw[fI] at g5
   refine⟨_,U,true,.inl ⟨_,SqL.of g5,?_⟩,cY ?_⟩
   ·cases ssV s0 <;> rfl
   refine⟨_,U,_,U,sl,_,_,_,U,U,SqL.of g5,gw _ _,.inl ⟨U,_,SqL.of (h5.get 1 U)⟩,_,U,_,U,z.w,z.n,z.l,_,U,h5,?_,zok.w,?_,fun x e1 e2 H6 p h6=>?_,fun hno H6 N6 a h6=>?_⟩
   ·exact sH _ (sH _ (sJ _ (linR.l z hzq)))
   ·have:=zok.n
    rw[show z.l'.2=z.n.map It54.n from rfl,sI] at this
    exact this
   ·have lrs:rs.length<=i:=b2 (r,rs) (sJ _ sM)
    refine⟨r,_,_,U,U,h6.get 2 U,sizeOk (by unfold rwV; rw[sI]; omega),_,_,s0++[(r,rs++[(p,x)])],U,?_,?_,fun z hz=>?_,RdH.row hN h0 h6⟩
    ·refine etake (.rw x) ?_ (.inl hne) _ ?_
     ·show(z.w,z.n.map It54.n)=(x.ws,x.ns.map It54.n)
      rw[e1,e2]
     ·unfold ssR
      rw[sP,sP]
      rw[show([(r,rs)]:Ss).map (fun z=>z.2.map (·.2))=[rs.map (·.2)] from rfl,jS]
      simp
    ·rw[sW,tE] at b1 ⊢
     omega
    ·rcases sY.mp hz with hz | hz
     ·exact Nat.le_succ_of_le (b2 z (sV _ hz))
     ·cases sO.mp hz
      rw[sW,tE]
      exact Nat.succ_le_succ lrs
   ·refine hB (bad ⟨cs',.inr fun x hx=>hno x ⟨hx.1,?_⟩⟩) H6 (N6++((sl,.lst (ssV s0++[.ref r]))::(r,.lst (rwV rs))::(N5++R))) a (by simpa [tj] using h6)
    rw[hx.2,show z.l'.2=z.n.map It54.n from rfl,sI]
  ·clear h8 h9
   rintro σ H5 ⟨o3,o4,sd,rfl,esd,b1,b2,h5⟩
   rw[sI] at b1 b2
   have esd:qr.map LnA.l'=(tks (ssR sd)).map Tk.l:=by
    rw[<- esd,sI,List.take_length]
   obtain⟨N5,f1,f2,h5⟩:=h5.fin
   have els:ls=gL q0.n q1.n (ssR sd):=by
    rw[<- eq1,eqs]
    show q0.l'::q1.l'::qr.map LnA.l'=_
    rw[esd]
    show(q0.w,q0.n.map It54.n)::(q1.w,q1.n.map It54.n)::_=_
    rw[w0,w1]
    rfl
   obtain⟨hG1,hG2⟩:=hG _ _ _ els sd rfl
   have q0m:q0 ∈ qs:=by rw[eqs]; exact sM
   have q1m:q1 ∈ qs:=by rw[eqs]; exact sH _ sM
   have inR:∀ {H':Hp}{X:Kn}{z:Addr×HO},Has H' (X++(N5++(R++L)))->z ∈ R++L->H' z.1=some z.2:=fun h m=>h.at_ _ (sJ _ (sJ _ m))
   have gD:=inR (X:=[_]) h5 mD
   have g0:=inR (X:=[_]) h5 (linR.p q0 q0m)
   have g1:=inR (X:=[_]) h5 (linR.p q1 q1m)
   have r0:rv[0]?=some (.ref q0.p):=grv 0 q0 (by rw[eqs]; rfl)
   have r1:rv[1]?=some (.ref q1.p):=grv 1 q1 (by rw[eqs]; rfl)
   have smi:∀ z ∈ qs,SmI z.n:=fun z hz=>⟨by have:=(wok z hz).n; rw[show z.l'.2=z.n.map It54.n from rfl,sI] at this; omega,fun n hn=>(((wok z hz).i (.n n) (tq hn)):0<=n/\n.natAbs<=10 ^ 58).2⟩
   refine⟨_,U,D,_,_,_,U,U,SqL.of gD,aH (j:=0) r0,q0.p,_,_,_,U,U,SqT.of g0,aH (j:=1) rfl,?_⟩
   refine⟨_,U,D,_,_,_,U,U,SqL.of gD,aH (j:=1) r1,q1.p,_,_,_,U,U,SqT.of g1,aH (j:=1) rfl,_,U,?_⟩
   intro p dx hp hdx hnd
   have h6:=(h5.alloc hdx (.own p)).alloc (by rw[aw (Ne.symm hnd)]; exact hp) (.ins t.c_Program dx [])
   have mR:∀ {z:Addr×HO},z ∈ R++L->z ∈ (sl,HO.lst (ssV sd))::(N5++(R++L)):=fun m=>sH _ (sJ _ m)
   have mN:∀ {z:Addr×HO},z ∈ N5->z ∈ (sl,HO.lst (ssV sd))::(N5++(R++L)):=fun m=>sH _ (sV _ m)
   have sms:SmS sd:=⟨by omega,fun z hz=>⟨by have:=b2 z hz; omega,fun x hx=>fun n hn=>?_⟩⟩
   rotate_left
   ·have m1:Tk.rw x.2 ∈ tks (ssR sd):=by
     unfold tks ssR
     rw[List.flatMap_map]
     exact List.mem_flatMap.mpr ⟨z,hz,sH _ (tq (tq hx))⟩
    have m2:(Tk.rw x.2).l ∈ qr.map LnA.l':=by rw[esd]; exact tq m1
    obtain⟨y,hy,ey⟩:=sZ.mp m2
    have:=(wok y (qrm y hy)).i (.n n) (by rw[ey]; exact tq hn)
    exact this.2
   refine⟨p,dx,q0.l,q1.l,sl,q0.n,q1.n,sd,(sl,HO.lst (ssV sd))::(N5++(R++L)),U,h6,mR (linR.l q0 q0m),mR (linR.l q1 q1m),sM,fun z hz=>mN (f1 z hz),fun z hz x hx=>mN (f2 z hz x hx),smi q0 q0m,smi q1 q1m,sms,fun fn H7 A7 sd7 N7 eA e7 pin7 h7=>?_,fun i hi H7 N7 a h7=>?_⟩
   ·subst eA
    have esd7:ssR sd7=ssR sd:=by
     unfold ssR
     rw[show(sd7.map fun z=>z.2.map (·.2))=(sd7.map (·.2)).map (List.map (·.2)) by rw[tF]; rfl,e7,tF]
     rfl
    have e8:N7++((sl,HO.lst (ssV sd))::(N5++(R++L)))=(N7++((sl,HO.lst (ssV sd))::(N5++R)))++L:=by simp
    rw[e8] at pin7 h7
    exact⟨U,hG1 fn H7 A7 sd7 _ esd7 pin7 h7⟩
   ·exact hG2 i hi H7 (N7++((sl,HO.lst (ssV sd))::(N5++R))) a (by simpa [tj] using h7)
end
noncomputable def lnT (y:Str) (ns:List Int):Str:=Txt.join " " (y::ns.map nT)
theorem rf (y:Str) (ns:List Int):lT (y,ns.map It54.n)=lnT y ns:=by
 unfold lT lnT
 rw[tF]; rfl
noncomputable def ko (ns:List Int):Prop:=ns.length<=1000/\∀ n ∈ ns,0<=n/\n.natAbs<=10 ^ 58
theorem fj {n:Int} (_:0<=n) (h:n.natAbs<=10 ^ 58):n.natAbs.log2<1920:=rc h
theorem fk {n:Int} (h0:0<=n) (h1:n.natAbs<=10 ^ 58):(nT n).length<=60:=(j8 h0 h1).1
inductive sp_wl (K:PySem.W.Frag) (vs:List V) (H:Hp) (Q:VK) (E_:XK):Prop
 | mk (y:Str) (a:Addr) (b:Bool) (ns:List Int) (L:Kn) (_:vs=[.str y,.ref a]) (_:Has H L) (_:((b=true/\(a,HO.lst (ns.map V.int)) ∈ L)∨(b=false/\(a,HO.tup (ns.map V.int)) ∈ L))) (_:y.length<=100) (_:ko ns) (_:∀ H',Has H' L->Q (.str (lnT y ns)) H'):sp_wl K vs H Q E_
theorem ce {y:Str}{ns:List Int} (hy:y.length<=100) (hn:ko ns):∀ x ∈ y::ns.map nT,x.length<=100:=fun x hx=>by
 rcases sR.mp hx with rfl | hx
 ·exact hy
 ·obtain⟨n,hn',rfl⟩:=sZ.mp hx
  exact Nat.le_trans (fk (hn.2 n hn').1 (hn.2 n hn').2) (by decide)
section
variable {P:Program}{w:World}{K:PySem.W.Frag}{mg:Str->Option Value}{base:Heap}{t:Adr}
theorem scWl:FnScope ["word","numbers"] ["word","numbers"] (ac iq):={}
theorem na (T:Txt K mg t):FnOk P w K mg base CX0 1 t.f_Jj t.d_Jj ["word","numbers"] (sp_wl K):=by
 refine T.F_Jj.ok scWl (fun vs H Q E h=>?_) (fun cdv A outer s H vs Q E hr h=>?_)
 ·obtain⟨_,_,_,_,_,rfl,_⟩:=h
  rfl
 ·obtain⟨y,a,b,ns,L,rfl,hH,ha,hy,hns,q⟩:=h
  have sq:∀ {H':Hp}{X:Kn},Has H' (X++L)->SqB b K H' a (ns.map V.int):=fun h=>by
   rcases ha with ⟨rfl,m⟩ | ⟨rfl,m⟩
   ·exact SqL.of (h.at_ _ (sJ _ m))
   ·exact SqT.of (h.at_ _ (sJ _ m))
  refine⟨_,(ag (aJ (bf PySem.F.plainAttrs_str PySem.F.slot_str_join PySem.F.type_str_join cB ah (aa (ak dt (aV (aa (pv 0) ad)) (dD (esc:=ac iq) (k:=1) ["number","word","numbers"] rfl (qF (pv 1)) (fun _ _ _ _ _=>by exact(az (i:=0) (show List.Nodup (["number","word","numbers"]:List Str) from by decide +kernel) rfl (Or.inl rfl))) (fun _ _ _ _ _=>by exact bB) (fun _ _ _ _ _=>by exact(aO b9 (by rfl) T.z_str (by rfl) (aa (pv 0) ad))) rfl (by decide +kernel) (by decide +kernel) rfl (by decide +kernel) (by rfl) (fun _ _ h _=>h) (by decide +kernel))) ad)))),?_⟩
  refine⟨U,_,U,(sz_ 1),fun l1 hl1=>?_⟩
  have h1:=hH.alloc hl1 (.lst [.str y])
  refine⟨_,U,a,b,U,⟨_,sq (X:=[_]) h1⟩,fun D hD=>?_⟩
  refine⟨fun n m zs H'=>m=ns.length - n/\n<=ns.length/\zs=(ns.take n).map (fun x=>V.str (nT x))/\Has H' ((D,.lst zs)::(l1,.lst [.str y])::L),⟨_,U,Nat.zero_le _,U,h1.alloc hD _⟩,?_⟩
  rintro n m zs H2 ⟨rfl,hn,ez,h2⟩
  refine⟨h2.get 0 U,?_⟩
  have g0:=sq (X:=[_,_]) h2
  have lz:zs.length<=1000:=by rw[ez,sI,tx]; have:=hns.1; omega
  by_cases hlt:n<ns.length
  ·have hx0:(ns.map V.int)[n]?=some (.int ns[n]):=by rw[sN,sK hlt]; rfl
   refine .inr ⟨ItB.go g0 hx0,?_⟩
   intro x H3 hy3
   obtain⟨rfl,hx⟩:=ItB.yld hy3 g0
   rw[hx0] at hx
   cases hx
   have nb:=hns.2 ns[n] (List.getElem_mem hlt)
   refine⟨U,bS ?_⟩
   refine⟨_,U,_,U,fj nb.1 nb.2,?_⟩
   refine⟨sizeOk (by omega),h2.get 0 U,ns.length - (n+1),by omega,U,hlt,?_,h2.puti 0 U _⟩
   rw[ez,List.take_succ,sK hlt,sP]
   rfl
  ·refine .inl ⟨ItB.stop g0 (by rw[sI]; omega),?_⟩
   have en:n=ns.length:=by omega
   rw[en,List.take_length] at ez
   refine⟨l1,D,_,_,U,U,SqL.of (h2.get 1 U),SqL.of (h2.get 0 U),Nat.le_trans (show [V.str y].length+zs.length<=1001 by simp; omega) ((sz_ 1001)),fun l hl=>?_⟩
   have h3:=h2.alloc hl (.lst ([.str y]++zs))
   have e3:[V.str y]++zs=(y::ns.map nT).map V.str:=by rw[ez]; simp
   rw[e3] at h3 ⊢
   refine⟨_,l,y::ns.map nT,U,U,SqL.of (h3.get 0 U),eG (M:=100) (fun x hx=>?_) ?_,q _ h3.tail.tail.tail⟩
   ·rcases sR.mp hx with rfl | hx
    ·exact hy
    ·obtain⟨n,hn,rfl⟩:=sZ.mp hx
     exact Nat.le_trans (fk (hns.2 n hn).1 (hns.2 n hn).2) (by decide)
   ·have:=hns.1
    rw[sT,sI,show(Str.ofString " ").length=1 from rfl]
    exact Nat.le_trans (show(ns.length+1)*(100+1)<=1000000 by omega) (sz (Nat.le_refl _))
end
noncomputable def rwL (x:Rw):Str:=lnT x.ws x.ns
noncomputable def stL (rs:List Rw):List Str := "stretch" :: rs.map rwL
noncomputable def prL (ms ws:List Int) (ss:List (List Rw)):List Str:=lnT "marks" ms::lnT "widths" ws::ss.flatMap stL
noncomputable def prT (ms ws:List Int) (ss:List (List Rw)):Str:=Txt.join "\n" (prL ms ws ss)
structure Fit (ms ws:List Int) (ss:List (List Rw)):Prop where
 m:ko ms
 w:ko ws
 r:∀ rs ∈ ss,rs.length<=120/\∀ x ∈ rs,ko x.ns
 s:ss.length<=40
theorem Rw.wsl:∀ (x:Rw),x.ws.length<=100
 | .bell _=>(by decide +kernel:("bell" : Str).length<=100)
 | .set _ _=>(by decide +kernel:("set" : Str).length<=100)
 | .ask _ _ _=>(by decide +kernel:("ask" : Str).length<=100)
 | .bump _ _=>(by decide +kernel:("bump" : Str).length<=100)
 | .go _=>(by decide +kernel:("go" : Str).length<=100)
 | .call _=>(by decide +kernel:("call" : Str).length<=100)
 | .fin=>(by decide +kernel:("end" : Str).length<=100)
inductive sp_wp (t:Adr) (vs:List V) (H:Hp) (Q:VK) (E_:XK):Prop
 | mk (A:PA) (ms ws:List Int) (ss:Ss) (L:Kn) (_:vs=[.ref A.p]) (_:Has H L) (_:PIn t.c_Program A ms ws ss L) (_:Fit ms ws (ssR ss)) (_:JoinOk "\n" (prL ms ws (ssR ss))=true) (_:∀ H',Has H' L->Q (.str (prT ms ws (ssR ss))) H'):sp_wp t vs H Q E_
variable{ss:List (List Rw)}
theorem iA {ms ws:List Int} (h:Fit ms ws ss):∀ n,((ss.take n).flatMap stL).length<=n*121:=by
 intro n
 induction n with
 | zero=>simp
 | succ n ih=>
  rw[List.take_succ]
  cases e:ss[n]? with
  | none=>rw[Option.toList_none,tG]; omega
  | some rs=>
   have:=(h.r rs (sL e)).1
   rw[List.flatMap_append,sW]
   simp only[Option.toList,List.flatMap_cons,List.flatMap_nil,tG,stL,sT,sI]
   omega
section
variable {P:Program}{w:World}{K:PySem.W.Frag}{mg:Str->Option Value}{base:Heap}{t:Adr}
theorem scWp:FnScope ["program","lines","stretch","row"] ["program"] (ac jd):={}
theorem ok_J7 (T:Txt K mg t):FnOk P w K mg base CX0 3 t.f_J7 t.d_J7 ["program"] (sp_wp t):=by
 refine T.F_J7.ok scWp (fun vs H Q E h=>?_) (fun cdv A outer s H vs Q E hr h=>?_)
 ·obtain⟨_,_,_,_,_,rfl,_⟩:=h
  rfl
 ·obtain⟨A,ms,ws,ss,L,rfl,hH,pin,fit,hok,q⟩:=h
  have hL:∀ {H':Hp}{X:Kn}{z:Addr×HO},Has H' (X++L)->z ∈ L->H' z.1=some z.2:=fun h m=>h.at_ _ (sJ _ m)
  have lsR:(ssR ss).length=ss.length:=by unfold ssR; rw[sI]
  refine⟨_,(af (aC (i:=1) scWp.nd rfl (Or.inl rfl) (aV (aa (pcl (na T) hr T.m_Jj T.F_Jj.kp (rN T) (aa ah (aa (bz (pv 0) T.cl_Program T.M_Ja (pQ T) hr (su T) .nil c7) ad))) (aa (pcl (na T) hr T.m_Jj T.F_Jj.kp (rN T) (aa ah (aa (bz (pv 0) T.cl_Program T.M_J6 (pR T) hr (sB T) .nil c7) ad))) ad))))
   (af (bv PassesOwn.never rfl (bD (by rfl) T.z_range (aa (bz (pv 0) T.cl_Program T.M_Je (jr T) hr (n8 T) .nil c7) ad)) (az (i:=2) scWp.nd rfl (Or.inl rfl))
    (af (aG (bf PySem.F.plainAttrs_list PySem.F.slot_list_append PySem.F.type_list_append aR (pv 1) (aa ah ad)))
     (ag (bv PassesOwn.never rfl (bh (dU (pv 0) T.cl_Program T.M_Jf (pO T) hr (so T) .nil c7 (aa (pv 2) ad))) (az (i:=3) scWp.nd rfl (Or.inl rfl))
      (ag (aG (bf PySem.F.plainAttrs_list PySem.F.slot_list_append PySem.F.type_list_append aR (pv 1) (aa (pcl (na T) hr T.m_Jj T.F_Jj.kp (rN T) (aa (aA dL (pv 3) ae) (aa (bG jU (pv 3) (bX ae) bY) ad))) ad))))))))
   (ag (aJ (bf PySem.F.plainAttrs_str PySem.F.slot_str_join PySem.F.type_str_join cB ah (aa (pv 1) ad)))))),?_⟩
  refine⟨_,U,A.p,A.dx,_,U,hL (X:=[]) hH pin.p,(c6 _).2.1,A,_,L,U,hH,pin.p,pin.m,fun H1 l1 h1=>?_⟩
  refine⟨"marks",l1,true,ms,_,U,h1,.inl ⟨U,sM⟩,by decide +kernel,fit.m,fun H2 h2=>?_⟩
  refine⟨_,U,A.p,A.dx,_,U,hL (X:=[]) h2.tail pin.p,(c6 _).2.2.1,A,_,L,U,h2.tail,pin.p,pin.w,fun H3 l3 h3=>?_⟩
  refine⟨"widths",l3,true,ws,_,U,h3,.inl ⟨U,sM⟩,by decide +kernel,fit.w,fun H4 h4=>?_⟩
  refine⟨(sz_ 2),fun ll hll=>?_⟩
  have h5:=h4.tail.alloc hll (.lst ([lnT "marks" ms,lnT "widths" ws].map V.str))
  clear h1 h2 h3 h4
  refine⟨_,U,A.p,A.dx,_,U,hL (X:=[_]) h5 pin.p,(c6 _).1,A,_,U,hL (X:=[_]) h5 pin.p,hL (X:=[_]) h5 pin.s,_,U,(by omega),(by unfold ssV; rw[sI]; have:=fit.s; omega),bK (fun i σ H'=>∃ (o2 o3:Option V),σ=[some (.ref A.p),some (.ref ll),o2,o3]/\Has H' ((ll,.lst ((lnT "marks" ms::lnT "widths" ws::((ssR ss).take i).flatMap stL).map V.str))::L)) ⟨_,_,U,h5⟩ ?_ ?_⟩
  ·rintro i σ H6 hi ⟨o2,o3,rfl,h6⟩
   have hi:i<ss.length:=by
    have:i<((ssV ss).length:Int).toNat:=hi
    unfold ssV at this
    rw[sI] at this
    omega
   rw[Int.zero_add]
   obtain⟨pre,epre⟩:∃ pre,lnT "marks" ms::lnT "widths" ws::((ssR ss).take i).flatMap stL=pre:=⟨_,U⟩
   have lpre:pre.length<=2+i*121:=by
    rw[<- epre]
    have:=iA fit i
    simp only[sT]
    omega
   rw[epre] at h6
   have hz:=sK hi
   have hzm:=List.getElem_mem hi
   have hR:(ssR ss)[i]?=some (ss[i].2.map (·.2)):=by unfold ssR; rw[sN,hz]; rfl
   have hr:=fit.r _ (sL hR)
   have s40:=fit.s
   refine⟨_,U,.inl ⟨U,_,SqL.of (h6.get 0 U)⟩,ll,_,_,U,U,h6.get 0 U,sizeOk (by rw[sI]; omega),?_⟩
   have h7:=h6.puti 0 U (.lst (pre.map V.str++[.str "stretch"]))
   refine⟨_,U,A.p,A.dx,_,U,hL (X:=[_]) h7 pin.p,jp _,_,U,A,ms,ws,ss,_,i,ss[i],U,h7,pin.mono (fun z hz=>sH _ hz),hz,fun H8 rl h8=>?_⟩
   refine⟨rl,U,⟨_,SqL.of (h8.get 0 U)⟩,bP (xs:=rwV ss[i].2) (fun j σ H'=>∃ (o3:Option V),σ=[some (.ref A.p),some (.ref ll),some (.int i),o3]/\Has H' ((rl,.lst (rwV ss[i].2))::(ll,.lst ((pre++("stretch" : Str)::(((ss[i].2.map (·.2)).take j).map rwL)).map V.str))::L)) ⟨_,U,?_⟩ (fun j σ H' _ ⟨_,_,e⟩=>SqL.of (e.get 0 U)) ?_ ?_⟩
   ·rw[List.take_zero,List.map_nil,sP]
    exact h8
   ·rintro j x σ H9 hx ⟨o3,rfl,h9⟩
    unfold rwV at hx
    rw[sN] at hx
    obtain⟨y,hy,rfl⟩:=Option.map_eq_some_iff.mp hx
    have hym:=sL hy
    have jl:=(List.getElem?_eq_some_iff.mp hy).1
    have hyR:(ss[i].2.map (·.2))[j]?=some y.2:=by rw[sN,hy]; rfl
    rw[sI] at hr
    have g:=hL (X:=[_,_]) h9 (pin.r _ hzm y hym)
    refine⟨_,U,.inl ⟨U,_,SqL.of (h9.get 1 U)⟩,_,U,y.1,_,_,_,U,U,SqT.of g,aH (j:=0) rfl,?_⟩
    refine⟨_,U,_,U,y.1,_,U,SqT.of g,?_,fun tl htl=>?_⟩
    ·unfold Rw.v
     exact nX (by rw[sT,sI]; omega) (by rw[sT,sI]; exact y.2.nsl)
    have hcut:bQ y.2.v (some 1) none=y.2.ns.map V.int:=by cases y.2 <;> rfl
    rw[hcut]
    have h10:=h9.alloc htl (.tup (y.2.ns.map V.int))
    refine⟨y.2.ws,tl,false,y.2.ns,_,U,h10,.inr ⟨U,sM⟩,y.2.wsl,hr.2 _ (sL hyR),fun H11 h11=>?_⟩
    have h11:=h11.tail
    refine⟨ll,_,_,U,U,h11.get 1 U,sizeOk (by simp only[sI,sW,sT,tx]; omega),?_⟩
    refine⟨_,U,?_⟩
    have h12:=h11.puti 1 U (.lst ((pre++("stretch" : Str)::(((ss[i].2.map (·.2)).take j).map rwL)).map V.str++[.str (rwL y.2)]))
    have e12:(pre++("stretch" : Str)::(((ss[i].2.map (·.2)).take j).map rwL)).map V.str++[.str (rwL y.2)]=(pre++("stretch" : Str)::(((ss[i].2.map (·.2)).take (j+1)).map rwL)).map V.str:=by
     rw[List.take_succ,hyR]
     simp[sP]
    rw[e12] at h12
    rw[show V.str (lnT y.2.ws y.2.ns)=V.str (rwL y.2) from rfl,e12]
    exact h12
   ·rintro σ H9 ⟨o3,rfl,h9⟩
    have lr:(rwV ss[i].2).length=(ss[i].2.map (·.2)).length:=by unfold rwV; rw[sI,sI]
    rw[lr,List.take_length] at h9
    refine⟨_,_,U,?_⟩
    have e:lnT "marks" ms::lnT "widths" ws::((ssR ss).take (i+1)).flatMap stL=pre++("stretch" : Str)::((ss[i].2.map (·.2)).map rwL):=by
     rw[List.take_succ,hR,List.flatMap_append,<- epre]
     simp[stL]
    rw[e]
    exact h9.tail
  ·rintro σ H6 ⟨o2,o3,rfl,h6⟩
   have l0:((ssV ss).length:Int).toNat=(ssR ss).length:=by unfold ssV; rw[sI,lsR]; omega
   rw[l0,List.take_length] at h6
   exact⟨U,_,U,_,ll,prL ms ws (ssR ss),U,U,SqL.of (h6.get 0 U),hok,q _ h6.tail⟩
end
theorem Rw.wsl10:∀ (x:Rw),x.ws.length<=10
 | .bell _=>(by decide +kernel:("bell" : Str).length<=10)
 | .set _ _=>(by decide +kernel:("set" : Str).length<=10)
 | .ask _ _ _=>(by decide +kernel:("ask" : Str).length<=10)
 | .bump _ _=>(by decide +kernel:("bump" : Str).length<=10)
 | .go _=>(by decide +kernel:("go" : Str).length<=10)
 | .call _=>(by decide +kernel:("call" : Str).length<=10)
 | .fin=>(by decide +kernel:("end" : Str).length<=10)
theorem kE (x:Rw) (h:ko x.ns):(rwL x).length<=300:=by
 have h1:∀ y ∈ x.ws::x.ns.map nT,y.length<=60:=fun y hy=>by
  rcases sR.mp hy with rfl | hy
  ·exact Nat.le_trans x.wsl10 (by decide)
  ·obtain⟨n,hn,rfl⟩:=sZ.mp hy
   exact fk (h.2 n hn).1 (h.2 n hn).2
 refine Nat.le_trans (cX h1) ?_
 have:=x.nsl
 rw[sT,sI,show(Str.ofString " ").length=1 from rfl]
 omega
theorem jx {y:Str}{ns:List Int} (hy:y.length<=100) (hn:ko ns):(lnT y ns).length<=101101:=by
 refine Nat.le_trans (cX (ce hy hn)) ?_
 have:=hn.1
 rw[sT,sI,show(Str.ofString " ").length=1 from rfl]
 omega
theorem mK {ms ws:List Int} (h:Fit ms ws ss):JoinOk "\n" (prL ms ws ss)=true:=by
 have h1:=jx (y := "marks") (by decide +kernel) h.m
 have h2:=jx (y := "widths") (by decide +kernel) h.w
 have h3:∀ y ∈ ss.flatMap stL,y.length<=300:=fun y hy=>by
  obtain⟨rs,hrs,hy⟩:=List.mem_flatMap.mp hy
  unfold stL at hy
  rcases sR.mp hy with rfl | hy
  ·decide +kernel
  ·obtain⟨x,hx,rfl⟩:=sZ.mp hy
   exact kE x ((h.r rs hrs).2 x hx)
 have h4:(ss.flatMap stL).length<=40*121:=by
  have:=iA h ss.length
  rw[List.take_length] at this
  have:=h.s
  omega
 have h5:=iH 1 300 (ss.flatMap stL) (0+(lnT "marks" ms).length+1+(lnT "widths" ws).length+1) h3
 unfold JoinOk
 rw[Bool.not_eq_true']
 refine pY ?_
 rw[show(Str.ofString "\n").length=1 from rfl]
 rw[List.foldl_toArray]
 show(ss.flatMap stL).foldl (fun a y=>a+y.length+1) (0+(lnT "marks" ms).length+1+(lnT "widths" ws).length+1)<=sizeLine
 exact Nat.le_trans h5 (Nat.le_trans (show _<=3300000 by omega) (ou (Nat.le_refl _)))
inductive sp_pt (vs:List V) (H:Hp) (Q:VK) (E_:XK):Prop
 | mk (m w0 pl:Addr) (ms ws:List Int) (ss:Ss) (L:Kn) (_:vs=[.ref m,.ref w0,.ref pl]) (_:Has H L) (_:(m,HO.lst (ms.map V.int)) ∈ L) (_:(w0,HO.lst (ws.map V.int)) ∈ L) (_:(pl,HO.lst (ssV ss)) ∈ L) (_:(∀ z ∈ ss,(z.1,HO.lst (rwV z.2)) ∈ L)) (_:(∀ z ∈ ss,∀ x ∈ z.2,(x.1,HO.tup x.2.v) ∈ L)) (_:Fit ms ws (ssR ss)) (_:JoinOk "\n" (prL ms ws (ssR ss))=true) (_:∀ H',Has H' L->Q (.str (prT ms ws (ssR ss))) H'):sp_pt vs H Q E_
section
variable {P:Program}{w:World}{K:PySem.W.Frag}{mg:Str->Option Value}{base:Heap}{t:Adr}
theorem scPx:FnScope ["_law_marks","_law_widths","_law_parts_here","_law_lines","_law_rows","_law_deed"] ["_law_marks","_law_widths","_law_parts_here"] (ac fM):={}
theorem ok_Jb (T:Txt K mg t):FnOk P w K mg base CX0 1 t.f_Jb t.d_Jb ["_law_marks","_law_widths","_law_parts_here"] sp_pt:=by
 refine T.F_Jb.ok scPx (fun vs H Q E h=>?_) (fun cdv A outer s H vs Q E hr h=>?_)
 ·obtain⟨_,_,_,_,_,_,_,rfl,_⟩:=h
  rfl
 ·obtain⟨m,w0,pl,ms,ws,ss,L,rfl,hH,mm,mw,mp,mz,mr,fit,hok,q⟩:=h
  have hL:∀ {H':Hp}{X:Kn}{z:Addr×HO},Has H' (X++L)->z ∈ L->H' z.1=some z.2:=fun h m=>h.at_ _ (sJ _ m)
  have lsR:(ssR ss).length=ss.length:=by unfold ssR; rw[sI]
  refine⟨_,(af (aC (i:=3) scPx.nd rfl (Or.inl rfl) (aV (aa (bf PySem.F.plainAttrs_str PySem.F.slot_str_join PySem.F.type_str_join cB ah (aa (ak dt (aV (aa ah ad)) (dD (esc:=ac fM) (k:=1) ["_law_side","_law_marks","_law_widths","_law_parts_here","_law_lines","_law_rows","_law_deed"] rfl (bh (pv 0)) (fun _ _ _ _ _=>by exact(az (i:=0) (show List.Nodup (["_law_side","_law_marks","_law_widths","_law_parts_here","_law_lines","_law_rows","_law_deed"]:List Str) from by decide +kernel) rfl (Or.inl rfl))) (fun _ _ _ _ _=>by exact bB) (fun _ _ _ _ _=>by exact(aO b9 (by rfl) T.z_str (by rfl) (aa (pv 0) ad))) rfl (by decide +kernel) (by decide +kernel) rfl (by decide +kernel) (by rfl) (fun _ _ h _=>h) (by decide +kernel))) ad)) ad)))
   (af (aG (bf PySem.F.plainAttrs_list PySem.F.slot_list_append PySem.F.type_list_append aR (pv 3) (aa (bf PySem.F.plainAttrs_str PySem.F.slot_str_join PySem.F.type_str_join cB ah (aa (ak dt (aV (aa ah ad)) (dD (esc:=ac fM) (k:=1) ["_law_width","_law_marks","_law_widths","_law_parts_here","_law_lines","_law_rows","_law_deed"] rfl (bh (pv 1)) (fun _ _ _ _ _=>by exact(az (i:=0) (show List.Nodup (["_law_width","_law_marks","_law_widths","_law_parts_here","_law_lines","_law_rows","_law_deed"]:List Str) from by decide +kernel) rfl (Or.inl rfl))) (fun _ _ _ _ _=>by exact bB) (fun _ _ _ _ _=>by exact(aO b9 (by rfl) T.z_str (by rfl) (aa (pv 0) ad))) rfl (by decide +kernel) (by decide +kernel) rfl (by decide +kernel) (by rfl) (fun _ _ h _=>h) (by decide +kernel))) ad)) ad)))
   (af (bv PassesOwn.never rfl (bh (pv 2)) (az (i:=4) scPx.nd rfl (Or.inl rfl))
    (af (aG (bf PySem.F.plainAttrs_list PySem.F.slot_list_append PySem.F.type_list_append aR (pv 3) (aa ah ad)))
     (ag (bv PassesOwn.never rfl (bh (pv 4)) (az (i:=5) scPx.nd rfl (Or.inl rfl))
      (ag (aG (bf PySem.F.plainAttrs_list PySem.F.slot_list_append PySem.F.type_list_append aR (pv 3) (aa (bf PySem.F.plainAttrs_str PySem.F.slot_str_join PySem.F.type_str_join cB ah (aa (ak dt (aV (aa (aA dL (pv 5) ae) ad)) (dD (esc:=ac fM) (k:=1) ["_law_number","_law_marks","_law_widths","_law_parts_here","_law_lines","_law_rows","_law_deed"] rfl (qD (bG jU (pv 5) (bX ae) bY)) (fun _ _ _ _ _=>by exact(az (i:=0) (show List.Nodup (["_law_number","_law_marks","_law_widths","_law_parts_here","_law_lines","_law_rows","_law_deed"]:List Str) from by decide +kernel) rfl (Or.inl rfl))) (fun _ _ _ _ _=>by exact bB) (fun _ _ _ _ _=>by exact(aO b9 (by rfl) T.z_str (by rfl) (aa (pv 0) ad))) rfl (by decide +kernel) (by decide +kernel) rfl (by decide +kernel) (by rfl) (fun _ _ h _=>h) (by decide +kernel))) ad)) ad))))))))
   (ag (aJ (bf PySem.F.plainAttrs_str PySem.F.slot_str_join PySem.F.type_str_join cB ah (aa (pv 3) ad))))))),?_⟩
  rw[]
  refine⟨U,(sz_ 1),fun l1 hl1=>?_⟩
  have k1:Has _ (((l1,HO.lst [.str ("marks" : Str)])::[])++L):=hH.alloc hl1 (.lst [.str ("marks" : Str)])
  refine⟨_,U,m,U,⟨_,SqL.of (hL k1 mm)⟩,fun D hD=>?_⟩
  refine⟨fun n mm zs H'=>mm=ms.length - n/\n<=ms.length/\zs=(ms.take n).map (fun x=>V.str (nT x))/\Has H' (((D,HO.lst zs)::(l1,HO.lst [.str ("marks" : Str)])::[])++L),⟨_,U,Nat.zero_le _,U,k1.alloc hD _⟩,?_⟩
  rintro n mm zs H2 ⟨rfl,hn,ez,h2⟩
  refine⟨h2.get 0 U,?_⟩
  have lz:zs.length<=1000:=by rw[ez,sI,tx]; have:=fit.m.1; omega
  by_cases hlt:n<ms.length
  ·have hx0:(ms.map V.int)[n]?=some (.int ms[n]):=by rw[sN,sK hlt]; rfl
   refine .inr ⟨⟨_,_,SqL.of (hL h2 mm),hx0⟩,?_⟩
   rintro x H3 ⟨rfl,hx⟩
   have e1:=hx _ (SqL.of (hL h2 mm))
   rw[hx0] at e1
   cases e1
   have nb:=fit.m.2 ms[n] (List.getElem_mem hlt)
   refine⟨U,bS ?_⟩
   refine⟨_,U,_,U,fj nb.1 nb.2,?_⟩
   refine⟨sizeOk (by omega),h2.get 0 U,ms.length - (n+1),by omega,U,hlt,?_,h2.puti 0 U _⟩
   rw[ez,List.take_succ,sK hlt,sP]
   rfl
  refine .inl ⟨⟨_,SqL.of (hL h2 mm),by rw[sI]; omega⟩,?_⟩
  have en:n=ms.length:=by omega
  rw[en,List.take_length] at ez
  refine⟨l1,D,_,_,U,U,SqL.of (h2.get 1 U),SqL.of (h2.get 0 U),Nat.le_trans (show [V.str ("marks" : Str)].length+zs.length<=1001 by simp; omega) ((sz_ 1001)),fun l hl=>?_⟩
  have h3:=h2.alloc hl (.lst ([.str ("marks" : Str)]++zs))
  have e3:[V.str ("marks" : Str)]++zs=(("marks" : Str)::ms.map nT).map V.str:=by rw[ez]; simp
  rw[e3] at h3 ⊢
  refine⟨_,l,("marks" : Str)::ms.map nT,U,U,SqL.of (h3.get 0 U),eG (M:=100) (ce (by decide +kernel) fit.m) (by
   have:=fit.m.1
   rw[sT,sI,show(Str.ofString " ").length=1 from rfl]
   exact Nat.le_trans (show(ms.length+1)*(100+1)<=1000000 by omega) (sz (Nat.le_refl _))),?_⟩
  refine⟨(sz_ 1),fun ll hll=>?_⟩
  have h4:Has _ ([(ll,HO.lst [.str (lnT "marks" ms)])]++L):=(h3.tail.tail.tail).alloc (o:=.lst [.str (lnT "marks" ms)]) hll
  dsimp only[List.set]
  clear h3 h2 k1 e3 ez lz
  refine⟨_,U,.inl ⟨U,_,SqL.of (h4.get 0 U)⟩,?_⟩
  refine⟨U,(sz_ 1),fun l1 hl1=>?_⟩
  have k1:Has _ (((l1,HO.lst [.str ("widths" : Str)])::[(ll,HO.lst [.str (lnT "marks" ms)])])++L):=h4.alloc hl1 (.lst [.str ("widths" : Str)])
  refine⟨_,U,w0,U,⟨_,SqL.of (hL k1 mw)⟩,fun D hD=>?_⟩
  refine⟨fun n mm zs H'=>mm=ws.length - n/\n<=ws.length/\zs=(ws.take n).map (fun x=>V.str (nT x))/\Has H' (((D,HO.lst zs)::(l1,HO.lst [.str ("widths" : Str)])::[(ll,HO.lst [.str (lnT "marks" ms)])])++L),⟨_,U,Nat.zero_le _,U,k1.alloc hD _⟩,?_⟩
  rintro n mm zs H2 ⟨rfl,hn,ez,h2⟩
  refine⟨h2.get 0 U,?_⟩
  have lz:zs.length<=1000:=by rw[ez,sI,tx]; have:=fit.w.1; omega
  by_cases hlt:n<ws.length
  ·have hx0:(ws.map V.int)[n]?=some (.int ws[n]):=by rw[sN,sK hlt]; rfl
   refine .inr ⟨⟨_,_,SqL.of (hL h2 mw),hx0⟩,?_⟩
   rintro x H3 ⟨rfl,hx⟩
   have e1:=hx _ (SqL.of (hL h2 mw))
   rw[hx0] at e1
   cases e1
   have nb:=fit.w.2 ws[n] (List.getElem_mem hlt)
   refine⟨U,bS ?_⟩
   refine⟨_,U,_,U,fj nb.1 nb.2,?_⟩
   refine⟨sizeOk (by omega),h2.get 0 U,ws.length - (n+1),by omega,U,hlt,?_,h2.puti 0 U _⟩
   rw[ez,List.take_succ,sK hlt,sP]
   rfl
  refine .inl ⟨⟨_,SqL.of (hL h2 mw),by rw[sI]; omega⟩,?_⟩
  have en:n=ws.length:=by omega
  rw[en,List.take_length] at ez
  refine⟨l1,D,_,_,U,U,SqL.of (h2.get 1 U),SqL.of (h2.get 0 U),Nat.le_trans (show [V.str ("widths" : Str)].length+zs.length<=1001 by simp; omega) ((sz_ 1001)),fun l hl=>?_⟩
  have h3:=h2.alloc hl (.lst ([.str ("widths" : Str)]++zs))
  have e3:[V.str ("widths" : Str)]++zs=(("widths" : Str)::ws.map nT).map V.str:=by rw[ez]; simp
  rw[e3] at h3 ⊢
  refine⟨_,l,("widths" : Str)::ws.map nT,U,U,SqL.of (h3.get 0 U),eG (M:=100) (ce (by decide +kernel) fit.w) (by
   have:=fit.w.1
   rw[sT,sI,show(Str.ofString " ").length=1 from rfl]
   exact Nat.le_trans (show(ws.length+1)*(100+1)<=1000000 by omega) (sz (Nat.le_refl _))),?_⟩
  have h5:=h3.tail.tail.tail
  refine⟨ll,_,_,U,U,h5.get 0 U,sizeOk (show 1<=1000000 by decide),?_⟩
  have h6:Has _ ([(ll,HO.lst ([lnT "marks" ms,lnT "widths" ws].map V.str))]++L):=h5.puti 0 U (.lst ([lnT "marks" ms,lnT "widths" ws].map V.str))
  clear h5 h3 h2 k1 e3 ez lz h4
  refine⟨_,U,pl,U,⟨_,SqL.of (hL h6 mp)⟩,bP (xs:=ssV ss) (fun i σ H'=>∃ (o4 o5:Option V),σ=[some (.ref m),some (.ref w0),some (.ref pl),some (.ref ll),o4,o5]/\Has H' ([(ll,HO.lst ((lnT "marks" ms::lnT "widths" ws::((ssR ss).take i).flatMap stL).map V.str))]++L)) ⟨_,_,U,h6⟩ (fun i σ H' _ ⟨_,_,_,e⟩=>SqL.of (hL e mp)) ?_ ?_⟩
  ·clear h6
   rintro i x σ H6 hx ⟨o4,o5,rfl,h6⟩
   unfold ssV at hx
   rw[sN] at hx
   obtain⟨z,hz,rfl⟩:=Option.map_eq_some_iff.mp hx
   have hzm:=sL hz
   have hi:=(List.getElem?_eq_some_iff.mp hz).1
   obtain⟨pre,epre⟩:∃ pre,lnT "marks" ms::lnT "widths" ws::((ssR ss).take i).flatMap stL=pre:=⟨_,U⟩
   have lpre:pre.length<=2+i*121:=by
    rw[<- epre]
    have:=iA fit i
    simp only[sT]
    omega
   rw[epre] at h6
   have hR:(ssR ss)[i]?=some (z.2.map (·.2)):=by unfold ssR; rw[sN,hz]; rfl
   have hr:=fit.r _ (sL hR)
   rw[sI] at hr
   have s40:=fit.s
   rw[lsR] at s40
   refine⟨_,U,.inl ⟨U,_,SqL.of (h6.get 0 U)⟩,ll,_,_,U,U,h6.get 0 U,sizeOk (by rw[sI]; omega),?_⟩
   have h7:=h6.puti 0 U (.lst (pre.map V.str++[.str "stretch"]))
   refine⟨_,U,z.1,U,⟨_,SqL.of (hL (X:=[_]) h7 (mz z hzm))⟩,bP (xs:=rwV z.2) (fun j σ H'=>∃ (o5:Option V),σ=[some (.ref m),some (.ref w0),some (.ref pl),some (.ref ll),some (.ref z.1),o5]/\Has H' ([(ll,HO.lst ((pre++("stretch" : Str)::(((z.2.map (·.2)).take j).map rwL)).map V.str))]++L)) ⟨_,U,?_⟩ (fun j σ H' _ ⟨_,_,e⟩=>SqL.of (hL e (mz z hzm))) ?_ ?_⟩
   ·rw[List.take_zero,List.map_nil,sP]
    exact h7
   ·rintro j x σ H9 hx ⟨o5,rfl,h9⟩
    unfold rwV at hx
    rw[sN] at hx
    obtain⟨y,hy,rfl⟩:=Option.map_eq_some_iff.mp hx
    have hym:=sL hy
    have jl:=(List.getElem?_eq_some_iff.mp hy).1
    have hyR:(z.2.map (·.2))[j]?=some y.2:=by rw[sN,hy]; rfl
    have fy:=hr.2 _ (sL hyR)
    have lcur:(pre++("stretch" : Str)::(((z.2.map (·.2)).take j).map rwL)).length<=10000:=by
     simp only[sI,sW,sT,tx]
     omega
    have enext:(pre++("stretch" : Str)::(((z.2.map (·.2)).take j).map rwL)).map V.str++[.str (rwL y.2)]=(pre++("stretch" : Str)::(((z.2.map (·.2)).take (j+1)).map rwL)).map V.str:=by
     rw[List.take_succ,hyR]
     simp[sP]
    obtain⟨cur,ecur⟩:∃ cur,pre++("stretch" : Str)::(((z.2.map (·.2)).take j).map rwL)=cur:=⟨_,U⟩
    rw[ecur] at h9 lcur enext
    refine⟨_,U,.inl ⟨U,_,SqL.of (h9.get 0 U)⟩,?_⟩
    refine⟨U,_,U,y.1,_,_,_,U,U,SqT.of (hL h9 (mr z hzm y hym)),aH (j:=0) rfl,(sz_ 1),fun l1 hl1=>?_⟩
    have k1:Has _ (((l1,HO.lst [.str y.2.ws])::[(ll,HO.lst (cur.map V.str))])++L):=h9.alloc hl1 (.lst [.str y.2.ws])
    refine⟨_,U,_,U,y.1,_,U,SqT.of (hL k1 (mr z hzm y hym)),(by
     unfold Rw.v
     exact nX (by rw[sT,sI]; omega) (by rw[sT,sI]; exact y.2.nsl)),fun tl htl=>?_⟩
    have hcut:bQ y.2.v (some 1) none=y.2.ns.map V.int:=by cases y.2 <;> rfl
    rw[hcut]
    have k2:Has _ (((tl,HO.tup (y.2.ns.map V.int))::(l1,HO.lst [.str y.2.ws])::[(ll,HO.lst (cur.map V.str))])++L):=k1.alloc htl (.tup (y.2.ns.map V.int))
    refine⟨tl,U,⟨_,SqT.of (k2.get 0 U)⟩,fun D hD=>?_⟩
    refine⟨fun n mm zs H'=>mm=y.2.ns.length - n/\n<=y.2.ns.length/\zs=(y.2.ns.take n).map (fun x=>V.str (nT x))/\Has H' (((D,HO.lst zs)::(tl,HO.tup (y.2.ns.map V.int))::(l1,HO.lst [.str y.2.ws])::[(ll,HO.lst (cur.map V.str))])++L),⟨_,U,Nat.zero_le _,U,k2.alloc hD _⟩,?_⟩
    rintro n mm zs H2 ⟨rfl,hn,ez,h2⟩
    refine⟨h2.get 0 U,?_⟩
    have lz:zs.length<=1000:=by rw[ez,sI,tx]; have:=fy.1; omega
    by_cases hlt:n<y.2.ns.length
    ·have hx0:(y.2.ns.map V.int)[n]?=some (.int y.2.ns[n]):=by rw[sN,sK hlt]; rfl
     refine .inr ⟨⟨_,_,SqT.of (h2.get 1 U),hx0⟩,?_⟩
     rintro x H3 ⟨rfl,hx⟩
     have e1:=hx _ (SqT.of (h2.get 1 U))
     rw[hx0] at e1
     cases e1
     have nb:=fy.2 y.2.ns[n] (List.getElem_mem hlt)
     refine⟨U,bS ?_⟩
     refine⟨_,U,_,U,fj nb.1 nb.2,?_⟩
     refine⟨sizeOk (by omega),h2.get 0 U,y.2.ns.length - (n+1),by omega,U,hlt,?_,h2.puti 0 U _⟩
     rw[ez,List.take_succ,sK hlt,sP]
     rfl
    refine .inl ⟨⟨_,SqT.of (h2.get 1 U),by rw[sI]; omega⟩,?_⟩
    have en:n=y.2.ns.length:=by omega
    rw[en,List.take_length] at ez
    refine⟨l1,D,_,_,U,U,SqL.of (h2.get 2 U),SqL.of (h2.get 0 U),Nat.le_trans (show [V.str y.2.ws].length+zs.length<=1001 by simp; omega) ((sz_ 1001)),fun l hl=>?_⟩
    have h3:=h2.alloc hl (.lst ([.str y.2.ws]++zs))
    have e3:[V.str y.2.ws]++zs=(y.2.ws::y.2.ns.map nT).map V.str:=by rw[ez]; simp
    rw[e3] at h3 ⊢
    refine⟨_,l,y.2.ws::y.2.ns.map nT,U,U,SqL.of (h3.get 0 U),eG (M:=100) (ce y.2.wsl fy) (by
     have:=fy.1
     rw[sT,sI,show(Str.ofString " ").length=1 from rfl]
     exact Nat.le_trans (show(y.2.ns.length+1)*(100+1)<=1000000 by omega) (sz (Nat.le_refl _))),?_⟩
    have h10:=h3.tail.tail.tail.tail
    refine⟨ll,_,_,U,U,h10.get 0 U,sizeOk (by rw[sI]; omega),?_⟩
    have h12:=h10.puti 0 U (.lst (cur.map V.str++[.str (rwL y.2)]))
    rw[enext] at h12
    refine⟨_,U,?_⟩
    rw[show V.str (Txt.join " " (y.2.ws::y.2.ns.map nT))=V.str (rwL y.2) from rfl,enext]
    exact h12
   ·rintro σ H9 ⟨o5,rfl,h9⟩
    have lr:(rwV z.2).length=(z.2.map (·.2)).length:=by unfold rwV; rw[sI,sI]
    rw[lr,List.take_length] at h9
    refine⟨_,_,U,?_⟩
    have e:lnT "marks" ms::lnT "widths" ws::((ssR ss).take (i+1)).flatMap stL=pre++("stretch" : Str)::((z.2.map (·.2)).map rwL):=by
     rw[List.take_succ,hR,List.flatMap_append,<- epre]
     simp[stL]
    rw[e]
    exact h9
  ·clear h6
   rintro σ H6 ⟨o4,o5,rfl,h6⟩
   have l0:(ssV ss).length=(ssR ss).length:=by unfold ssV; rw[sI,lsR]
   rw[l0,List.take_length] at h6
   exact⟨U,_,U,_,ll,prL ms ws (ssR ss),U,U,SqL.of (h6.get 0 U),hok,q _ h6.tail⟩
end
structure S34 (H:Hp) (ml wl pl:Addr) (ms ws:List Int) (ss:Ss) (N L:Kn):Prop where
 has:Has H ((pl,.lst (ssV ss))::(wl,.lst (ws.map V.int))::(ml,.lst (ms.map V.int))::(N++L))
 l:∀ z ∈ ss,(z.1,HO.lst (rwV z.2)) ∈ N
 r:∀ z ∈ ss,∀ x ∈ z.2,(x.1,HO.tup x.2.v) ∈ N
 nd:(ss.map (·.1)).Nodup
 sm:SmI ms
 sw:SmI ws
 sS:SmS ss
theorem lH {n:Nat}{i:Int} (h0:0<=i) (h1:i<n):ixN n i=some i.toNat:=by unfold ixN; rw[if_pos h0,if_pos h1]
theorem SmI.put {ms:List Int} (h:SmI ms) {v:Int} (hv:v.natAbs<=10 ^ 58) (i:Nat):SmI (ms.set i v):=⟨by rw[List.length_set]; exact h.1,fun n hn=>by
 rcases List.mem_or_eq_of_mem_set hn with hn | rfl
 ·exact h.2 n hn
 ·exact hv⟩
theorem S34.more {ml wl pl:Addr}{ms ws:List Int}{ss:Ss}{N L:Kn} (h:S34 H ml wl pl ms ws ss N L) {p:Addr} (hp:H p=none) (o:HO):S34 (upd H p o) ml wl pl ms ws ss N L:={ h with has:=(h.has.alloc hp o).tail }
theorem S34.addN {ml wl pl:Addr}{ms ws:List Int}{ss:Ss}{N L:Kn} (h:S34 H ml wl pl ms ws ss N L) {p:Addr} (hp:H p=none) (o:HO):S34 (upd H p o) ml wl pl ms ws ss ((p,o)::N) L :=
 { h with
  has:=(h.has.alloc hp o).perm ((List.Perm.swap _ _ _).trans (.cons _ ((List.Perm.swap _ _ _).trans (.cons _ (List.Perm.swap _ _ _)))))
  l:=fun z hz=>sH _ (h.l z hz)
  r:=fun z hz x hx=>sH _ (h.r z hz x hx) }
theorem S34.setM {ml wl pl:Addr}{ms ws:List Int}{ss:Ss}{N L:Kn} (h:S34 H ml wl pl ms ws ss N L) (i:Nat) {v:Int} (hv:v.natAbs<=10 ^ 58):S34 (upd H ml (.lst ((ms.map V.int).set i (.int v)))) ml wl pl (ms.set i v) ws ss N L :=
 { h with
  has:=by
   have:=h.has.puti 2 U (.lst ((ms.map V.int).set i (.int v)))
   rw[show(ms.map V.int).set i (.int v)=(ms.set i v).map V.int from List.map_set.symm] at this ⊢
   exact this
  sm:=h.sm.put hv i }
theorem S34.setW {ml wl pl:Addr}{ms ws:List Int}{ss:Ss}{N L:Kn} (h:S34 H ml wl pl ms ws ss N L) (i:Nat) {v:Int} (hv:v.natAbs<=10 ^ 58):S34 (upd H wl (.lst ((ws.map V.int).set i (.int v)))) ml wl pl ms (ws.set i v) ss N L :=
 { h with
  has:=by
   have:=h.has.puti 1 U (.lst ((ws.map V.int).set i (.int v)))
   rw[show(ws.map V.int).set i (.int v)=(ws.set i v).map V.int from List.map_set.symm] at this ⊢
   exact this
  sw:=h.sw.put hv i }
theorem S34.clear {ml wl pl:Addr}{ms ws:List Int}{ss:Ss}{N L:Kn} (h:S34 H ml wl pl ms ws ss N L):S34 (upd H pl (.lst [])) ml wl pl ms ws [] N L :=
 { h with
  has:=h.has.puti 0 U (.lst [])
  l:=fun z hz=>nomatch hz
  r:=fun z hz=>nomatch hz
  nd:=List.nodup_nil
  sS:=⟨Nat.zero_le _,fun z hz=>nomatch hz⟩ }
theorem cg {α:Type}{l:List α}{i:Nat}{x y:α} (h:y ∈ l.set i x):(∃ j,j≠i/\l[j]?=some y)∨y=x:=by
 obtain⟨j,hj⟩:=List.mem_iff_getElem?.mp h
 by_cases c:j=i
 ·subst c
  rw[List.getElem?_set] at hj
  rw[if_pos rfl] at hj
  split at hj
  ·exact .inr (Option.some.inj hj).symm
  ·cases hj
 ·exact .inl ⟨j,c,by rw[List.getElem?_set,if_neg (Ne.symm c)] at hj; exact hj⟩
variable{z:Addr×List (Addr×Rw)}
theorem q4 {ss:Ss} (h:(ss.map (·.1)).Nodup) {i:Nat} (hz:∀ j x,j≠i->ss[j]?=some x->x.1≠z.1):((ss.set i z).map (·.1)).Nodup:=by
 induction ss generalizing i with
 | nil=>exact h
 | cons a b ih=>
  rw[sX,List.nodup_cons] at h
  cases i with
  | zero=>
   rw[List.set_cons_zero,sX,List.nodup_cons]
   refine⟨fun m=>?_,h.2⟩
   obtain⟨x,hx,e⟩:=sZ.mp m
   obtain⟨j,hj⟩:=List.mem_iff_getElem?.mp hx
   exact hz (j+1) x (by omega) hj e
  | succ i=>
   rw[List.set_cons_succ,sX,List.nodup_cons]
   refine⟨fun m=>?_,ih h.2 (fun j x hj hx=>hz (j+1) x (by omega) hx)⟩
   obtain⟨x,hx,e⟩:=sZ.mp m
   rcases cg hx with ⟨j,_,hj⟩ | rfl
   ·exact h.1 (sZ.mpr ⟨x,sL hj,e⟩)
   ·exact hz 0 a (by omega) rfl e.symm
theorem SmS.put {ss:Ss} (h:SmS ss) {i:Nat} (hz:z.2.length<=1000/\∀ x ∈ z.2,SmR x.2):SmS (ss.set i z):=⟨by rw[List.length_set]; exact h.1,fun y hy=>by
 rcases cg hy with ⟨j,_,hj⟩ | rfl
 ·exact h.2 y (sL hj)
 ·exact hz⟩
theorem S34.setR {ml wl pl:Addr}{ms ws:List Int}{ss:Ss}{N L:Kn} (h:S34 H ml wl pl ms ws ss N L) {i:Nat} (hz:ss[i]?=some z) (hr:∀ x ∈ rs,(x.1,HO.tup x.2.v) ∈ N) (hs:rs.length<=1000/\∀ x ∈ rs,SmR x.2):∃ N',S34 (upd H z.1 (.lst (rwV rs))) ml wl pl ms ws (ss.set i (z.1,rs)) N' L:=by
 obtain⟨k,hk⟩:=List.mem_iff_getElem?.mp (h.l z (sL hz))
 have kl:=(List.getElem?_eq_some_iff.mp hk).1
 have il:=(List.getElem?_eq_some_iff.mp hz).1
 have keep:∀ {y:Addr×HO},y ∈ N->y≠(z.1,HO.lst (rwV z.2))->y ∈ N.set k (z.1,.lst (rwV rs)):=fun {y} hy ne=>by
  obtain⟨j,hj⟩:=List.mem_iff_getElem?.mp hy
  have:j≠k:=fun e=>by subst e; rw[hk] at hj; exact ne (Option.some.inj hj).symm
  exact List.mem_iff_getElem?.mpr ⟨j,by rw[List.getElem?_set,if_neg (Ne.symm this)]; exact hj⟩
 have ne:∀ j x,j≠i->ss[j]?=some x->x.1≠z.1:=fun j x hj hx e=>by
  have jl:=(List.getElem?_eq_some_iff.mp hx).1
  have e1:(ss.map (·.1))[j]?=some x.1:=by rw[sN,hx]; rfl
  have e2:(ss.map (·.1))[i]?=some x.1:=by rw[sN,hz,e]; rfl
  exact hj ((List.getElem?_inj (by rw[sI]; exact jl) h.nd).mp (e1.trans e2.symm))
 refine⟨N.set k (z.1,.lst (rwV rs)),?_⟩
 exact { h with
  has:=by
   have:=h.has.puti (3+k) (a:=z.1) (o:=.lst (rwV z.2)) (by
    rw[show 3+k=k+1+1+1 by omega,List.getElem?_cons_succ,List.getElem?_cons_succ,List.getElem?_cons_succ,tm kl]
    exact hk) (.lst (rwV rs))
   rw[show 3+k=k+1+1+1 by omega,List.set_cons_succ,List.set_cons_succ,List.set_cons_succ,List.set_append_left _ _ kl] at this
   rw[show ssV (ss.set i (z.1,rs))=ssV ss by
    unfold ssV
    rw[List.map_set]
    refine List.ext_getElem? fun j=>?_
    rw[List.getElem?_set]
    split
    ·next e=>subst e; rw[sI,if_pos il,sN,hz]; rfl
    ·rfl]
   exact this
  l:=fun y hy=>by
   rcases cg hy with ⟨j,hj,hjy⟩ | rfl
   ·exact keep (h.l y (sL hjy)) fun e=>ne j y hj hjy (Prod.mk.inj e).1
   ·exact List.mem_iff_getElem?.mpr ⟨k,by rw[List.getElem?_set,if_pos rfl,if_pos kl]⟩
  r:=fun y hy x hx=>by
   rcases cg hy with ⟨j,hj,hjy⟩ | rfl
   ·exact keep (h.r y (sL hjy) x hx) fun e=>nomatch (Prod.mk.inj e).2
   ·exact keep (hr x hx) fun e=>nomatch (Prod.mk.inj e).2
  nd:=q4 h.nd ne
  sS:=h.sS.put hs }
theorem Rw.put (y:Rw) (i:Nat) (hi:i<y.ns.length) (v:Int):∃ y':Rw,y'.v=y.v.set (i+1) (.int v)/\∀ n ∈ y'.ns,n ∈ y.ns∨n=v:=by
 cases y with
 | bell n=>match i,hi with | 0,_=>exact⟨.bell v,U,by simp[Rw.ns]⟩
 | set m s=>match i,hi with | 0,_=>exact⟨.set v s,U,by simp[Rw.ns]⟩ | 1,_=>exact⟨.set m v,U,by simp[Rw.ns]⟩
 | ask m a b=>match i,hi with | 0,_=>exact⟨.ask v a b,U,by simp[Rw.ns]⟩ | 1,_=>exact⟨.ask m v b,U,by simp[Rw.ns]⟩ | 2,_=>exact⟨.ask m a v,U,by simp[Rw.ns]⟩
 | bump c r=>match i,hi with | 0,_=>exact⟨.bump v r,U,by simp[Rw.ns]⟩ | 1,_=>exact⟨.bump c v,U,by simp[Rw.ns]⟩
 | go r=>match i,hi with | 0,_=>exact⟨.go v,U,by simp[Rw.ns]⟩
 | call s=>match i,hi with | 0,_=>exact⟨.call v,U,by simp[Rw.ns]⟩
 | fin=>exact absurd hi (by simp[Rw.ns])
theorem Rw.vl (y:Rw):y.v.length=y.ns.length+1:=by cases y <;> rfl
noncomputable def Nm (n:Int):Prop:=0<=n/\(n<100000000000000000000∨(100000000000000000000000000000000000000<=n/\n<100000000000000000001000000000000000000))
structure Gd (ms ws:List Int) (ss:Ss):Prop where
 m:∀ n ∈ ms,Nm n
 w:∀ n ∈ ws,Nm n
 s:∀ z ∈ ss,∀ x ∈ z.2,∀ n ∈ x.2.ns,Nm n
 lim:∃ M:Nat,ss.length*M<=120/\∀ z ∈ ss,z.2.length<=M
 c:ss.length<=40
 cm:ms.length<=30
 cw:ws.length<=30
theorem Gd.setM {ms ws:List Int}{ss:Ss} (h:Gd ms ws ss) (i:Nat) {v:Int} (hv:Nm v):Gd (ms.set i v) ws ss :=
 { h with m:=fun n hn=>(List.mem_or_eq_of_mem_set hn).elim (h.m n) (fun e=>by rw[e]; exact hv),cm:=by rw[List.length_set]; exact h.cm }
theorem Gd.setW {ms ws:List Int}{ss:Ss} (h:Gd ms ws ss) (i:Nat) {v:Int} (hv:Nm v):Gd ms (ws.set i v) ss :=
 { h with w:=fun n hn=>(List.mem_or_eq_of_mem_set hn).elim (h.w n) (fun e=>by rw[e]; exact hv),cw:=by rw[List.length_set]; exact h.cw }
theorem Gd.setR {ms ws:List Int}{ss:Ss} (h:Gd ms ws ss) {i:Nat} (hz:ss[i]?=some z) (hl:rs.length<=z.2.length) (hn:∀ x ∈ rs,∀ n ∈ x.2.ns,Nm n):Gd ms ws (ss.set i (z.1,rs)):=by
 obtain⟨M,m1,m2⟩:=h.lim
 refine { h with s:=fun y hy=>?_,lim:=⟨M,by rw[List.length_set]; exact m1,fun y hy=>?_⟩,c:=by rw[List.length_set]; exact h.c }
 ·rcases List.mem_or_eq_of_mem_set hy with hy | rfl
  ·exact h.s y hy
  ·exact hn
 ·rcases List.mem_or_eq_of_mem_set hy with hy | rfl
  ·exact m2 y hy
  ·exact Nat.le_trans hl (m2 z (sL hz))
theorem pick9 {c dr k:Int} (c0:0<=c) (c1:c<=1000) (h0:0<=dr) (h1:dr<10 ^ 18) (k0:0<=k) (k9:k<9):∃ n:Int,atI [V.int 0,V.int 1,V.int 9,V.int 10000,V.int c,V.int dr,V.int 3,V.int 2,V.int (dr+10 ^ (38:Int).toNat)] k=some (.int n)/\Nm n/\n.natAbs<=10 ^ 58:=by
 have e38:(10:Int) ^ (38:Int).toNat=100000000000000000000000000000000000000:=by decide
 rw[e38]
 have e58:(10:Nat) ^ 58=10000000000000000000000000000000000000000000000000000000000:=by decide
 rw[e58]
 have e18:(10:Int) ^ 18=1000000000000000000:=by decide
 rw[e18] at h1
 have hk:k=0∨k=1∨k=2∨k=3∨k=4∨k=5∨k=6∨k=7∨k=8:=by omega
 unfold Nm
 rcases hk with rfl | rfl | rfl | rfl | rfl | rfl | rfl | rfl | rfl
 ·exact⟨_,aH (j:=0) rfl,by omega,by omega⟩
 ·exact⟨_,aH (j:=1) rfl,by omega,by omega⟩
 ·exact⟨_,aH (j:=2) rfl,by omega,by omega⟩
 ·exact⟨_,aH (j:=3) rfl,by omega,by omega⟩
 ·exact⟨_,aH (j:=4) rfl,by omega,by omega⟩
 ·exact⟨_,aH (j:=5) rfl,by omega,by omega⟩
 ·exact⟨_,aH (j:=6) rfl,by omega,by omega⟩
 ·exact⟨_,aH (j:=7) rfl,by omega,by omega⟩
 ·exact⟨_,aH (j:=8) rfl,by omega,by omega⟩
inductive sp_ns (vs:List V) (H:Hp) (Q:VK) (E_:XK):Prop
 | mk (d ml wl pl:Addr) (ds:List Int) (a:Int) (ms ws:List Int) (ss:Ss) (N L:Kn) (_:vs=[.ref d,.int a,.ref ml,.ref wl,.ref pl]) (_:S34 H ml wl pl ms ws ss N L) (_:Gd ms ws ss) (_:ss≠[]) (_:(d,HO.lst (ds.map V.int)) ∈ L) (_:(∀ x ∈ ds,0<=x/\x<10 ^ 18)) (_:0<=a) (_:a+4<ds.length) (_:∀ H' ms' ws' ss' N',S34 H' ml wl pl ms' ws' ss' N' L->Gd ms' ws' ss'->ss'≠[]->Q .non H'):sp_ns vs H Q E_
section
variable {P:Program}{w:World}{K:PySem.W.Frag}{mg:Str->Option Value}{base:Heap}{t:Adr}
theorem scNs:FnScope ["_law_d","_law_at","_law_marks","_law_widths","_law_parts_here","_law_draw","_law_value","_law_rows","_law_row_here","_law_deed"] ["_law_d","_law_at","_law_marks","_law_widths","_law_parts_here"] (ac jf):={}
theorem ok_J5 (T:Txt K mg t):FnOk P w K mg base CX0 2 t.f_J5 t.d_J5 ["_law_d","_law_at","_law_marks","_law_widths","_law_parts_here"] sp_ns:=by
 refine T.F_J5.ok scNs (fun vs H Q E h=>?_) (fun cdv A outer s H vs Q E hr h=>?_)
 ·obtain⟨_,_,_,_,_,_,_,_,_,_,_,rfl,_⟩:=h
  rfl
 ·obtain⟨d,ml,wl,pl,ds,a,ms,ws,ss,N,L,rfl,hS,gd0,hne,md,hds,a0,a1,q⟩:=h
  have gd:∀ {H':Hp}{X N:Kn}{c1 c2 c3:Addr×HO},Has H' (X++(c1::c2::c3::(N++L)))->H' d=some (.lst (ds.map V.int)):=fun h=>h.at_ (d,_) (sJ _ (sH _ (sH _ (sH _ (sJ _ md)))))
  have db:∀ j:Int,0<=j->j<ds.length->0<=ds.getD j.toNat 0/\ds.getD j.toNat 0<10 ^ 18:=fun j h0 h1=>hds _ (by
   rw[List.getD_eq_getElem?_getD,sK (show j.toNat<ds.length by omega)]
   exact List.getElem_mem _)
  have sl:∀ (ss:Ss),(ssV ss).length=ss.length:=fun ss=>by unfold ssV; rw[sI]
  have rl:∀ (rs:List (Addr×Rw)),(rwV rs).length=rs.length:=fun rs=>by unfold rwV; rw[sI]
  refine⟨_,(af (aC (i:=5) scNs.nd rfl (Or.inl rfl) (aA au (pv 0) (ak aL (pv 1) ae)))
   (af (aC (i:=6) scNs.nd rfl (Or.inl rfl) (aA au (aV (aa ae (aa ae (aa ae (aa ae (aa (aq av (by rfl) T.z_len (by rfl) (aa (pv 4) ad)) (aa (pv 5) (aa ae (aa ae (aa (ak aL (pv 5) (ak mY ae ae)) ad)))))))))) (ak ay (aA au (pv 0) (ak aL (pv 1) ae) (fun _ _=>rfl)) ae)))
   (af (bj (aD (PW.pt (bJ (ap aZ (ak ay (aA au (pv 0) (pv 1)) ae) ae (ar _)) (bM (ap bW (aq av (by rfl) T.z_len (by rfl) (aa (pv 2) ad)) ae (ar _)))))
    (ag (bT (pv 6) (cH (pv 2) (ak ay (pv 5) (aq av (by rfl) T.z_len (by rfl) (aa (pv 2) ad))) bx)))
    ax))
   (af (bj (aD (PW.pt (bJ (ap aZ (ak ay (aA au (pv 0) (pv 1)) ae) ae (ar _)) (bM (ap bW (aq av (by rfl) T.z_len (by rfl) (aa (pv 3) ad)) ae (ar _)))))
    (ag (bT (pv 6) (cH (pv 3) (ak ay (pv 5) (aq av (by rfl) T.z_len (by rfl) (aa (pv 3) ad))) bx)))
    ax))
   (af (aC (i:=7) scNs.nd rfl (Or.inl rfl) (aA au (pv 4) (ak ay (pv 5) (aq av (by rfl) T.z_len (by rfl) (aa (pv 4) ad)))))
   (af (bj (aD (ap aZ (ak ay (aA au (pv 0) (pv 1)) ae) ae (ar _))
    (ag (aG (j4 PySem.F.plainAttrs_list PySem.F.slot_list_clear PySem.F.type_list_clear jt (pv 7))))
    ax))
   (af (bj (aD (PW.pt (bJ (ap bW (ak ay (aA au (pv 0) (pv 1)) ae) ae (ar _)) (bM (ap bW (aq av (by rfl) T.z_len (by rfl) (aa (pv 7) ad)) ae (ar _)))))
    (af (aC (i:=8) scNs.nd rfl (Or.inl rfl) (ak ay (aA au (pv 0) (ak aL (pv 1) ae)) (aq av (by rfl) T.z_len (by rfl) (aa (pv 7) ad))))
     (af (aC (i:=9) scNs.nd rfl (Or.inl rfl) (aO bp (by rfl) T.z_list (by rfl) (aa (aA au (pv 7) (pv 8)) ad)))
     (af (bj (aD (ap bW (aq av (by rfl) T.z_len (by rfl) (aa (pv 9) ad)) ae (ar _))
      (ag (bT (pv 6) (cH (pv 9) (ak aL ae (ak ay (aA au (pv 0) (ak aL (pv 1) ae)) (ak mX (aq av (by rfl) T.z_len (by rfl) (aa (pv 9) ad)) ae))) bx)))
      ax))
     (ag (bT (aO dG (by rfl) T.z_tuple (by rfl) (aa (pv 9) ad)) (cH (pv 7) (pv 8) bx))))))
    ax))
   (ag (bj (aD (PW.pt (bJ (ap aZ (ak ay (aA au (pv 0) (pv 1)) ae) ae (ar _)) (bM (ap bW (aq av (by rfl) T.z_len (by rfl) (aa (pv 7) ad)) ae (ar _)))))
    (ag (aG (j4 PySem.F.plainAttrs_list PySem.F.slot_list_pop PySem.F.type_list_pop rd (pv 7))))
    ax)))))))))),?_⟩
  rw[]
  have g0:=gd (X:=[]) hS.has
  refine⟨_,U,_,U,_,_,U,U,d,_,_,_,U,U,SqL.of g0,dgI (a+1) (by omega) (by omega),?_⟩
  dsimp only[List.set]
  obtain⟨dr,edr⟩:∃ dr,ds.getD (a+1).toNat 0=dr:=⟨_,U⟩
  have drb:=db (a+1) (by omega) (by omega)
  rw[edr] at drb
  rw[edr]
  refine⟨_,U,pl,_,U,.inl (SqL.of (hS.has.get 0 U)),_,U,_,U,_,_,U,U,?_,?_⟩
  ·exact⟨by decide,by decide,by decide⟩
  refine⟨_,_,U,U,(sz_ 9),fun p hp=>?_⟩
  rw[sl]
  have h1:=hS.has.alloc hp (.lst [.int 0,.int 1,.int 9,.int 10000,.int ss.length,.int dr,.int 3,.int 2,.int (dr+10 ^ (38:Int).toNat)])
  have hS1:=hS.more hp (.lst [.int 0,.int 1,.int 9,.int 10000,.int ss.length,.int dr,.int 3,.int 2,.int (dr+10 ^ (38:Int).toNat)])
  have sS1:=hS.sS.1
  obtain⟨v,hv,v0,vb⟩:=pick9 (c:=ss.length) (dr:=dr) (k:=ds.getD (a+2).toNat 0 % 9) (by omega) (by omega) drb.1 drb.2 (Int.emod_nonneg _ (by decide)) (Int.emod_lt_of_pos _ (by decide))
  refine⟨_,U,_,U,_,_,U,U,d,_,_,_,U,U,SqL.of (gd (X:=[_]) h1),dgI (a+2) (by omega) (by omega),_,_,U,U,(show(0:Int)<9 by decide),p,_,_,_,U,U,SqL.of (h1.get 0 U),hv,?_⟩
  dsimp only[List.set]
  clear hv h1
  obtain⟨Pn,ePn⟩:∃ Pn:St->Hp->Prop,(fun σ' H'=>∃ ms ws,σ'=[some (.ref d),some (.int a),some (.ref ml),some (.ref wl),some (.ref pl),some (.int dr),some (.int v),none,none,none]/\S34 H' ml wl pl ms ws ss N L/\Gd ms ws ss)=Pn:=⟨_,U⟩
  have mkP:∀ {H' ms ws},S34 H' ml wl pl ms ws ss N L->Gd ms ws ss->Pn [some (.ref d),some (.int a),some (.ref ml),some (.ref wl),some (.ref pl),some (.int dr),some (.int v),none,none,none] H':=fun h g=>by rw[<- ePn]; exact⟨_,_,U,h,g⟩
  have unP:∀ {σ' H'},Pn σ' H'->∃ ms ws,σ'=[some (.ref d),some (.int a),some (.ref ml),some (.ref wl),some (.ref pl),some (.int dr),some (.int v),none,none,none]/\S34 H' ml wl pl ms ws ss N L/\Gd ms ws ss:=fun h=>by rw[<- ePn] at h; exact h
  clear ePn
  refine⟨Pn,?_,?_⟩
  ·refine⟨_,U,_,U,d,_,_,_,U,U,SqL.of (gd (X:=[]) hS1.has),dgI a (by omega) (by omega),_,_,U,U,(show(0:Int)<6 by decide),U,_,U,?_⟩
   rw[bb]
   refine eK (fun z=>⟨_,U,ml,_,U,.inl (SqL.of (hS1.has.get 2 U)),_,_,U,U,_,U,z⟩) (fun _ hl=>?_) (fun _=>mkP hS1 gd0)
   rw[sI] at hl
   have em:0<=dr % (ms.length:Int)/\dr % (ms.length:Int)<ms.length:=⟨Int.emod_nonneg _ (by omega),Int.emod_lt_of_pos _ (by omega)⟩
   refine⟨_,U,_,U,_,U,_,U,ml,_,U,.inl (SqL.of (hS1.has.get 2 U)),_,_,U,U,(by rw[sI]; omega),ml,_,_,_,U,U,hS1.has.get 2 U,(by rw[sI]; exact lH em.1 em.2),?_⟩
   exact mkP (hS1.setM _ vb) (gd0.setM _ v0)
  clear hS1 hS gd0
  intro σ H1 hP
  obtain⟨ms,ws,rfl,hS,gd0⟩:=unP hP
  clear hP
  refine⟨Pn,?_,?_⟩
  ·refine⟨_,U,_,U,d,_,_,_,U,U,SqL.of (gd (X:=[]) hS.has),dgI a (by omega) (by omega),_,_,U,U,(show(0:Int)<6 by decide),U,_,U,?_⟩
   rw[bb]
   refine eK (fun z=>⟨_,U,wl,_,U,.inl (SqL.of (hS.has.get 1 U)),_,_,U,U,_,U,z⟩) (fun _ hl=>?_) (fun _=>mkP hS gd0)
   rw[sI] at hl
   have em:0<=dr % (ws.length:Int)/\dr % (ws.length:Int)<ws.length:=⟨Int.emod_nonneg _ (by omega),Int.emod_lt_of_pos _ (by omega)⟩
   refine⟨_,U,_,U,_,U,_,U,wl,_,U,.inl (SqL.of (hS.has.get 1 U)),_,_,U,U,(by rw[sI]; omega),wl,_,_,_,U,U,hS.has.get 1 U,(by rw[sI]; exact lH em.1 em.2),?_⟩
   exact mkP (hS.setW _ vb) (gd0.setW _ v0)
  clear hS gd0
  intro σ H2 hP
  obtain⟨ms,ws,rfl,hS,gd0⟩:=unP hP
  clear hP unP mkP Pn
  have pos:0<ss.length:=List.length_pos_iff.mpr hne
  have em:0<=dr % (ss.length:Int)/\dr % (ss.length:Int)<ss.length:=⟨Int.emod_nonneg _ (by omega),Int.emod_lt_of_pos _ (by omega)⟩
  obtain⟨here,ehere⟩:∃ here:Nat,dr % (ss.length:Int)=here:=Int.eq_ofNat_of_zero_le em.1
  have hlt:here<ss.length:=by omega
  obtain⟨z,hz⟩:∃ z,ss[here]?=some z:=⟨_,sK hlt⟩
  have gz:∀ {H':Hp}{X N:Kn}{c1 c2 c3 y:Addr×HO},Has H' (X++(c1::c2::c3::(N++L)))->y ∈ N->H' y.1=some y.2:=fun h m=>h.at_ _ (sJ _ (sH _ (sH _ (sH _ (sV _ m)))))
  refine⟨_,U,_,U,_,U,pl,_,U,.inl (SqL.of (hS.has.get 0 U)),_,_,U,U,(by rw[sl]; omega),pl,_,_,_,U,U,SqL.of (hS.has.get 0 U),(by rw[sl,ehere]; exact aH (cT hz)),?_⟩
  dsimp only[List.set]
  obtain⟨Pn,ePn⟩:∃ Pn:St->Hp->Prop,(fun σ' H'=>∃ ss N z' o8 o9,ss[here]?=some z'/\z'.1=z.1/\ss≠[]/\σ'=[some (.ref d),some (.int a),some (.ref ml),some (.ref wl),some (.ref pl),some (.int dr),some (.int v),some (.ref z.1),o8,o9]/\S34 H' ml wl pl ms ws ss N L/\Gd ms ws ss)=Pn:=⟨_,U⟩
  have mkP:∀ {H' ss N z' o8 o9},ss[here]?=some z'->z'.1=z.1->S34 H' ml wl pl ms ws ss N L->Gd ms ws ss->Pn [some (.ref d),some (.int a),some (.ref ml),some (.ref wl),some (.ref pl),some (.int dr),some (.int v),some (.ref z.1),o8,o9] H':=fun h1 h2 h g=>by rw[<- ePn]; exact⟨_,_,_,_,_,h1,h2,(fun e=>by rw[e] at h1; cases h1),rfl,h,g⟩
  have unP:∀ {σ' H'},Pn σ' H'->∃ ss N z' o8 o9,ss[here]?=some z'/\z'.1=z.1/\ss≠[]/\σ'=[some (.ref d),some (.int a),some (.ref ml),some (.ref wl),some (.ref pl),some (.int dr),some (.int v),some (.ref z.1),o8,o9]/\S34 H' ml wl pl ms ws ss N L/\Gd ms ws ss:=fun h=>by rw[<- ePn] at h; exact h
  clear ePn
  have put:∀ {H' ss N z'} (rs:List (Addr×Rw)),ss[here]?=some z'->z'.1=z.1->S34 H' ml wl pl ms ws ss N L->Gd ms ws ss->(∀ x ∈ rs,(x.1,HO.tup x.2.v) ∈ N)->rs.length<=z'.2.length->(∀ x ∈ rs,SmR x.2)->(∀ x ∈ rs,∀ n ∈ x.2.ns,Nm n)->∃ N' z'',(ss.set here (z'.1,rs))[here]?=some z''/\z''.1=z.1/\S34 (upd H' z'.1 (.lst (rwV rs))) ml wl pl ms ws (ss.set here (z'.1,rs)) N' L/\Gd ms ws (ss.set here (z'.1,rs)):=by
   intro H' ss N z' rs hz ez hS hg h1 h2 h3 h4
   obtain⟨N',hS'⟩:=hS.setR hz h1 ⟨Nat.le_trans h2 (hS.sS.2 z' (sL hz)).1,h3⟩
   exact⟨N',(z'.1,rs),by rw[List.getElem?_set,if_pos rfl,if_pos (List.getElem?_eq_some_iff.mp hz).1],ez,hS',hg.setR hz h2 h4⟩
  refine⟨Pn,?_,?_⟩
  ·refine⟨_,U,_,U,d,_,_,_,U,U,SqL.of (gd (X:=[]) hS.has),dgI a (by omega) (by omega),_,_,U,U,(show(0:Int)<6 by decide),U,_,U,?_⟩
   rw[bb]
   refine ifd (fun _=>?_) (fun _=>mkP hz rfl hS gd0)
   have g:=gz (X:=[]) hS.has (hS.l z (sL hz))
   obtain⟨N',z'',e1,e2,hS',hg'⟩:=put [] hz rfl hS gd0 (fun x hx=>nomatch hx) (Nat.zero_le _) (fun x hx=>nomatch hx) (fun x hx=>nomatch hx)
   exact⟨_,U,.inl ⟨U,_,SqL.of g⟩,z.1,_,U,U,g,mkP e1 e2 hS' hg'⟩
  clear hS gd0 hz hlt pos em ehere hne
  intro σ H3 hP
  obtain⟨ss,N,z',o8,o9,hz,ez,hne,rfl,hS,gd0⟩:=unP hP
  clear hP
  have rows_:∀ {H' ss N z'},S34 H' ml wl pl ms ws ss N L->ss[here]?=some z'->z'.1=z.1->H' z.1=some (.lst (rwV z'.2)):=fun hS hz ez=>by
   rw[<- ez]
   exact gz (X:=[]) hS.has (hS.l _ (sL hz))
  refine⟨Pn,?_,?_⟩
  ·refine⟨_,U,_,U,d,_,_,_,U,U,SqL.of (gd (X:=[]) hS.has),dgI a (by omega) (by omega),_,_,U,U,(show(0:Int)<6 by decide),_,_,U,U,_,U,?_⟩
   have g:=rows_ hS hz ez
   refine eK (fun y=>⟨_,U,z.1,_,U,.inl (SqL.of g),_,_,U,U,_,U,y⟩) (fun _ hl=>?_) (fun _=>mkP hz ez hS gd0)
   rw[rl] at hl
   have hzm:=sL hz
   refine⟨_,U,_,U,_,_,U,U,d,_,_,_,U,U,SqL.of (gd (X:=[]) hS.has),dgI (a+3) (by omega) (by omega),_,U,z.1,_,U,.inl (SqL.of g),_,_,U,U,(by rw[rl]; omega),?_⟩
   dsimp only[List.set]
   rw[rl]
   have em:0<=ds.getD (a+3).toNat 0 % (z'.2.length:Int)/\ds.getD (a+3).toNat 0 % (z'.2.length:Int)<z'.2.length:=⟨Int.emod_nonneg _ (by omega),Int.emod_lt_of_pos _ (by omega)⟩
   obtain⟨rw',erw⟩:∃ rw':Nat,ds.getD (a+3).toNat 0 % (z'.2.length:Int)=rw':=Int.eq_ofNat_of_zero_le em.1
   rw[erw] at em ⊢
   obtain⟨x,hx⟩:∃ x,z'.2[rw']?=some x:=⟨_,sK (by omega)⟩
   have hxm:=sL hx
   refine⟨_,U,_,U,z.1,_,_,_,U,U,SqL.of g,aH (kD hx),x.1,_,U,.inr (SqT.of (gz (X:=[]) hS.has (hS.r z' hzm x hxm))),fun dl hdl=>?_⟩
   dsimp only[List.set]
   have hd:=hS.has.alloc hdl (.lst x.2.v)
   have sx:=(hS.sS.2 z' hzm).2 x hxm
   have gx:=gd0.s z' hzm x hxm
   refine⟨fun σ' H'=>∃ y':Rw,SmR y'/\(∀ n ∈ y'.ns,Nm n)/\σ'=[some (.ref d),some (.int a),some (.ref ml),some (.ref wl),some (.ref pl),some (.int dr),some (.int v),some (.ref z.1),some (.int rw'),some (.ref dl)]/\Has H' ((dl,.lst y'.v)::(pl,.lst (ssV ss))::(wl,.lst (ws.map V.int))::(ml,.lst (ms.map V.int))::(N++L)),?_,?_⟩
   ·refine⟨_,U,dl,_,U,.inl (SqL.of (hd.get 0 U)),_,_,U,U,_,U,?_⟩
    refine ifd (fun c1=>?_) (fun _=>⟨x.2,sx,gx,U,hd⟩)
    rw[Rw.vl] at c1
    have e3:0<=ds.getD (a+4).toNat 0 % (x.2.ns.length:Int)/\ds.getD (a+4).toNat 0 % (x.2.ns.length:Int)<x.2.ns.length:=⟨Int.emod_nonneg _ (by omega),Int.emod_lt_of_pos _ (by omega)⟩
    obtain⟨j,ej⟩:∃ j:Nat,ds.getD (a+4).toNat 0 % (x.2.ns.length:Int)=j:=Int.eq_ofNat_of_zero_le e3.1
    have ev:((x.2.v.length:Nat):Int) - 1=(x.2.ns.length:Int):=by rw[Rw.vl]; omega
    refine⟨_,U,_,U,_,U,_,U,_,_,U,U,d,_,_,_,U,U,SqL.of (gd (X:=[_]) hd),dgI (a+4) (by omega) (by omega),_,U,dl,_,U,.inl (SqL.of (hd.get 0 U)),_,_,U,U,_,_,U,U,(by rw[ev]; omega),_,_,U,U,dl,_,_,_,U,U,hd.get 0 U,(by rw[ev,ej]; exact lH (by omega) (by rw[Rw.vl]; omega)),?_⟩
    obtain⟨y',ey,hy⟩:=x.2.put j (by omega) v
    refine⟨y',fun n hn=>(hy n hn).elim (fun m=>sx n m) (fun e=>by rw[e]; exact vb),fun n hn=>(hy n hn).elim (fun m=>gx n m) (fun e=>by rw[e]; exact v0),U,?_⟩
    have:=hd.puti 0 U (.lst (x.2.v.set (1+(j:Int)).toNat (.int v)))
    rw[show(1+(j:Int)).toNat=j+1 by omega,<- ey] at this ⊢
    exact this
   ·rintro σ H8 ⟨y',sy,gy,rfl,h8⟩
    refine⟨_,U,dl,_,U,.inl ⟨SqL.of (h8.get 0 U),fun e he=>?_⟩⟩
    have hS8:S34 H8 ml wl pl ms ws ss N L:={ hS with has:=h8.tail }
    have hS9:=hS8.addN he (.tup y'.v)
    refine⟨_,U,_,U,z.1,_,_,_,U,U,rows_ hS9 hz ez,(by rw[rl]; exact lH em.1 em.2),?_⟩
    have es:(rwV z'.2).set (rw':Int).toNat (.ref e)=rwV (z'.2.set rw' (e,y')):=by
     unfold rwV
     rw[List.map_set]
     rfl
    rw[es]
    obtain⟨N',z'',e1,e2,hS',hg'⟩:=put (z'.2.set rw' (e,y')) hz ez hS9 gd0 (fun u hu=>by
     rcases cg hu with ⟨k,_,hk⟩ | rfl
     ·exact hS9.r z' hzm u (sL hk)
     ·exact sM) (by rw[List.length_set]; exact Nat.le_refl _) (fun u hu=>by
     rcases cg hu with ⟨k,_,hk⟩ | rfl
     ·exact(hS.sS.2 z' hzm).2 u (sL hk)
     ·exact sy) (fun u hu=>by
     rcases cg hu with ⟨k,_,hk⟩ | rfl
     ·exact gd0.s z' hzm u (sL hk)
     ·exact gy)
    rw[ez] at e1 hS' hg'
    exact mkP e1 e2 hS' hg'
  clear hS gd0 hz hne ez
  intro σ H4 hP
  obtain⟨ss,N,z',o8,o9,hz,ez,hne,rfl,hS,gd0⟩:=unP hP
  clear hP
  have g:=rows_ hS hz ez
  refine⟨Pn,?_,?_⟩
  ·refine⟨_,U,_,U,d,_,_,_,U,U,SqL.of (gd (X:=[]) hS.has),dgI a (by omega) (by omega),_,_,U,U,(show(0:Int)<6 by decide),U,_,U,?_⟩
   rw[bb]
   refine eK (fun y=>⟨_,U,z.1,_,U,.inl (SqL.of g),_,_,U,U,_,U,y⟩) (fun _ hl=>?_) (fun _=>mkP hz ez hS gd0)
   rw[rl] at hl
   have hzm:=sL hz
   obtain⟨la,hla⟩:∃ la,z'.2[z'.2.length - 1]?=some la:=⟨_,sK (by omega)⟩
   refine⟨_,U,.inl ⟨U,_,SqL.of g⟩,z.1,_,_,U,U,g,(by rw[rl]; exact kD hla),?_⟩
   obtain⟨N',z'',e1,e2,hS',hg'⟩:=put z'.2.dropLast hz ez hS gd0 (fun x hx=>hS.r z' hzm x (List.dropLast_subset _ hx)) (by rw[List.length_dropLast]; omega) (fun x hx=>(hS.sS.2 z' hzm).2 x (List.dropLast_subset _ hx)) (fun x hx=>gd0.s z' hzm x (List.dropLast_subset _ hx))
   have ed:(rwV z'.2).dropLast=rwV z'.2.dropLast:=by unfold rwV; rw[List.map_dropLast]
   rw[ed]
   rw[ez] at e1 hS' hg'
   exact mkP e1 e2 hS' hg'
  intro σ H5 hP
  obtain⟨ss,N,z',o8,o9,hz,ez,hne,rfl,hS,gd0⟩:=unP hP
  exact q _ _ _ _ _ hS gd0 hne
end
theorem oz {a b:Str} (h:a.cps.toList=b.cps.toList):a=b:=by
 obtain⟨a⟩:=a
 obtain⟨b⟩:=b
 exact congrArg Str.mk (Array.toList_inj.mp h)
theorem apA (a b c:Str):a++b++c=a++(b++c):=oz (by rw[Str.appL,Str.appL,Str.appL,Str.appL,tj])
theorem apE (a:Str):a++("" : Str)=a:=oz (by rw[Str.appL]; exact tG _)
theorem eAp (a:Str):("" : Str)++a=a:=oz (by rw[Str.appL]; rfl)
theorem cD (s a:Str) {r:List Str} (h:r≠[]):Str.join s (a::r)=a++s++Str.join s r:=by
 cases r with
 | nil=>exact absurd rfl h
 | cons b r=>rfl
theorem nE (s x y:Str):∀ (A B:List Str),Str.join s (A++(x++s++y)::B)=Str.join s (A++x::y::B)
 | [],[]=>rfl
 | [],b::B=>by
  rw[List.nil_append,List.nil_append,cD s (x++s++y) (r:=b::B) (by simp),cD s x (r:=y::b::B) (by simp),cD s y (r:=b::B) (by simp)]
  simp only[apA]
 | a::A,B=>by
  rw[List.cons_append,List.cons_append,cD _ _ (by simp),cD _ _ (by simp),nE s x y A B]
theorem nF (s x:Str):∀ {A:List Str},A≠[]->Str.join s (A++[x])=Str.join s A++(s++x)
 | [],h=>absurd rfl h
 | [a],_=>apA a s x
 | a::b::A,_=>by
  rw[List.cons_append,cD _ _ (by simp),nF s x (by simp),cD s a (r:=b::A) (by simp)]
  simp only[apA]
theorem lTj (l:Ln):lT l=Str.join " " (l.1::l.2.map It54.t):=StrLaws.glued_eq_join _ _
theorem xTj (ls:List Ln):xT ls=Str.join "\n" (ls.map lT):=StrLaws.glued_eq_join _ _
theorem iG (l:Ln) (i:It54):lT l++((" " : Str)++i.t)=lT (l.1,l.2++[i]):=by
 rw[lTj,lTj,sP]
 exact(nF " " i.t (A:=l.1::l.2.map It54.t) (by simp)).symm
theorem p9 (ls:List Ln) (h:ls≠[]) (l:Ln):xT ls++(("\n" : Str)++lT l)=xT (ls++[l]):=by
 rw[xTj,xTj,sP]
 exact(nF "\n" (lT l) (A:=ls.map lT) (by simp[h])).symm
theorem om (ls:List Ln) (h:ls≠[]) (l:Ln):lT l++(("\n" : Str)++xT ls)=xT (l::ls):=by
 rw[xTj,xTj,sX,cD _ _ (by simp[h]),apA]
instance:DecidablePred Wk:=fun z=>by unfold Wk Asc eL; infer_instance
instance:DecidablePred It54.ok:=fun i=>by cases i <;> unfold It54.ok <;> infer_instance
instance (l:Ln):Decidable (LnOk l):=decidable_of_iff (Wk l.1/\(∀ x ∈ l.2,x.ok)/\l.2.length<=100) ⟨fun h=>⟨h.1,h.2.1,h.2.2⟩,fun h=>⟨h.1,h.2,h.3⟩⟩
noncomputable def qv (y:Str) (k:Nat):Bool:=match partsD.lookup y with
 | some q=>decide (q.length=k)
 | none=>false
theorem no_rw {y:Str}{k:Nat} (h:qv y k=false) (x:Rw):¬ (x.ws=y/\x.ns.length=k):=fun hx=>by
 unfold qv at h
 rw[<- hx.1,x.parts] at h
 exact of_decide_eq_false h (by rw[x.len]; exact hx.2)
noncomputable def BadLn (l:Ln):Prop:=LnOk l/\¬ (l.1 = "stretch" /\ l.2.length=0)/\qv l.1 l.2.length=false
instance (l:Ln):Decidable (BadLn l):=by unfold BadLn; infer_instance
theorem BadLn.tk {l:Ln} (h:BadLn l) (j:Nat):iO l j:=⟨fun e=>h.2.1 ⟨e.1,by rw[e.2]; rfl⟩,.inr (no_rw h.2.2)⟩
structure Gl (ls:List Ln):Prop where
 ok:LsOk ls
 c:ls.length<=300
 s:∀ l ∈ ls,l.2.length<=90
 n:∀ l ∈ ls,∀ x ∈ l.2,∃ k,x=It54.n k
 sh:∃ a b r,ls=(("marks",a):Ln)::(("widths",b):Ln)::r/\∀ l ∈ r,l.1 ≠ "widths"
theorem Gl.len (h:Gl ls):2<=ls.length:=by obtain⟨a,b,r,rfl,_⟩:=h.sh; simp
theorem Gl.ne (h:Gl ls):ls≠[]:=h.ok.ne
noncomputable def Spo (ls:List Ln):Prop:=LsOk ls/\kI ls
theorem LsOk.put (h:LsOk ls) {l:Ln} (hl:LnOk l) (i:Nat):LsOk (ls.set i l):=⟨fun x hx=>(List.mem_or_eq_of_mem_set hx).elim (h.l x) (fun e=>by rw[e]; exact hl),by rw[List.length_set]; exact h.n,fun e=>h.ne (by simpa using e)⟩
theorem mf (h:Gl ls) {i:Nat} (hi:i<ls.length) {l:Ln} (hl:LnOk l) (hb:∃ z,It54.b z ∈ l.2):Spo (ls.set i l):=⟨h.ok.put hl i,.inl ⟨l,List.mem_iff_getElem?.mpr ⟨i,by rw[List.getElem?_set,if_pos rfl,if_pos hi]⟩,hb⟩⟩
theorem spo_w (h:Gl ls) {i:Nat} (hi:i<ls.length) {l:Ln} (hl:BadLn l) (h1:l.1 ≠ "marks") (h2:l.1 ≠ "widths"):Spo (ls.set i l):=by
 refine⟨h.ok.put hl.1 i,?_⟩
 obtain⟨a,b,r,rfl,_⟩:=h.sh
 match i,hi with
 | 0,_=>exact .inr (.inl fun e=>h1 (by simpa using (List.cons.inj e).1))
 | 1,_=>exact .inr (.inl fun e=>h2 (by simpa using (List.cons.inj (List.cons.inj e).2).1))
 | j+2,hi=>exact .inr (.inr ⟨j,l,by
   simp only[List.set_cons_succ,List.drop_succ_cons,List.drop_zero]
   rw[List.getElem?_set,if_pos rfl,if_pos (by simpa using hi)],hl.tk j⟩)
theorem kA (h:Gl ls) {l:Ln} (hl:BadLn l):Spo (ls++[l]):=by
 refine⟨⟨fun x hx=>(sY.mp hx).elim (h.ok.l x) (fun e=>by rw[sO.mp e]; exact hl.1),by have:=h.c; simp; omega,by simp⟩,.inr (.inr ⟨ls.length - 2,l,?_,hl.tk _⟩)⟩
 have:=h.len
 rw[List.getElem?_drop,show 2+(ls.length - 2)=ls.length by omega,tf (Nat.le_refl _),Nat.sub_self]
 rfl
theorem oF (h:Gl ls) {l:Ln} (hl:LnOk l) (h1:l.1 ≠ "stretch"):Spo (ls.take 2++l::ls.drop 2):=by
 refine⟨⟨fun x hx=>?_,by have:=h.c; simp; omega,by simp⟩,.inr (.inr ⟨0,l,?_,fun e=>h1 e.1,.inl rfl⟩)⟩
 ·rcases sY.mp hx with m | m
  ·exact h.ok.l x (List.mem_of_mem_take m)
  ·rcases sR.mp m with rfl | m
   ·exact hl
   ·exact h.ok.l x (List.mem_of_mem_drop m)
 ·obtain⟨a,b,r,rfl,_⟩:=h.sh
  rfl
theorem oE (h:Gl ls) {k:Nat} (hk:k<2):Spo (ls.eraseIdx k):=by
 refine⟨⟨fun x hx=>h.ok.l x (List.mem_of_mem_eraseIdx hx),by have:=h.c; rw[List.length_eraseIdx]; split <;> omega,fun e=>?_⟩,.inr (.inl ?_)⟩
 ·have:=h.len
  have e2:=congrArg List.length e
  rw[List.length_eraseIdx,List.length_nil] at e2
  split at e2 <;> omega
 ·obtain⟨a,b,r,rfl,hr⟩:=h.sh
  match k,hk with
  | 0,_=>exact fun e=>absurd (show("widths" : Str) = "marks" from(List.cons.inj e).1) (by decide +kernel)
  | 1,_=>
   intro e
   cases r with
   | nil=>exact nomatch (List.cons.inj e).2
   | cons l r=>exact hr l sM (List.cons.inj (List.cons.inj e).2).1
theorem oB (h:Gl ls):Spo ((("",[]):Ln)::ls):=⟨⟨fun x hx=>(sR.mp hx).elim (fun e=>by rw[e]; decide +kernel) (h.ok.l x),by have:=h.c; rw[sT]; omega,by simp⟩,.inr (.inl fun e=>absurd (List.cons.inj e).1 (by decide +kernel))⟩
theorem Gl.app (h:Gl ls) {l:Ln} (hl:l ∈ ls) {a:List It54} (ha:∀ x ∈ a,x.ok) (hb:∃ z,It54.b z ∈ a) (hn:a.length<=10):LnOk (l.1,l.2++a)/\∃ z,It54.b z ∈ ((l.1,l.2++a):Ln).2 :=
 ⟨⟨(h.ok.l l hl).w,fun x hx=>(sY.mp hx).elim ((h.ok.l l hl).i x) (ha x),by have:=h.s l hl; rw[sW]; omega⟩,hb.imp fun z m=>sJ _ m⟩
noncomputable def ws2:List Ln:=[("Stretch",[]),("stretches",[]),("",[]),("stretch",[.n 0]),("jump",[.n 1]),("",[.b "end"]),("end",[.n 0]),("bell",[]),("ask",[.n 0,.n 0])]
noncomputable def ws3:List Ln:=[("bell",[.n 5]),("end",[]),("go",[.n 0]),("marks",[])]
noncomputable def ws5:List (List It54):=[[.b "01"],[.b "-1"],[.b "x"],[.b "",.n 1],[.b "1."],[.b "+2"]]
noncomputable def ws7:List Ln:=[("call",[]),("bump",[.n 1]),("set",[.n 1]),("set",[.n 1,.n 1,.n 1]),("marks",[]),("widths",[]),("go",[.n 0,.n 0])]
theorem ws2_t:ws2.map lT=["Stretch","stretches","","stretch 0","jump 1"," end","end 0","bell","ask 0 0"].map Str.ofString:=by decide +kernel
theorem ws3_t:ws3.map lT=["bell 5","end","go 0","marks"].map Str.ofString:=by decide +kernel
theorem ws7_t:ws7.map lT=["call","bump 1","set 1","set 1 1 1","marks","widths","go 0 0"].map Str.ofString:=by decide +kernel
theorem ws2_b:∀ l ∈ ws2,BadLn l/\l.1 ≠ "marks" /\ l.1 ≠ "widths":=by decide +kernel
theorem ws3_b:∀ l ∈ ws3,LnOk l/\l.1 ≠ "stretch":=by decide +kernel
theorem ws7_b:∀ l ∈ ws7,BadLn l:=by decide +kernel
theorem ws5_b:∀ a ∈ ws5,(∀ x ∈ a,x.ok)/\a.length<=10:=by decide +kernel
theorem ws5_z:∀ a ∈ ws5,∃ z,It54.b z ∈ a:=by
 intro a ha
 simp only[ws5,sR,tw,or_false] at ha
 rcases ha with rfl | rfl | rfl | rfl | rfl | rfl <;> exact⟨_,sM⟩
theorem ws5_t (l:Ln):(ws5.map fun a=>lT (l.1,l.2++a))=[lT l++(" 01" : Str),lT l++(" -1" : Str),lT l++(" x" : Str),lT l++("  1" : Str),lT l++(" 1." : Str),lT l++(" +2" : Str)]:=by
 have e1:∀ (i:It54) (z:Str),(" " : Str)++i.t=z->lT (l.1,l.2++[i])=lT l++z:=fun i z e=>by rw[<- e]; exact(iG l i).symm
 have e2:lT (l.1,l.2++[.b "",.n 1])=lT l++("  1" : Str):=by
  have:=iG (l.1,l.2++[.b ""]) (.n 1)
  rw[<- iG,apA] at this
  rw[show l.2++[It54.b "",.n 1]=l.2++[.b ""]++[.n 1] by simp,<- this]
  exact congrArg (lT l++·) (by decide +kernel)
 simp only[ws5,sX,List.map_nil]
 rw[e2,e1 (.b "01") " 01" (by decide +kernel),e1 (.b "-1") " -1" (by decide +kernel),e1 (.b "x") " x" (by decide +kernel),e1 (.b "1.") " 1." (by decide +kernel),e1 (.b "+2") " +2" (by decide +kernel)]
theorem lT_sp {l:Ln} (h:LnOk l):(!!(Builtin.Str.occurrences (lT l) (" " : Str) 0 (lT l).length 1).isEmpty)=l.2.isEmpty:=by
 have e:=StrLaws.found_one (lT l) 32
 rw[show(⟨#[32]⟩:Str)=(" " : Str) from rfl] at e
 rw[e]
 cases hl:l.2 with
 | nil=>
  have:lT l=l.1:=by rw[lTj,hl]; rfl
  rw[this,decide_eq_false h.w.2.1]; rfl
 | cons a r=>
  have:32 ∈ (lT l).cps.toList:=by
   rw[lTj,hl,sX,cD _ _ (by simp),Str.appL,Str.appL]
   exact sV _ (sJ _ (by decide +kernel))
  rw[decide_eq_true this]; rfl
noncomputable def w8 (w:Str):List Str:=[("0" : Str)++w,("+" : Str)++w,(" " : Str)++w,w++("_0" : Str),("-0" : Str)++w,("00" : Str)++w,w++(" " : Str)]
theorem mL {z:Str} (h:z.cps.toList[0]?=some 48) (h2:2<=z.cps.toList.length):plB z=false:=by
 unfold plB
 rw[Bool.and_eq_false_iff]
 refine .inr ?_
 rw[Bool.or_eq_false_iff]
 refine⟨decide_eq_false (fun e=>by rw[e] at h2; revert h2; decide +kernel),?_⟩
 rw[Bool.and_eq_false_iff]
 exact .inr (decide_eq_false (fun e=>e h))
theorem lE (a b:Str):(a++b).length=a.length+b.length:=by rw[show(a++b).length=(a++b).cps.toList.length from Array.length_toList.symm,Str.appL,sW,Array.length_toList,Array.length_toList]; rfl
theorem pT {a b:Str} (ha:a.length<=100) (hb:b.length<=100):(a++b).length<=200:=by rw[lE]; omega
theorem k6 {a b:Str}{m n:Nat} (h:Asc m a) (g:Asc n b):Asc (m+n) (a++b):=⟨by
 have:=h.1
 have:=g.1
 rw[lE]
 omega,fun c hc=>by
 rw[Str.appL] at hc
 exact(sY.mp hc).elim (h.2 c) (g.2 c)⟩
theorem d5 {a b:Str}{c:Nat} (h:eL c a) (g:eL c b):eL c (a++b):=fun m=>by
 rw[Str.appL] at m
 exact(sY.mp m).elim h g
theorem fB {a:Str}{k:Int} (ha:a.length<=10) (h:Wk a) (h0:0<=k) (h1:k.natAbs<=10 ^ 58):Wk (a++nT k)/\Wk (nT k++a):=by
 have n1:=j8 h0 h1
 have a1:Asc 10 a:=⟨ha,h.1.2⟩
 exact⟨⟨(k6 a1 n1).mono (by decide),d5 h.2.1 (du h0 (by decide)),d5 h.2.2 (du h0 (by decide))⟩,⟨(k6 n1 a1).mono (by decide),d5 (du h0 (by decide)) h.2.1,d5 (du h0 (by decide)) h.2.2⟩⟩
theorem spo8 {l:Ln} (hl:LnOk l) (hn:l.2.length<=90) {i:Nat}{k:Int} (hk:l.2[i]?=some (.n k)) {j:Nat}{z:Str} (hz:(w8 (nT k))[j]?=some z) :
  ∃ l':Ln,LnOk l'/\(∃ y,It54.b y ∈ l'.2)/\Txt.join " " ((l.1::l.2.map It54.t).set (i+1) z)=lT l':=by
 have il:=(List.getElem?_eq_some_iff.mp hk).1
 obtain⟨k0,k1⟩:=hl.i _ (sL hk)
 have len1:1<=(nT k).cps.toList.length:=by
  obtain⟨m,rfl⟩:=Int.eq_ofNat_of_zero_le k0
  cases e:(nT (m:Int)).cps.toList with
  | nil=>exact absurd e (nk m)
  | cons a r=>simp
 have one:∀ z,plB z=false->Wk z->∃ l':Ln,LnOk l'/\(∃ y,It54.b y ∈ l'.2)/\Txt.join " " ((l.1::l.2.map It54.t).set (i+1) z)=lT l':=fun z hp hw=>
  ⟨(l.1,l.2.set i (.b z)),⟨hl.w,fun x hx=>(List.mem_or_eq_of_mem_set hx).elim (hl.i x) (fun e=>by rw[e]; exact⟨hp,hw⟩),by rw[List.length_set]; exact hl.n⟩,⟨z,List.mem_iff_getElem?.mpr ⟨i,by rw[List.getElem?_set,if_pos rfl,if_pos il]⟩⟩,by
   rw[List.set_cons_succ,show z=(It54.b z).t from rfl,<- List.map_set]; rfl⟩
 have two:∀ a b:It54,a.ok->b.ok->(∃ y,It54.b y ∈ [a,b])->∃ l':Ln,LnOk l'/\(∃ y,It54.b y ∈ l'.2)/\Txt.join " " ((l.1::l.2.map It54.t).set (i+1) (a.t++(" " : Str)++b.t))=lT l':=fun a b ha hb ⟨y,hy⟩=>by
  refine⟨(l.1,l.2.take i++a::b::l.2.drop (i+1)),⟨hl.w,fun x hx=>?_,by simp; omega⟩,⟨y,?_⟩,?_⟩
  ·rcases sY.mp hx with m | m
   ·exact hl.i x (List.mem_of_mem_take m)
   ·rcases sR.mp m with rfl | m
    ·exact ha
    ·rcases sR.mp m with rfl | m
     ·exact hb
     ·exact hl.i x (List.mem_of_mem_drop m)
  ·refine sJ _ ?_
   rcases sR.mp hy with e | m
   ·rw[e]; exact sM
   ·rw[sO.mp m]; exact sH _ sM
  ·rw[lTj,List.set_cons_succ,List.set_eq_take_append_cons_drop,if_pos (by rw[sI]; exact il),sP,sX,sX,List.map_take,List.map_drop]
   show Builtin.Str.glued _ _=_
   rw[StrLaws.glued_eq_join,<- List.cons_append,nE,List.cons_append]
 have bE:It54.ok (.b ""):=by decide +kernel
 have hj:j<7:=(List.getElem?_eq_some_iff.mp hz).1
 match j,hj with
 | 0,_=>cases hz; exact one _ (mL (by rw[Str.appL]; rfl) (by rw[Str.appL,sW,show(("0" : Str).cps.toList.length)=1 from rfl]; omega)) (fB (by decide +kernel) (by decide +kernel) k0 k1).1
 | 1,_=>cases hz; exact one _ (iB (c:=43) (by rw[Str.appL]; exact sV _ (by decide +kernel)) (by decide)) (fB (by decide +kernel) (by decide +kernel) k0 k1).1
 | 2,_=>
  cases hz
  have:=two (.b "") (.n k) bE ⟨k0,k1⟩ ⟨_,sM⟩
  rwa [show(It54.b "").t++(" " : Str)=(" " : Str) from eAp _] at this
 | 3,_=>cases hz; exact one _ (iB (c:=95) (by rw[Str.appL]; exact sJ _ (by decide +kernel)) (by decide)) (fB (by decide +kernel) (by decide +kernel) k0 k1).2
 | 4,_=>cases hz; exact one _ (iB (c:=45) (by rw[Str.appL]; exact sV _ (by decide +kernel)) (by decide)) (fB (by decide +kernel) (by decide +kernel) k0 k1).1
 | 5,_=>cases hz; exact one _ (mL (by rw[Str.appL]; rfl) (by rw[Str.appL,sW,show(("00" : Str).cps.toList.length)=2 from rfl]; omega)) (fB (by decide +kernel) (by decide +kernel) k0 k1).1
 | 6,_=>
  cases hz
  have:=two (.n k) (.b "") ⟨k0,k1⟩ bE ⟨_,sH _ sM⟩
  rwa [show(It54.n k).t++(" " : Str)++(It54.b "").t=nT k++(" " : Str) from apE _] at this
noncomputable def w6 (x:Str):List Str:=["","marks","widths","marks\nwidths ",("\n" : Str)++x,"end"]
theorem spo6 (h:Gl ls) {j:Nat}{z:Str} (hz:(w6 (xT ls))[j]?=some z):∃ ls',Spo ls'/\z=xT ls':=by
 have one:∀ l:Ln,LnOk l->l.1=l.1->Spo [l]:=fun l hl _=>⟨⟨fun x hx=>by rw[sO.mp hx]; exact hl,by simp,by simp⟩,.inr (.inl fun e=>nomatch (List.cons.inj e).2)⟩
 have hj:j<6:=(List.getElem?_eq_some_iff.mp hz).1
 match j,hj with
 | 0,_=>cases hz; exact⟨[("",[])],one _ (by decide +kernel) rfl,by decide +kernel⟩
 | 1,_=>cases hz; exact⟨[("marks",[])],one _ (by decide +kernel) rfl,by decide +kernel⟩
 | 2,_=>cases hz; exact⟨[("widths",[])],one _ (by decide +kernel) rfl,by decide +kernel⟩
 | 3,_=>
  cases hz
  refine⟨[("marks",[]),("widths",[.b ""])],⟨⟨?_,by simp,by simp⟩,.inl ⟨("widths",[.b ""]),by simp,"",by simp⟩⟩,by decide +kernel⟩
  decide +kernel
 | 4,_=>
  cases hz
  refine⟨_,oB h,?_⟩
  rw[<- om _ h.ne]
  exact(eAp _).symm
 | 5,_=>cases hz; exact⟨[("end",[])],one _ (by decide +kernel) rfl,by decide +kernel⟩
section
variable {P:Program}{w:World}{K:PySem.W.Frag}{mg:Str->Option Value}{base:Heap}{t:Adr}
theorem scFs:FnScope ["_law_text","_law_way","_law_draw","_law_other","_law_lines","_law_at","_law_parts_here","_law_place","_law_word","_law_kept"] ["_law_text","_law_way","_law_draw","_law_other"] (ac gG):={}
noncomputable def fsT (T:Txt K mg t) (cdv:Value) (A:Around) (outer:List Env) (s:Shared) (H:Hp) (E:XK):{ ts:TS // PSs (cP CX0 P w K mg base ["_law_text","_law_way","_law_draw","_law_other","_law_lines","_law_at","_law_parts_here","_law_place","_law_word","_law_kept"] (Str.ofString "_law_form_spoilt") (ac gG) t.f_Jg cdv A outer s H E).nox (ai gG) ts } :=
 ⟨_,(af (aC (i:=4) scFs.nd rfl (Or.inl rfl) (bf PySem.F.plainAttrs_str PySem.F.slot_str_split PySem.F.type_str_split dY (pv 0) (aa ah ad)))
   (af (aC (i:=5) scFs.nd rfl (Or.inl rfl) (ak ay (pv 2) (aq av (by rfl) T.z_len (by rfl) (aa (pv 4) ad))))
   (af (bj (aD (ap aZ (pv 1) ae (ar _))
    (ag (aJ (ak a9 (pv 0) ah)))
    ax))
   (af (bj (aD (ap aZ (pv 1) ae (ar _))
    (ag (bT (ak a9 (aA au (pv 4) (pv 5)) ah) (cH (pv 4) (pv 5) bx)))
    ax))
   (af (bj (aD (ap aZ (pv 1) ae (ar _))
    (ag (bT (aA au (aV (aa ah (aa ah (aa ah (aa ah (aa ah (aa ah (aa ah (aa ah (aa ah ad)))))))))) (ak ay (pv 3) ae)) (cH (pv 4) (pv 5) bx)))
    ax))
   (af (bj (aD (ap aZ (pv 1) ae (ar _))
    (ag (aG (bf PySem.F.plainAttrs_list PySem.F.slot_list_insert PySem.F.type_list_insert lC (pv 4) (aa ae (aa (aA au (aV (aa ah (aa ah (aa ah (aa ah ad))))) (ak ay (pv 3) ae)) ad)))))
    ax))
   (af (bj (aD (ap aZ (pv 1) ae (ar _))
    (ag (aG (bf PySem.F.plainAttrs_list PySem.F.slot_list_pop PySem.F.type_list_pop nq (pv 4) (aa (ak ay (pv 3) ae) ad))))
    ax))
   (af (bj (aD (ap aZ (pv 1) ae (ar _))
    (ag (bT (ak a9 (aA au (pv 4) (pv 5)) (aA au (aV (aa ah (aa ah (aa ah (aa ah (aa ah (aa ah ad))))))) (ak ay (pv 3) ae))) (cH (pv 4) (pv 5) bx)))
    ax))
   (af (bj (aD (ap aZ (pv 1) ae (ar _))
    (ag (aJ (aA au (aV (aa ah (aa ah (aa ah (aa ah (aa (ak a9 ah (pv 0)) (aa ah ad))))))) (ak ay (pv 3) ae))))
    ax))
   (af (bj (aD (ap aZ (pv 1) ae (ar _))
    (ag (aG (bf PySem.F.plainAttrs_list PySem.F.slot_list_append PySem.F.type_list_append aR (pv 4) (aa (aA au (aV (aa ah (aa ah (aa ah (aa ah (aa ah (aa ah (aa ah ad)))))))) (ak ay (pv 3) ae)) ad))))
    ax))
   (af (bj (aD (ap aZ (pv 1) ae (ar _))
    (af (aC (i:=6) scFs.nd rfl (Or.inl rfl) (ak dt (bf PySem.F.plainAttrs_str PySem.F.slot_str_split PySem.F.type_str_split dY (aA au (pv 4) (pv 5)) (aa ah ad)) (ak qJ (aV (aa ah ad)) (aO hW (by rfl) T.z_int (by rfl) (aa (bZ dW ah (aA au (pv 4) (pv 5)) (by rfl)) ad)))))
     (af (aC (i:=7) scFs.nd rfl (Or.inl rfl) (ak aL ae (ak ay (ak bN (pv 3) ae) (ak mX (aq av (by rfl) T.z_len (by rfl) (aa (pv 6) ad)) ae))))
     (af (aC (i:=8) scFs.nd rfl (Or.inl rfl) (aA au (pv 6) (pv 7)))
     (af (aC (i:=9) scFs.nd rfl (Or.inl rfl) (aV (aa (ak a9 ah (pv 8)) (aa (ak a9 ah (pv 8)) (aa (ak a9 ah (pv 8)) (aa (ak a9 (pv 8) ah) (aa (ak a9 ah (pv 8)) (aa (ak a9 ah (pv 8)) (aa (ak a9 (pv 8) ah) ad)))))))))
     (af (bT (aA au (pv 9) (ak ay (pv 3) ae)) (cH (pv 6) (pv 7) bx))
     (ag (bT (bf PySem.F.plainAttrs_str PySem.F.slot_str_join PySem.F.type_str_join cB ah (aa (pv 6) ad)) (cH (pv 4) (pv 5) bx))))))))
    ax))
   (ag (aJ (bf PySem.F.plainAttrs_str PySem.F.slot_str_join PySem.F.type_str_join cB ah (aa (pv 4) ad)))))))))))))))⟩
end
theorem gO (zs:List Str) (o:Int) {n:Nat} (hn:zs.length=n) (pos:0<n):∃ (j:Nat) (z:Str),zs[j]?=some z/\atI (zs.map V.str) (o % (n:Int))=some (.str z):=by
 have h0:0<=o % (n:Int):=Int.emod_nonneg _ (by omega)
 have h1:o % (n:Int)<(n:Int):=Int.emod_lt_of_pos _ (by omega)
 obtain⟨j,ej⟩:∃ j:Nat,o % (n:Int)=j:=Int.eq_ofNat_of_zero_le h0
 have hj:j<zs.length:=by omega
 refine⟨j,zs[j],sK hj,?_⟩
 rw[ej]
 exact aH (by rw[sN,sK hj]; rfl)
theorem iD {α:Type}{f:α->Str}{xs:List α}{j:Nat}{z:Str} (h:(xs.map f)[j]?=some z):∃ x ∈ xs,f x=z:=by
 rw[sN] at h
 obtain⟨x,hx,e⟩:=Option.map_eq_some_iff.mp h
 exact⟨x,sL hx,e⟩
noncomputable def lns (ls:List Ln):List V:=(ls.map lT).map V.str
theorem fq (ls:List Ln) (i:Nat) (l:Ln):(lns ls).set i (.str (lT l))=lns (ls.set i l):=by unfold lns; rw[List.map_set,List.map_set]
theorem ft {i:Nat}{l:Ln} (h:ls[i]?=some l):(lns ls)[i]?=some (.str (lT l)):=by unfold lns; rw[sN,sN,h]; rfl
theorem cC (ls:List Ln):(lns ls).length=ls.length:=by unfold lns; rw[sI,sI]
theorem pd (ls:List Ln) (i:Nat):(lns ls).eraseIdx i=lns (ls.eraseIdx i):=by
 unfold lns
 rw[List.eraseIdx_eq_take_drop_succ,List.eraseIdx_eq_take_drop_succ,sP,sP,List.map_take,List.map_take,List.map_drop,List.map_drop]
inductive sp_fs (vs:List V) (H:Hp) (Q:VK) (E_:XK):Prop
 | mk (ls:List Ln) (way dr oth:Int) (L:Kn) (_:vs=[.str (xT ls),.int way,.int dr,.int oth]) (_:Has H L) (_:Gl ls) (_:0<=way) (_:way<9) (_:0<=dr) (_:0<=oth) (_:oth<10 ^ 18) (_:∀ H' ls',Has H' L->Spo ls'->Q (.str (xT ls')) H'):sp_fs vs H Q E_
section
variable {P:Program}{w:World}{K:PySem.W.Frag}{mg:Str->Option Value}{base:Heap}{t:Adr}
theorem ok_Jg (T:Txt K mg t):FnOk P w K mg base CX0 1 t.f_Jg t.d_Jg ["_law_text","_law_way","_law_draw","_law_other"] sp_fs:=by
 refine T.F_Jg.ok scFs (fun vs H Q E h=>?_) (fun cdv A outer s H vs Q E hr h=>?_)
 ·obtain⟨_,_,_,_,_,rfl,_⟩:=h
  rfl
 ·obtain⟨ls,way,dr,oth,L,rfl,hH,hg,w0,w9,d0,o0,o1,q⟩:=h
  refine⟨(fsT T cdv A outer s H E).1,(fsT T cdv A outer s H E).2,?_⟩
  rw[]
  unfold fsT
  have ok:=hg.ok
  have es:=iP ok
  have ln:=hg.len
  have lc:=hg.c
  refine⟨_,U,U,xT ls,_,U,U,U,ou (jO ok),?_,fun l hl=>?_⟩
  ·rw[es,sI]
   exact sz (by omega)
  rw[es]
  have h1:Has _ ((l,HO.lst (lns ls))::L):=hH.alloc hl (.lst (lns ls))
  show le _ _ _ _ (upd H l (HO.lst (lns ls)))
  dsimp only[List.set]
  have em:0<=dr % (ls.length:Int)/\dr % (ls.length:Int)<ls.length:=⟨Int.emod_nonneg _ (by omega),Int.emod_lt_of_pos _ (by omega)⟩
  refine⟨_,U,_,U,l,_,U,.inl (SqL.of (h1.get 0 U)),_,_,U,U,(by rw[cC]; omega),?_⟩
  dsimp only[List.set]
  rw[cC]
  obtain⟨i,ei⟩:∃ i:Nat,dr % (ls.length:Int)=i:=Int.eq_ofNat_of_zero_le em.1
  rw[ei] at em ⊢
  have hi:i<ls.length:=by omega
  obtain⟨y,hy⟩:∃ y,ls[i]?=some y:=⟨_,sK hi⟩
  have hym:=sL hy
  have yok:=ok.l y hym
  have ylen:=iF yok
  have hix:ixN (lns ls).length (i:Int)=some i:=by rw[cC,lH em.1 em.2]; rfl
  obtain⟨Pn,ePn⟩:∃ Pn:Int->St->Hp->Prop,(fun k σ' H'=>∃ ls' o6 o7 o8 o9,σ'=[some (.str (xT ls)),some (.int way),some (.int dr),some (.int oth),some (.ref l),some (.int i),o6,o7,o8,o9]/\Has H' ((l,.lst (lns ls'))::L)/\((k<=way/\ls'=ls)∨(way<k/\Spo ls')))=Pn:=⟨_,U⟩
  have nxt:∀ {k j:Int} {H' ls' o6 o7 o8 o9},way≠k->k+1=j->Has H' ((l,.lst (lns ls'))::L)->((k<=way/\ls'=ls)∨(way<k/\Spo ls'))->Pn j [some (.str (xT ls)),some (.int way),some (.int dr),some (.int oth),some (.ref l),some (.int i),o6,o7,o8,o9] H':=fun c e h d=>by
   rw[<- ePn]
   exact⟨_,_,_,_,_,U,h,d.imp (fun⟨a,b⟩=>⟨by omega,b⟩) (fun⟨a,b⟩=>⟨by omega,b⟩)⟩
  have don:∀ {k j:Int} {H' ls' o6 o7 o8 o9},way=k->k+1=j->Has H' ((l,.lst (lns ls'))::L)->Spo ls'->Pn j [some (.str (xT ls)),some (.int way),some (.int dr),some (.int oth),some (.ref l),some (.int i),o6,o7,o8,o9] H':=fun c e h d=>by
   rw[<- ePn]
   exact⟨_,_,_,_,_,U,h,.inr ⟨by omega,d⟩⟩
  have unP:∀ {k:Int} {σ' H'},Pn k σ' H'->∃ ls' o6 o7 o8 o9,σ'=[some (.str (xT ls)),some (.int way),some (.int dr),some (.int oth),some (.ref l),some (.int i),o6,o7,o8,o9]/\Has H' ((l,.lst (lns ls'))::L)/\((k<=way/\ls'=ls)∨(way<k/\Spo ls')):=fun h=>by rw[<- ePn] at h; exact h
  have same:∀ {k:Int} {ls'},way=k->((k<=way/\ls'=ls)∨(way<k/\Spo ls'))->ls'=ls:=fun e d=>d.elim (·.2) (fun d=>absurd d.1 (by omega))
  clear ePn
  have xl:=jO ok
  have sAdd:∀ {a b:Nat},a<=3300000->b<=100->a+b<=sizeLine:=fun h g=>Nat.le_trans (show _<=3400000 by omega) (by decide)
  refine⟨Pn 1,?_,?_⟩
  ·refine⟨_,U,U,_,U,?_⟩
   rw[bb]
   refine ifd (fun e=>?_) (fun c=>nxt c rfl h1 (.inl ⟨by omega,U⟩))
   refine⟨_,U,_,_,U,U,sAdd xl (by decide +kernel),?_⟩
   have e2:xT ls++("\n" : Str)=xT (ls++[(("",[]):Ln)]):=by
    rw[<- p9 _ hg.ne]
    exact congrArg (xT ls++·) (by decide +kernel)
   rw[e2]
   exact q _ _ h1.tail (kA hg (by decide +kernel))
  clear h1
  intro σ H1 hP
  obtain⟨ls',o6,o7,o8,o9,rfl,h1,hc⟩:=unP hP
  clear hP
  refine⟨Pn 2,?_,?_⟩
  ·refine⟨_,U,U,_,U,?_⟩
   rw[bb]
   refine ifd (fun e=>?_) (fun c=>nxt c rfl h1 hc)
   have:=same e hc
   subst this
   refine⟨_,U,_,U,l,_,_,_,U,U,SqL.of (h1.get 0 U),aH (ft hy),_,_,U,U,sAdd (Nat.le_trans ylen (by decide)) (by decide +kernel),_,U,_,U,l,_,_,_,U,U,h1.get 0 U,hix,?_⟩
   have e2:lT y++(" " : Str)=lT (y.1,y.2++[.b ""]):=iG y (.b "")
   rw[e2,fq]
   have b:=hg.app hym (a:=[.b ""]) (by decide +kernel) ⟨"",by simp⟩ (by simp)
   exact don e rfl (h1.puti 0 U _) (mf hg hi b.1 b.2)
  clear h1 hc ls'
  intro σ H1 hP
  obtain⟨ls',o6,o7,o8,o9,rfl,h1,hc⟩:=unP hP
  clear hP
  refine⟨Pn 3,?_,?_⟩
  ·refine⟨_,U,U,_,U,?_⟩
   rw[bb]
   refine ifd (fun e=>?_) (fun c=>nxt c rfl h1 hc)
   have:=same e hc
   subst this
   obtain⟨j,z,hz,hv⟩:=gO (ws2.map lT) oth (n:=9) rfl (by decide)
   obtain⟨y',ym,rfl⟩:=iD hz
   rw[ws2_t] at hv
   refine⟨(sz_ 9),fun p hp=>?_⟩
   have h2:=h1.alloc hp (.lst ((["Stretch","stretches","","stretch 0","jump 1"," end","end 0","bell","ask 0 0"].map Str.ofString).map V.str))
   refine⟨_,U,_,_,U,U,(show(0:Int)<9 by decide),p,_,_,_,U,U,SqL.of (h2.get 0 U),hv,_,U,_,U,l,_,_,_,U,U,h2.get 1 U,hix,?_⟩
   rw[fq]
   have b:=ws2_b y' ym
   exact don e rfl (h2.puti 1 U _).tail (spo_w hg hi b.1 b.2.1 b.2.2)
  clear h1 hc ls'
  intro σ H1 hP
  obtain⟨ls',o6,o7,o8,o9,rfl,h1,hc⟩:=unP hP
  clear hP
  refine⟨Pn 4,?_,?_⟩
  ·refine⟨_,U,U,_,U,?_⟩
   rw[bb]
   refine ifd (fun e=>?_) (fun c=>nxt c rfl h1 hc)
   have:=same e hc
   subst this
   obtain⟨j,z,hz,hv⟩:=gO (ws3.map lT) oth (n:=4) rfl (by decide)
   obtain⟨y',ym,rfl⟩:=iD hz
   rw[ws3_t] at hv
   refine⟨_,U,.inl ⟨U,_,SqL.of (h1.get 0 U)⟩,(sz_ 4),fun p hp=>?_⟩
   have h2:=h1.alloc hp (.lst ((["bell 5","end","go 0","marks"].map Str.ofString).map V.str))
   refine⟨_,U,_,_,U,U,(show(0:Int)<4 by decide),p,_,_,_,U,U,SqL.of (h2.get 0 U),hv,l,_,_,2,U,U,h2.get 1 U,by rw[cC]; omega,by rw[cC]; omega,?_⟩
   rw[show(lns ls').take 2++V.str (lT y')::(lns ls').drop 2=lns (ls'.take 2++y'::ls'.drop 2) by unfold lns; rw[sP,sP,List.map_take,List.map_take,sX,sX,List.map_drop,List.map_drop]]
   have b:=ws3_b y' ym
   exact don e rfl (h2.puti 1 U _).tail (oF hg b.1 b.2)
  clear h1 hc ls'
  intro σ H1 hP
  obtain⟨ls',o6,o7,o8,o9,rfl,h1,hc⟩:=unP hP
  clear hP
  refine⟨Pn 5,?_,?_⟩
  ·refine⟨_,U,U,_,U,?_⟩
   rw[bb]
   refine ifd (fun e=>?_) (fun c=>nxt c rfl h1 hc)
   have:=same e hc
   subst this
   have m0:0<=oth % 2/\oth % 2<2:=by omega
   obtain⟨k,ek⟩:∃ k:Nat,oth % 2=k:=Int.eq_ofNat_of_zero_le m0.1
   obtain⟨u,hu⟩:∃ u,(lns ls')[k]?=some u:=⟨_,sK (by rw[cC]; omega)⟩
   refine⟨_,U,.inl ⟨U,_,SqL.of (h1.get 0 U)⟩,_,U,_,_,U,U,(show(0:Int)<2 by decide),l,_,_,k,u,U,U,h1.get 0 U,by omega,by omega,?_,hu,?_⟩
   ·rw[ek,PySem.StrLaws.seqIndex_nonneg (by omega) (by rw[cC]; omega)]; rfl
   rw[pd]
   exact don e rfl (h1.puti 0 U _) (oE hg (by omega))
  clear h1 hc ls'
  intro σ H1 hP
  obtain⟨ls',o6,o7,o8,o9,rfl,h1,hc⟩:=unP hP
  clear hP
  refine⟨Pn 6,?_,?_⟩
  ·refine⟨_,U,U,_,U,?_⟩
   rw[bb]
   refine ifd (fun e=>?_) (fun c=>nxt c rfl h1 hc)
   have:=same e hc
   subst this
   obtain⟨j,z,hz,hv⟩:=gO ([" 01"," -1"," x","  1"," 1."," +2"].map Str.ofString) oth (n:=6) rfl (by decide)
   refine⟨_,U,_,U,l,_,_,_,U,U,SqL.of (h1.get 0 U),aH (ft hy),(sz_ 6),fun p hp=>?_⟩
   have h2:=h1.alloc hp (.lst (([" 01"," -1"," x","  1"," 1."," +2"].map Str.ofString).map V.str))
   have e5:(ws5.map fun a=>lT (y.1,y.2++a))[j]?=some (lT y++z):=by
    rw[ws5_t]
    exact(sN (f:=(lT y++·))).trans (by rw[hz]; first | done | rfl)
   obtain⟨a,am,ea⟩:=iD e5
   have zl:z.length<=100:=by
    have:∀ z ∈ [" 01"," -1"," x","  1"," 1."," +2"].map Str.ofString,z.length<=100:=by decide +kernel
    exact this z (sL hz)
   refine⟨_,U,_,_,U,U,(show(0:Int)<6 by decide),p,_,_,_,U,U,SqL.of (h2.get 0 U),hv,_,_,U,U,sAdd (Nat.le_trans ylen (by decide)) zl,_,U,_,U,l,_,_,_,U,U,h2.get 1 U,hix,?_⟩
   rw[<- ea,fq]
   have b:=ws5_b a am
   have b:=hg.app hym b.1 (ws5_z a am) b.2
   exact don e rfl (h2.puti 1 U _).tail (mf hg hi b.1 b.2)
  clear h1 hc ls'
  intro σ H1 hP
  obtain⟨ls',o6,o7,o8,o9,rfl,h1,hc⟩:=unP hP
  clear hP
  refine⟨Pn 7,?_,?_⟩
  ·refine⟨_,U,U,_,U,?_⟩
   rw[bb]
   refine ifd (fun e=>?_) (fun c=>nxt c rfl h1 hc)
   have:=same e hc
   subst this
   obtain⟨j,z,hz,hv⟩:=gO (w6 (xT ls')) oth (n:=6) rfl (by decide)
   refine⟨_,U,_,_,U,U,(by rw[Nat.add_comm]; exact sAdd xl (by decide +kernel)),(sz_ 6),fun p hp=>?_⟩
   have h2:=h1.alloc hp (.lst ((w6 (xT ls')).map V.str))
   refine⟨_,U,_,_,U,U,(show(0:Int)<6 by decide),p,_,_,_,U,U,SqL.of (h2.get 0 U),hv,?_⟩
   obtain⟨ls2,b,rfl⟩:=spo6 hg hz
   exact q _ _ h2.tail.tail b
  clear h1 hc ls'
  intro σ H1 hP
  obtain⟨ls',o6,o7,o8,o9,rfl,h1,hc⟩:=unP hP
  clear hP
  refine⟨Pn 8,?_,?_⟩
  ·refine⟨_,U,U,_,U,?_⟩
   rw[bb]
   refine ifd (fun e=>?_) (fun c=>nxt c rfl h1 hc)
   have:=same e hc
   subst this
   obtain⟨j,z,hz,hv⟩:=gO (ws7.map lT) oth (n:=7) rfl (by decide)
   obtain⟨y',ym,rfl⟩:=iD hz
   rw[ws7_t] at hv
   refine⟨_,U,.inl ⟨U,_,SqL.of (h1.get 0 U)⟩,(sz_ 7),fun p hp=>?_⟩
   have h2:=h1.alloc hp (.lst ((["call","bump 1","set 1","set 1 1 1","marks","widths","go 0 0"].map Str.ofString).map V.str))
   refine⟨_,U,_,_,U,U,(show(0:Int)<7 by decide),p,_,_,_,U,U,SqL.of (h2.get 0 U),hv,l,_,_,U,U,h2.get 1 U,(by rw[cC]; exact sizeOk (by omega)),?_⟩
   rw[show lns ls'++[V.str (lT y')]=lns (ls'++[y']) by unfold lns; rw[sP,sP]; rfl]
   exact don e rfl (h2.puti 1 U _).tail (kA hg (ws7_b y' ym))
  clear h1 hc ls'
  intro σ H1 hP
  obtain⟨ls',o6,o7,o8,o9,rfl,h1,hc⟩:=unP hP
  clear hP
  refine⟨Pn 9,?_,?_⟩
  ·refine⟨_,U,U,_,U,?_⟩
   rw[bb]
   refine ifd (fun e=>?_) (fun c=>nxt c rfl h1 hc)
   have:=same e hc
   subst this
   have n90:=hg.s y hym
   have esp:=jy yok
   obtain⟨its,eits⟩:∃ its:List It54,(if y.2.isEmpty then [It54.n 1] else y.2)=its:=⟨_,U⟩
   have iok:LnOk (y.1,its)/\its.length<=90/\(∀ x ∈ its,∃ k,x=It54.n k)/\its≠[]/\[V.str y.1]++(y.2.map It54.t).map V.str++(List.replicate (if y.2.isEmpty then(1:Int) else 0).toNat [V.str "1"]).flatten=(y.1::its.map It54.t).map V.str:=by
    rw[<- eits]
    cases hy2:y.2 with
    | nil=>exact⟨⟨yok.w,fun x hx=>by rw[sO.mp (show x ∈ [It54.n 1] from hx)]; decide +kernel,by simp⟩,by simp,by simp,by simp,U⟩
    | cons a r=>
     rw[hy2] at n90
     refine⟨⟨yok.w,?_,?_⟩,n90,?_,by simp,by simp⟩
     ·have:=yok.i; rw[hy2] at this; exact this
     ·have:=yok.n; rw[hy2] at this; exact this
     ·have:=hg.n y hym; rw[hy2] at this; exact this
   obtain⟨i1,i2,i3,i4,i5⟩:=iok
   refine⟨_,U,_,U,l,_,_,_,U,U,SqL.of (h1.get 0 U),aH (ft hy),U,lT y,_,U,U,U,sz (by omega),?_,fun p1 hp1=>?_⟩
   ·rw[esp,sT,sI]
    exact sz (by omega)
   rw[esp]
   have h2:=h1.alloc hp1 (.lst ((y.1::y.2.map It54.t).map V.str))
   refine⟨(sz_ 1),fun p2 hp2=>?_⟩
   have h3:=h2.alloc hp2 (.lst [.str "1"])
   refine⟨_,U,_,U,l,_,_,_,U,U,SqL.of (h3.get 2 U),aH (ft hy),_,_,U,U,.inr ⟨_,U,?_⟩⟩
   rw[lT_sp yok]
   have h01:(if y.2.isEmpty then(1:Int) else 0).toNat<=1/\-(2 ^ 63)<=(if y.2.isEmpty then(1:Int) else 0)/\(if y.2.isEmpty then(1:Int) else 0)<2 ^ 63:=by split <;> decide
   refine⟨p2,_,_,U,U,h3.get 0 U,h01.2.1,h01.2.2,sz (Nat.le_trans (Nat.mul_le_mul_left _ h01.1) (show 1*1<=1000000 by decide)),fun p3 hp3=>?_⟩
   have h4:=h3.alloc hp3 (.lst (List.replicate (if y.2.isEmpty then(1:Int) else 0).toNat [V.str "1"]).flatten)
   refine⟨p1,p3,_,_,U,U,SqL.of (h4.get 2 U),SqL.of (h4.get 0 U),?_,fun p4 hp4=>?_⟩
   ·rw[sI,sT,sI,kQ]
    have:(if y.2.isEmpty then(1:Int) else 0).toNat*[V.str "1"].length<=1*1:=Nat.mul_le_mul h01.1 (Nat.le_refl _)
    exact sz (by omega)
   dsimp only[List.set]
   have h5:=h4.alloc hp4 (.lst ((y.1::its.map It54.t).map V.str))
   rw[show(y.1::y.2.map It54.t).map V.str++(List.replicate (if y.2.isEmpty then(1:Int) else 0).toNat [V.str "1"]).flatten=(y.1::its.map It54.t).map V.str from i5]
   have h6:Has _ ((p4,HO.lst ((y.1::its.map It54.t).map V.str))::(l,.lst (lns ls'))::L):=h5.sub (.cons_cons _ (.cons _ (.cons _ (.cons _ (List.Sublist.refl _)))))
   clear h5 h4 h3 h2 i5
   have il:=List.length_pos_iff.mpr i4
   have ipl:((y.1::its.map It54.t).map V.str).length=its.length+1:=by rw[sI,sT,sI]
   refine⟨_,U,_,_,U,U,⟨by decide,by decide⟩,_,U,p4,_,U,.inl (SqL.of (h6.get 0 U)),_,_,U,U,_,_,U,U,(by rw[ipl]; omega),_,_,U,U,?_⟩
   dsimp only[List.set]
   rw[ipl,show((its.length+1:Nat):Int) - 1=its.length by omega]
   have pm:0<=oth / 7 % (its.length:Int)/\oth / 7 % (its.length:Int)<its.length:=⟨Int.emod_nonneg _ (by omega),Int.emod_lt_of_pos _ (by omega)⟩
   obtain⟨k,ek⟩:∃ k:Nat,oth / 7 % (its.length:Int)=k:=Int.eq_ofNat_of_zero_le pm.1
   rw[ek] at pm ⊢
   obtain⟨u,hu⟩:∃ u,its[k]?=some u:=⟨_,sK (by omega)⟩
   obtain⟨n,rfl⟩:=i3 u (sL hu)
   have nb:0<=n/\n.natAbs<=10 ^ 58:=i1.i _ (sL hu)
   have nl:=fk nb.1 nb.2
   rw[show(1:Int)+(k:Int)=((k+1:Nat):Int) by omega]
   have gk:((y.1::its.map It54.t).map V.str)[k+1]?=some (.str (nT n)):=by rw[sN,List.getElem?_cons_succ,sN,hu]; rfl
   refine⟨_,U,_,U,p4,_,_,_,U,U,SqL.of (h6.get 0 U),aH gk,?_⟩
   dsimp only[List.set]
   have sA:∀ {a b:Nat},a<=60->b<=60->a+b<=sizeLine:=fun h g=>Nat.le_trans (show _<=120 by omega) (by decide)
   obtain⟨j,z,hz,hv⟩:=gO (w8 (nT n)) oth (n:=7) rfl (by decide)
   refine⟨_,U,_,_,U,U,sA (by decide +kernel) nl,_,U,_,_,U,U,sA (by decide +kernel) nl,_,U,_,_,U,U,sA (by decide +kernel) nl,_,U,_,_,U,U,sA nl (by decide +kernel),_,U,_,_,U,U,sA (by decide +kernel) nl,_,U,_,_,U,U,sA (by decide +kernel) nl,_,U,_,_,U,U,sA nl (by decide +kernel),(sz_ 7),fun p5 hp5=>?_⟩
   have h7:=h6.alloc hp5 (.lst ((w8 (nT n)).map V.str))
   show le _ _ _ _ (upd _ p5 (HO.lst ((w8 (nT n)).map V.str)))
   dsimp only[List.set]
   refine⟨_,U,_,U,_,_,U,U,(show(0:Int)<7 by decide),p5,_,_,_,U,U,SqL.of (h7.get 0 U),hv,_,U,_,U,p4,_,_,_,U,U,h7.get 1 U,(by rw[ipl]; exact lH (by omega) (by omega)),?_⟩
   have h8:=h7.puti 1 U (.lst (((y.1::its.map It54.t).map V.str).set ((k+1:Nat):Int).toNat (.str z)))
   obtain⟨l',l1,l2,l3⟩:=spo8 i1 i2 hu hz
   have e8:((y.1::its.map It54.t).map V.str).set ((k+1:Nat):Int).toNat (.str z)=((y.1::its.map It54.t).set (k+1) z).map V.str:=by rw[List.map_set]; rfl
   rw[e8] at h8 ⊢
   have zb:∀ x ∈ (y.1::its.map It54.t).set (k+1) z,x.length<=200:=by
    intro x hx
    rcases List.mem_or_eq_of_mem_set hx with m | rfl
    ·exact Nat.le_trans (fX i1 x m).1.1 (by decide)
    ·have nl:=Nat.le_trans nl (show 60<=100 by decide)
     have:=sL hz
     simp only[w8,sR,tw,or_false] at this
     rcases this with rfl | rfl | rfl | rfl | rfl | rfl | rfl <;> first | exact pT (by decide +kernel) nl | exact pT nl (by decide +kernel)
   refine⟨U,_,U,_,p4,_,U,U,SqL.of (h8.get 1 U),eG (M:=200) zb (by
    rw[List.length_set,sT,sI,show(Str.ofString " ").length=1 from rfl]
    exact Nat.le_trans (show(its.length+1)*(200+1)<=1000000 by omega) (sz (Nat.le_refl _))),_,U,_,U,l,_,_,_,U,U,h8.get 2 U,hix,?_⟩
   rw[l3,fq]
   exact don e rfl (h8.puti 2 U _).tail.tail (mf hg hi l1 l2)
  clear h1 hc ls'
  intro σ H1 hP
  obtain⟨ls',o6,o7,o8,o9,rfl,h1,hc⟩:=unP hP
  clear hP
  have fin:Spo ls':=hc.elim (fun d=>absurd d.1 (by omega)) (·.2)
  refine⟨U,_,U,_,l,ls'.map lT,U,U,SqL.of (h1.get 0 U),eG (M:=8181) (fun x hx=>?_) ?_,q _ _ h1.tail fin⟩
  ·obtain⟨l',hl',rfl⟩:=sZ.mp hx
   exact iF (fin.1.l l' hl')
  ·rw[sI,show(Str.ofString "\n").length=1 from rfl]
   have:=fin.1.n
   exact ou (by omega)
end
inductive sp_told (C:Addr) (vs:List V) (H:Hp) (Q:VK) (E_:XK):Prop
 | mk (A:PA) (m w pl:Addr) (ms ws:List Int) (ss ss':Ss) (L:Kn) (_:vs=[.ref A.p,.ref m,.ref w,.ref pl]) (_:Has H L) (_:PIn C A ms ws ss' L) (_:(m,HO.lst (ms.map V.int)) ∈ L) (_:(w,HO.lst (ws.map V.int)) ∈ L) (_:(pl,HO.lst (ssV ss)) ∈ L) (_:(∀ z ∈ ss,(z.1,HO.lst (rwV z.2)) ∈ L)) (_:(∀ z ∈ ss,∀ x ∈ z.2,(x.1,HO.tup x.2.v) ∈ L)) (_:ssR ss'=ssR ss) (_:ss.length<=1000) (_:ms.length<=1000) (_:ws.length<=1000) (_:∀ H',Has H' L->Q (.bl true) H'):sp_told C vs H Q E_
section
variable {P:Program}{w:World}{K:PySem.W.Frag}{mg:Str->Option Value}{base:Heap}{t:Adr}
theorem scTo:FnScope ["_law_program_here","_law_marks","_law_widths","_law_parts_here"] ["_law_program_here","_law_marks","_law_widths","_law_parts_here"] (ac cU):={}
theorem oX (T:Txt K mg t):FnOk P w K mg base CX0 4 t.f_told t.d_told ["_law_program_here","_law_marks","_law_widths","_law_parts_here"] (sp_told t.c_Program):=by
 refine T.F_told.ok scTo (fun vs H Q E h=>?_) (fun cdv A outer s H vs Q E hr h=>?_)
 ·obtain⟨_,_,_,_,_,_,_,_,_,rfl,_⟩:=h
  rfl
 ·obtain⟨A,m,w0,pl,ms,ws,ss,ss',L,rfl,hH,pin,mm,mw,mp,ml,mr,etr,hls,hlm,hlw,q⟩:=h
  refine⟨_,(af (aD (PW.pt (dB (df (eh (pcl (pN T) hr T.m_Jt T.F_Jt.kp (si T) (aa (bz (pv 0) T.cl_Program T.M_Ja (pQ T) hr (su T) .nil c7) (aa (pv 1) ad))))) (cG (df (eh (pcl (pN T) hr T.m_Jt T.F_Jt.kp (si T) (aa (bz (pv 0) T.cl_Program T.M_J6 (pR T) hr (sB T) .nil c7) (aa (pv 2) ad))))))))
    (ag (aJ gQ))
    ax)
   (af (aD (df (eh (pcl (pM T) hr T.m_is T.F_is.kp (r9 T) (aa (bz (pv 0) T.cl_Program T.M_Je (jr T) hr (n8 T) .nil c7) (aa (aq av (by rfl) T.z_len (by rfl) (aa (pv 3) ad)) ad)))))
    (ag (aJ gQ))
    ax)
   (ag (aJ (aq (jJ rfl) (by rfl) T.z_all (by rfl) (aa (dD (esc:=ac cU) (k:=2) ["_law_stretch","_law_rows","_law_program_here","_law_marks","_law_widths","_law_parts_here"] rfl (oS (by rfl) T.z_enumerate (aa (pv 3) ad)) (fun _ _ _ _ _=>by exact(fh (K:=K) (n:=2) rfl rfl (aU (az (i:=0) (show List.Nodup (["_law_stretch","_law_rows","_law_program_here","_law_marks","_law_widths","_law_parts_here"]:List Str) from by decide +kernel) rfl (Or.inl rfl)) (aU (az (i:=1) (show List.Nodup (["_law_stretch","_law_rows","_law_program_here","_law_marks","_law_widths","_law_parts_here"]:List Str) from by decide +kernel) rfl (Or.inl rfl)) cz)))) (fun _ _ _ _ _=>by exact bB) (fun _ _ _ _ _=>by exact(bZ (oV (K:=K) rfl hr.units) (dU (pv 2) T.cl_Program T.M_Jf (pO T) hr (so T) .nil c7 (aa (pv 0) ad)) (pv 1) (ar _))) rfl (by decide +kernel) (by decide +kernel) rfl (by decide +kernel) (by rfl) (fun _ _ h _=>h) (by decide +kernel)) ad)))))),?_⟩
  have hL:∀ {H':Hp}{z:Addr×HO},Has H' L->z ∈ L->H' z.1=some z.2:=fun h m=>h.at_ _ m
  obtain⟨jm,ejm⟩:=List.getElem?_of_mem mm
  obtain⟨jw,ejw⟩:=List.getElem?_of_mem mw
  have lss:ss'.length=ss.length:=by simpa [ssR] using congrArg List.length etr
  refine⟨_,U,A.p,A.dx,_,U,hL hH pin.p,(c6 _).2.1,A,_,L,U,hH,pin.p,pin.m,fun H1 l1 h1=>?_⟩
  refine⟨_,U,l1,m,ms,ms,0,jm+1,_,U,h1,U,by simpa using ejm,by omega,fun H2 h2=>?_⟩
  refine⟨_,U,ifF (by simp) ?_⟩
  refine⟨_,U,A.p,A.dx,_,U,hL h2.tail pin.p,(c6 _).2.2.1,A,_,L,U,h2.tail,pin.p,pin.w,fun H3 l3 h3=>?_⟩
  refine⟨_,U,l3,w0,ws,ws,0,jw+1,_,U,h3,U,by simpa using ejw,by omega,fun H4 h4=>?_⟩
  refine⟨_,U,ifF (by simp) ?_⟩
  have h4:=h4.tail
  refine⟨_,U,A.p,A.dx,_,U,hL h4 pin.p,(c6 _).1,A,_,U,hL h4 pin.p,hL h4 pin.s,_,U,pl,_,U,.inl (SqL.of (hL h4 mp)),_,_,U,?_⟩
  refine⟨_,U,ifF ?_ ?_⟩
  ·rw[show((ssV ss').length:Int)=((ssV ss).length:Int) by unfold ssV; rw[sI,sI,lss]]
   simp
  refine⟨_,U,pl,U,⟨_,SqL.of (hL h4 mp)⟩,fun D hD=>?_⟩
  refine⟨fun n m zs H'=>m=ss.length - n/\n<=ss.length/\zs=(List.replicate n true).map V.bl/\Has H' ((D,.lst zs)::L),⟨_,U,Nat.zero_le _,U,h4.alloc hD _⟩,?_⟩
  rintro n m' zs H5 ⟨rfl,hn,rfl,h5⟩
  refine⟨h5.get 0 U,?_⟩
  have g5:=hL h5.tail mp
  by_cases hlt:n<ss.length
  ·have hz:=sK hlt
   have hx0:(ssV ss)[n]?=some (.ref ss[n].1):=cT hz
   refine .inr ⟨⟨_,_,SqL.of g5,hx0⟩,?_⟩
   rintro x H6 ⟨p,y,rfl,hp,rfl,hy⟩
   have e1:=hy _ (SqL.of g5)
   rw[hx0] at e1
   cases e1
   have h6:=h5.alloc hp (.tup [.int n,.ref ss[n].1])
   have h6L:=h6.tail.tail
   obtain⟨z',hz',ez⟩:∃ z',ss'[n]?=some z'/\z'.2.map (·.2)=ss[n].2.map (·.2):=by
    have e2:(ssR ss')[n]?=some (ss[n].2.map (·.2)):=by rw[etr]; unfold ssR; rw[sN,hz]; rfl
    unfold ssR at e2
    rw[sN] at e2
    exact Option.map_eq_some_iff.mp e2
   refine⟨p,_,U,SqT.of (h6.get 0 U),U,_,_,U,_,_,U,U,U,bS ?_⟩
   refine⟨_,U,A.p,A.dx,_,U,hL h6L pin.p,jp _,_,U,A,ms,ws,ss',_,n,z',U,h6,pin.mono (fun z hz=>by simp[hz]),hz',fun H7 l h7=>?_⟩
   have h7L:=h7.tail.tail.tail
   refine⟨_,U,rwD z'.2,rwD ss[n].2,mC (h7.get 0 U) (fun x hx=>hL h7L (pin.r z' (sL hz') x hx)),mC (hL h7L (ml _ (List.getElem_mem hlt))) (fun x hx=>hL h7L (mr _ (List.getElem_mem hlt) x hx)),mB _,mB _,?_⟩
   rw[qu ez,pp _ (kF _)]
   have h8:=eJ h7 2 rfl
   refine⟨sizeOk (by rw[sI,sQ]; omega),h8.get 0 U,ss.length - (n+1),by omega,U,hlt,?_,?_⟩
   ·rw[List.replicate_succ',sP]
    rfl
   ·exact(h8.puti 0 U _).sub (.cons_cons _ (.cons _ (.cons _ (List.Sublist.refl _))))
  ·refine .inl ⟨⟨_,SqL.of g5,by unfold ssV; rw[sI]; omega⟩,?_⟩
   refine⟨D,List.replicate n true,U,SqL.of (h5.get 0 U),?_⟩
   rw[show(List.replicate n true).all id=true by simp]
   exact q _ h5.tail
end
inductive Rp (y z:List Nat):List Nat->List Nat->Prop
 | nil:Rp y z [] []
 | hit (l l' r:List Nat):l=y++l'->Rp y z l' r->Rp y z l (z++r)
 | step (a:Nat) (l r:List Nat):¬ y <+: (a::l)->Rp y z l r->Rp y z (a::l) (a::r)
theorem Rp.fn {y z:List Nat} (hy:y≠[]) {l r:List Nat} (h:Rp y z l r):∀ {r':List Nat},Rp y z l r'->r=r':=by
 induction h with
 | nil=>
  intro r' h'
  cases h' with
  | nil=>rfl
  | hit _ l' _ e _=>exact absurd (List.append_eq_nil_iff.mp e.symm).1 hy
 | hit l l' r e h ih=>
  intro r' h'
  cases h' with
  | nil=>exact absurd (List.append_eq_nil_iff.mp e.symm).1 hy
  | hit _ l2 r2 e2 h2=>
   have:=List.append_cancel_left (e.symm.trans e2)
   subst this
   rw[ih h2]
  | step a l2 r2 n _=>exact absurd ⟨l',e.symm⟩ n
 | step a l r n h ih=>
  intro r' h'
  cases h' with
  | hit _ l2 r2 e2 h2=>exact absurd ⟨l2,e2.symm⟩ n
  | step _ _ r2 _ h2=>rw[ih h2]
theorem Rp.cat {y z:List Nat} (hy:y≠[]) {s:Nat} (hs:s ∉ y) {l r l' r':List Nat} (h:Rp y z l r) (h':Rp y z l' r'):Rp y z (l++s::l') (r++s::r'):=by
 have cut:∀ {l:List Nat},y <+: l++s::l'->y <+: l:=fun {l} ⟨t,e⟩=>by
  by_cases c:y.length<=l.length
  ·exact⟨l.drop y.length,by
    have:=congrArg (List.take y.length) e
    rw[List.take_left,List.take_append_of_le_length c] at this
    exact(congrArg (·++l.drop y.length) this).trans (List.take_append_drop _ _)⟩
  ·have:(y++t)[l.length]?=some s:=by rw[e,tf (Nat.le_refl _),Nat.sub_self]; rfl
   rw[tm (by omega)] at this
   exact absurd (sL this) hs
 induction h with
 | nil=>exact .step _ _ _ (fun p=>by
   obtain⟨t,e⟩:=cut (l:=[]) p
   exact hy (List.append_eq_nil_iff.mp e).1) h'
 | hit l l0 r e _ ih=>
  rw[tj]
  exact .hit _ (l0++s::l') _ (by rw[e,tj]) ih
 | step a l r n _ ih=>exact .step _ _ _ (fun p=>n (cut (l:=a::l) p)) ih
theorem Rp.short {y z:List Nat}:∀ {l:List Nat},l.length<y.length->Rp y z l l
 | [],_=>.nil
 | a::l,h=>.step _ _ _ (fun p=>by have:=p.length_le; omega) (Rp.short (by rw[sT] at h; omega))
theorem at_of {x y:Str}{a:Nat} (h:y.cps.toList <+: x.cps.toList.drop a) (hy:y.cps.toList≠[]):StrLaws.At x y x.length a:=by
 have lx:x.cps.toList.length=x.length:=Array.length_toList
 have ly:y.cps.toList.length=y.length:=Array.length_toList
 have:=h.length_le
 rw[List.length_drop] at this
 have:0<y.cps.toList.length:=List.length_pos_iff.mpr hy
 refine⟨by omega,?_⟩
 rw[StrLaws.subAt_eq,beq_iff_eq]
 obtain⟨t,e⟩:=h
 rw[<- e,<- ly,List.take_left]
theorem iw {x y:Str}{z:List Nat} (hy:y.cps.toList≠[]) {c:Nat}{r:List Nat} (hc:c<=x.cps.toList.length) (hr:Rp y.cps.toList z (x.cps.toList.drop c) r) :
  ∀ (d a:Nat),a+d=c->(∀ k,a<=k->k<c->¬ StrLaws.At x y x.length k)->Rp y.cps.toList z (x.cps.toList.drop a) ((x.cps.toList.drop a).take d++r)
 | 0,a,e,_=>by
  have:a=c:=e
  subst this
  simpa using hr
 | d+1,a,e,n=>by
  have la:a<x.cps.toList.length:=by omega
  rw[List.drop_eq_getElem_cons la]
  exact .step _ _ _ (fun p=>n a (Nat.le_refl _) (by omega) (at_of (by rw[List.drop_eq_getElem_cons la]; exact p) hy)) (iw hy hc hr d (a+1) (by omega) fun k h1 h2=>n k (by omega) h2)
theorem jn {x y z:Str} (hy:y.cps.toList≠[]):∀ (cuts:List Nat) (a f:Nat),StrLaws.ChainG x y x.length a cuts f->(∀ k,f<=k->¬ StrLaws.At x y x.length k)->a<=x.length->Rp y.cps.toList z.cps.toList (x.cps.toList.drop a) (Str.join z (StrLaws.partsFrom x y.length a cuts)).cps.toList
 | [],a,f,h,n,ha=>by
  have lx:x.cps.toList.length=x.length:=Array.length_toList
  have e:f=a:=h
  subst e
  have:=iw (z:=z.cps.toList) (r:=[]) hy (Nat.le_of_eq lx.symm) (by rw[List.drop_of_length_le (Nat.le_of_eq lx)]; exact .nil) (x.length - f) f (by omega) fun k h1 _=>n k h1
  rw[tG] at this
  show Rp _ _ _ (Builtin.Str.strSub x f x.length).cps.toList
  rw[StrLaws.strSub_toList]
  exact this
 | c::cs,a,f,h,n,ha=>by
  have lx:x.cps.toList.length=x.length:=Array.length_toList
  have ly:y.cps.toList.length=y.length:=Array.length_toList
  obtain⟨h1,h2,h3,h4⟩:=h
  have h5:=h2.2
  rw[StrLaws.subAt_eq,beq_iff_eq] at h5
  have e:x.cps.toList.drop c=y.cps.toList++x.cps.toList.drop (c+y.length):=by
   rw[<- h5,<- List.drop_drop,List.take_append_drop]
  have ih:=jn (z:=z) hy cs _ f h4 n h2.1
  have:=iw hy (by have:=h2.1; omega) (.hit _ _ _ e ih) (c - a) a (by omega) h3
  obtain⟨p,q,e2⟩:=StrLaws.partsFrom_ne x y.length (c+y.length) cs
  show Rp _ _ _ (Str.join z (Builtin.Str.strSub x a c::StrLaws.partsFrom x y.length (c+y.length) cs)).cps.toList
  rw[cD _ _ (by rw[e2]; simp),Str.appL,Str.appL,StrLaws.strSub_toList,tj]
  exact this
theorem jX (x y z:Str) (hy:y.cps.toList≠[]):Rp y.cps.toList z.cps.toList x.cps.toList (Txt.replace x y z).cps.toList:=by
 have ly:y.cps.toList.length=y.length:=Array.length_toList
 have y1:1<=y.length:=by have:=List.length_pos_iff.mpr hy; omega
 obtain⟨f,h,n⟩:=StrLaws.occ_tight x y y1
 have:=jn (z:=z) hy _ _ _ h n (Nat.zero_le _)
 rw[List.drop_zero] at this
 unfold Txt.replace
 have c1:(y.length == 0 && z.length == 0)=false:=by rw[beq_eq_false_iff_ne.mpr (show y.length≠0 by omega)]; rfl
 rw[c1,Bool.or_false]
 cases ho:Builtin.Str.occurrences x y 0 x.length (x.length+1) with
 | nil=>
  rw[ho] at this
  rw[if_pos List.isEmpty_nil]
  rw[show Str.join z (StrLaws.partsFrom x y.length 0 [])=x from StrLaws.sub_whole x] at this
  exact this
 | cons i r=>
  rw[ho] at this
  rw[if_neg (by simp),StrLaws.glued_eq_join,StrLaws.partsBetween_eq]
  exact this
theorem kH {y z:List Nat} (hy:y≠[]) {s:Nat} (hs:s ∉ y) {α:Type}{f g:α->Str}:∀ (xs:List α),(∀ x ∈ xs,Rp y z (f x).cps.toList (g x).cps.toList)->Rp y z (Str.join ⟨#[s]⟩ (xs.map f)).cps.toList (Str.join ⟨#[s]⟩ (xs.map g)).cps.toList
 | [],_=>.nil
 | [a],h=>h a sM
 | a::b::r,h=>by
  rw[sX,sX (f:=g),cD _ (f a) (r:=(b::r).map f) (by simp),cD _ (g a) (r:=(b::r).map g) (by simp),Str.appL,Str.appL,Str.appL,Str.appL,tj,tj]
  exact(h a sM).cat hy hs (kH hy hs (b::r) fun x hx=>h x (sH _ hx))
noncomputable def yP:Str:=("1" : Str)++iy "0" 20
noncomputable def zP:Str:=("1" : Str)++iy "0" 38
noncomputable def rn (n:Int):Int:=if n<100000000000000000000 then n else n+99999999999999999900000000000000000000000000000000000000
noncomputable def Rw.mp (f:Int->Int):Rw->Rw
 | .bell n=>.bell (f n)
 | .set m s=>.set (f m) (f s)
 | .ask m a b=>.ask (f m) (f a) (f b)
 | .bump c r=>.bump (f c) (f r)
 | .go r=>.go (f r)
 | .call s=>.call (f s)
 | .fin=>.fin
theorem Rw.mp_ws (f:Int->Int) (x:Rw):(x.mp f).ws=x.ws:=by cases x <;> rfl
theorem Rw.mp_ns (f:Int->Int) (x:Rw):(x.mp f).ns=x.ns.map f:=by cases x <;> rfl
theorem Rw.mp_last (f:Int->Int) (x:Rw):(x.mp f).last=x.last:=by cases x <;> rfl
noncomputable def Tk.mp (f:Int->Int):Tk->Tk
 | .st=>.st
 | .rw x=>.rw (x.mp f)
theorem qe (f:Int->Int) (ss:List (List Rw)):tks (ss.map (·.map (Rw.mp f)))=(tks ss).map (Tk.mp f):=by
 unfold tks
 rw[List.flatMap_map,List.map_flatMap]
 congr 1
 funext rs
 simp[Tk.mp,tF,Function.comp_def]
noncomputable def pad:Nat->Nat->List Char
 | 0,_=>[]
 | k+1,d=>pad k (d / 10)++[(d % 10).digitChar]
theorem iK:∀ (k q d:Nat),0<q->d<10 ^ k->Nat.toDigits 10 (q*10 ^ k+d)=Nat.toDigits 10 q++pad k d
 | 0,q,d,_,h=>by
  have:d=0:=by have:d<1:=h; omega
  subst this
  rw[show q*10 ^ 0+0=q by omega]; exact(tG _).symm
 | k+1,q,d,hq,h=>by
  have e:q*10 ^ (k+1)=10*(q*10 ^ k):=by rw[Nat.pow_succ]; rw[<- Nat.mul_assoc,Nat.mul_comm]
  have hp:1<=q*10 ^ k:=Nat.mul_pos hq (Nat.pow_pos (by decide))
  have hd:d / 10<10 ^ k:=by rw[Nat.pow_succ] at h; omega
  rw[e]
  generalize hr:q*10 ^ k=r at hp
  rw[Nat.toDigits_of_base_le (by decide) (by omega),show(10*r+d) / 10=r+d / 10 by omega,show(10*r+d) % 10=d % 10 by omega,<- hr,iK k q (d / 10) hq hd,tj]
  rfl
theorem kO (m:Nat):(nT (m:Int)).cps.toList=(Nat.toDigits 10 m).map Char.toNat:=PySem.W.KIN.signs_num m
theorem yP_l:yP.cps.toList=(Nat.toDigits 10 (10 ^ 20)).map Char.toNat:=by decide +kernel
theorem zP_l:zP.cps.toList=(Nat.toDigits 10 (10 ^ 38)).map Char.toNat:=by decide +kernel
theorem pZ:yP.cps.toList.length=21:=by decide +kernel
theorem lX:yP.cps.toList≠[]:=fun e=>by have:=pZ; rw[e] at this; cases this
noncomputable abbrev RP (x y:Str):Prop:=Rp yP.cps.toList zP.cps.toList x.cps.toList y.cps.toList
theorem jk {x:Str} (h:x.length<=20):RP x x:=Rp.short (by rw[pZ,Array.length_toList]; exact Nat.lt_succ_of_le h)
theorem rp_nT {n:Int} (h:Nm n):RP (nT n) (nT (rn n)):=by
 obtain⟨m,rfl⟩:=Int.eq_ofNat_of_zero_le h.1
 unfold rn
 rcases h.2 with c | c
 ·rw[if_pos c]
  have e20:(10:Nat) ^ (19+1)=100000000000000000000:=by decide
  exact jk (kP m 19 (by omega))
 ·rw[if_neg (by omega)]
  have e18:(10:Nat) ^ 18=1000000000000000000:=by decide
  have e20:(10:Nat) ^ 20=100000000000000000000:=by decide
  have e38:(10:Nat) ^ 38=100000000000000000000000000000000000000:=by decide
  obtain⟨d,hd,rfl⟩:∃ d,d<10 ^ 18/\m=10 ^ 20*10 ^ 18+d:=⟨m - 100000000000000000000000000000000000000,by omega,by rw[e20,e18]; omega⟩
  have e:((10 ^ 20*10 ^ 18+d:Nat):Int)+99999999999999999900000000000000000000000000000000000000=((10 ^ 38*10 ^ 18+d:Nat):Int):=by
   rw[e18,e20,e38]; omega
  rw[e]
  unfold RP
  rw[kO,kO,iK 18 _ d (by decide) hd,iK 18 _ d (by decide) hd,sP,sP,<- yP_l,<- zP_l]
  refine .hit _ _ _ rfl (Rp.short ?_)
  rw[pZ,sI]
  have:∀ k d,(pad k d).length=k:=fun k=>by
   induction k with
   | zero=>intro d; rfl
   | succ k ih=>intro d; rw[pad,sW,ih]; rfl
  rw[this]
  decide
theorem kG {s:Nat} (hs:s ∉ yP.cps.toList) (xs:List (Str×Str)) (h:∀ x ∈ xs,RP x.1 x.2):RP (Str.join ⟨#[s]⟩ (xs.map (·.1))) (Str.join ⟨#[s]⟩ (xs.map (·.2))):=kH lX hs xs h
theorem mF {y:Str} (hy:y.length<=20) {ns:List Int} (h:∀ n ∈ ns,Nm n):RP (lT (y,ns.map It54.n)) (lT (y,(ns.map rn).map It54.n)):=by
 have:=kG (s:=32) (by decide +kernel) ((y,y)::ns.map fun n=>(nT n,nT (rn n))) (fun x hx=>by
  rcases sR.mp hx with rfl | hx
  ·exact jk hy
  ·obtain⟨n,hn,rfl⟩:=sZ.mp hx
   exact rp_nT (h n hn))
 rw[lTj,lTj,show(" " : Str)=⟨#[32]⟩ from rfl]
 simpa [tF,Function.comp_def,It54.t] using this
theorem Tk.wl (t:Tk):t.w.length<=20:=by
 cases t with
 | st=>decide +kernel
 | rw x=>exact Nat.le_trans x.wsl10 (by decide)
theorem Tk.mp_l (f:Int->Int) (t:Tk):(t.mp f).l=(t.w,(t.n.map f).map It54.n):=by
 cases t with
 | st=>rfl
 | rw x=>unfold Tk.l Tk.mp Tk.w Tk.n; simp only[Rw.mp_ws,Rw.mp_ns]
theorem oK {ms ws:List Int} (hm:∀ n ∈ ms,Nm n) (hw:∀ n ∈ ws,Nm n) (hs:∀ rs ∈ ss,∀ x ∈ rs,∀ n ∈ x.ns,Nm n):Txt.replace (xT (gL ms ws ss)) yP zP=xT (gL (ms.map rn) (ws.map rn) (ss.map (·.map (Rw.mp rn)))):=by
 refine oz (Rp.fn lX (jX _ _ _ lX) ?_)
 have:=kG (s:=10) (by decide +kernel) ((lT ("marks",ms.map It54.n),lT ("marks",(ms.map rn).map It54.n))::(lT ("widths",ws.map It54.n),lT ("widths",(ws.map rn).map It54.n))::(tks ss).map fun t=>(lT t.l,lT (t.mp rn).l)) (fun x hx=>by
  rcases sR.mp hx with rfl | hx
  ·exact mF (by decide +kernel) hm
  ·rcases sR.mp hx with rfl | hx
   ·exact mF (by decide +kernel) hw
   ·obtain⟨t,ht,rfl⟩:=sZ.mp hx
    rw[Tk.mp_l]
    refine mF t.wl fun n hn=>?_
    unfold tks at ht
    obtain⟨rs,hrs,ht⟩:=List.mem_flatMap.mp ht
    rcases sR.mp ht with rfl | ht
    ·cases hn
    ·obtain⟨y,hy,rfl⟩:=sZ.mp ht
     exact hs rs hrs y hy n hn)
 rw[xTj,xTj]
 unfold gL
 rw[qe,show("\n" : Str)=⟨#[10]⟩ from rfl]
 simpa [tF,Function.comp_def] using this
theorem pX (ms ws:List Int) (ss:List (List Rw)):prT ms ws ss=xT (gL ms ws ss):=by
 unfold prT xT gL prL tks
 congr 1
 rw[sX,sX,rf,rf,List.map_flatMap,List.map_flatMap]
 refine congrArg (fun l=>lnT "marks" ms::lnT "widths" ws::l) (congrArg (fun f=>List.flatMap f ss) (funext fun rs=>?_))
 rw[sX,sX,tF,tF]
 unfold stL
 refine congrArg (("stretch" : Str)::·) (List.map_congr_left fun x _=>?_)
 exact(rf _ _).symm
noncomputable def mpS (f:Int->Int) (ss:Ss):Ss:=ss.map fun z=>(z.1,z.2.map fun x=>(x.1,x.2.mp f))
theorem pS (f:Int->Int) (ss:Ss):ssR (mpS f ss)=(ssR ss).map (·.map (Rw.mp f)):=by
 unfold ssR mpS
 rw[tF,tF]
 refine List.map_congr_left fun z _=>?_
 simp[tF,Function.comp_def]
theorem rn_or (n:Int):rn n=n∨(100000000000000000000<=n/\100000000000000000000<=rn n):=by
 unfold rn
 split
 ·exact .inl rfl
 ·exact .inr (by omega)
theorem eN {G:Int->Prop} [∀ n,Decidable (G n)] (hG:∀ n,100000000000000000000<=n->¬ G n) (n:Int) (i:Nat):un (G (rn n)) i=un (G n) i:=by
 rcases rn_or n with e | ⟨h1,h2⟩
 ·rw[e]
 ·rw[bL (hG _ h1),bL (hG _ h2)]
theorem jL:∀ n:Int,100000000000000000000<=n->¬ cE n:=fun n h=>by unfold cE; omega
theorem lV:∀ n:Int,100000000000000000000<=n->¬ ci n:=fun n h=>by unfold ci; omega
theorem nZ:∀ n:Int,100000000000000000000<=n->¬ gc n:=fun n h=>by unfold gc; omega
theorem km {m:Nat} (hm:m<=1000):∀ n:Int,100000000000000000000<=n->¬ gIn m n:=fun n h=>by unfold gIn; omega
theorem n6 {k S:Nat} (hm:S<=1000):∀ n:Int,100000000000000000000<=n->¬ eZ k S n:=fun n h=>by unfold eZ; omega
theorem rE {nm nc nr k S:Nat} (h1:nm<=1000) (h2:nc<=1000) (h3:nr<=1000) (h4:S<=1000) (x:Rw):(x.mp rn).flt nm nc nr k S=x.flt nm nc nr k S:=by
 unfold Rw.flt
 cases x <;> simp only[Rw.mp,Rw.fs,eN jL,eN nZ,eN (km h1),eN (km h2),eN (km h3),eN (n6 h4)]
theorem qj {nm nc k S:Nat} (h1:nm<=1000) (h2:nc<=1000) (h3:rs.length<=1000) (h4:S<=1000):stF nm nc k S (rs.map fun x=>(x.1,x.2.mp rn))=stF nm nc k S rs:=by
 have e1:((rs.map fun x=>(x.1,x.2.mp rn))=[])=(rs=[]):=by cases rs <;> simp
 have e2:di (rs.map fun x=>(x.1,x.2.mp rn))=di rs:=by
  unfold di
  rw[List.getLast?_map]
  cases rs.getLast? with
  | none=>rfl
  | some x=>exact x.2.mp_last rn
 unfold stF
 rw[e2,sI,tF]
 simp only[e1]
 congr 2
 rw[show((fun x:Addr×Rw=>x.2.flt nm nc rs.length k S) ∘ fun x:Addr×Rw=>(x.1,x.2.mp rn))=fun x=>x.2.flt nm nc rs.length k S from funext fun x=>rE h1 h2 h3 h4 x.2]
theorem nN {ms ws:List Int}{ss:Ss} (h1:ms.length<=1000) (h2:ws.length<=1000) (h3:ss.length<=1000) (h4:∀ z ∈ ss,z.2.length<=1000):aT (ms.map rn) (ws.map rn) (mpS rn ss)=aT ms ws ss:=by
 have l:(mpS rn ss).length=ss.length:=by unfold mpS; rw[sI]
 have e:(mpS rn ss=[])=(ss=[]):=by unfold mpS; cases ss <;> simp
 have b:bgF (ms.map rn) (ws.map rn) (mpS rn ss)=bgF ms ws ss:=by
  unfold bgF
  rw[tF,tF]
  simp only[e,Function.comp_def,eN jL,eN lV]
 have s:dQ ms.length ws.length (mpS rn ss)=dQ ms.length ws.length ss:=by
  unfold dQ
  rw[l]
  refine List.ext_getElem? fun i=>?_
  rw[sN,sN,List.getElem?_zipIdx,List.getElem?_zipIdx]
  unfold mpS
  rw[sN]
  cases hz:ss[i]? with
  | none=>rfl
  | some z=>exact congrArg some (qj h1 h2 (h4 z (sL hz)) h3)
 unfold aT
 rw[b,sI,sI,s]
noncomputable def Rw.kd:Rw->Nat
 | .bell _=>0
 | .set _ _=>1
 | .ask _ _ _=>2
 | .bump _ _=>3
 | .go _=>4
 | .call _=>5
 | .fin=>6
noncomputable def kdW (y:Str):Nat:=(["bell","set","ask","bump","go","call","end"].map Str.ofString).findIdx (· == y)
theorem r6:∀ x:Rw,kdW x.ws=x.kd
 | .bell _=>(by decide +kernel:kdW "bell" = 0)
 | .set _ _=>(by decide +kernel:kdW "set" = 1)
 | .ask _ _ _=>(by decide +kernel:kdW "ask" = 2)
 | .bump _ _=>(by decide +kernel:kdW "bump" = 3)
 | .go _=>(by decide +kernel:kdW "go" = 4)
 | .call _=>(by decide +kernel:kdW "call" = 5)
 | .fin=>(by decide +kernel:kdW "end" = 6)
theorem qt {x y : Rw} (e1 : x.ws=y.ws) (e2 : x.ns=y.ns) : x=y := by
  have e3 : x.kd=y.kd := by rw[<- r6, <- r6, e1]
  clear e1
  cases x <;> cases y <;> first
    | (cases e3; done)
    | (cases e2; rfl)
theorem qf:∀ {a b:Tk},a.l=b.l->a=b:=by
 have it:∀ {xs ys:List Int},xs.map It54.n=ys.map It54.n->xs=ys:=fun {xs ys} h=>List.map_inj_right (f:=It54.n) (fun a b e=>It54.n.inj e) |>.mp h
 intro a b e
 have e1:a.w=b.w:=congrArg Prod.fst e
 have e2:=it (congrArg Prod.snd e)
 cases a with
 | st=>
  cases b with
  | st=>rfl
  | rw y=>exact absurd (congrArg V.str e1.symm) (of_decide_eq_false y.nst)
 | rw x=>
  cases b with
  | st=>exact absurd (congrArg V.str e1) (of_decide_eq_false x.nst)
  | rw y=>exact congrArg Tk.rw (qt e1 e2)
theorem pk (rs:List Rw):∀ (acc:List (List Rw)) (r:List Rw),(rs.map Tk.rw).foldl stp (acc++[r])=acc++[r++rs]:=by
 induction rs with
 | nil=>intro acc r; simp
 | cons x rs ih=>
  intro acc r
  rw[sX,List.foldl_cons,jS,ih]
  simp
theorem jC (ss:List (List Rw)):∀ acc:List (List Rw),(tks ss).foldl stp acc=acc++ss:=by
 induction ss with
 | nil=>intro acc; simp[tks]
 | cons rs ss ih=>
  intro acc
  have e:tks (rs::ss)=Tk.st::(rs.map Tk.rw++tks ss):=rfl
  rw[e,List.foldl_cons,List.foldl_append,show stp acc .st=acc++[[]] from rfl,pk,ih]
  simp
theorem kg {ms ws ms' ws':List Int}{ss ss':List (List Rw)} (h:gL ms ws ss=gL ms' ws' ss'):ms=ms'/\ws=ws'/\ss=ss':=by
 have it:∀ {xs ys:List Int},xs.map It54.n=ys.map It54.n->xs=ys:=fun {xs ys} h=>List.map_inj_right (f:=It54.n) (fun a b e=>It54.n.inj e) |>.mp h
 have h1:=List.cons.inj h
 have h2:=List.cons.inj h1.2
 have h3:tks ss=tks ss':=(List.map_inj_right (f:=Tk.l) fun a b e=>qf e).mp h2.2
 refine⟨it (congrArg Prod.snd h1.1),it (congrArg Prod.snd h2.1),?_⟩
 have:=jC ss []
 rw[h3,jC] at this
 simpa using this.symm
theorem kt {M:Nat} (h:∀ rs ∈ ss,rs.length<=M):(tks ss).length<=ss.length*M+ss.length:=by
 induction ss with
 | nil=>simp[tks]
 | cons rs ss ih=>
  have e:tks (rs::ss)=Tk.st::(rs.map Tk.rw++tks ss):=rfl
  have:=h rs sM
  have:=ih fun r hr=>h r (sH _ hr)
  rw[e,sT,sW,sI,sT,Nat.succ_mul]
  omega
theorem Tk.wk (t:Tk):Wk t.w/\t.w ≠ "widths":=by
 have k:∀ y ∈ (["stretch","bell","set","ask","bump","go","call","end"]:List Str),Wk y/\y ≠ "widths":=by decide +kernel
 cases t with
 | st=>exact k _ (by simp[Tk.w])
 | rw x=>cases x <;> exact k _ (by simp[Tk.w,Rw.ws])
theorem pW {ms ws:List Int}{M:Nat} (h1:ms.length<=30) (h2:ws.length<=30) (h3:ss.length*M<=120) (h4:ss.length<=40) (h5:∀ rs ∈ ss,rs.length<=M)
  (hm:∀ n ∈ ms,0<=n/\n.natAbs<=10 ^ 58) (hw:∀ n ∈ ws,0<=n/\n.natAbs<=10 ^ 58) (hs:∀ rs ∈ ss,∀ x ∈ rs,∀ n ∈ x.ns,0<=n/\n.natAbs<=10 ^ 58):Gl (gL ms ws ss):=by
 have tl:=kt h5
 have ln:(gL ms ws ss).length=2+(tks ss).length:=by unfold gL; simp; omega
 have big:∀ l ∈ gL ms ws ss,(∃ ns:List Int,l.2=ns.map It54.n/\ns.length<=30/\∀ n ∈ ns,0<=n/\n.natAbs<=10 ^ 58)/\Wk l.1:=by
  intro l hl
  rcases sR.mp hl with rfl | hl
  ·exact⟨⟨ms,U,h1,hm⟩,(by decide +kernel:Wk "marks")⟩
  ·rcases sR.mp hl with rfl | hl
   ·exact⟨⟨ws,U,h2,hw⟩,(by decide +kernel:Wk "widths")⟩
   ·obtain⟨t,ht,rfl⟩:=sZ.mp hl
    refine⟨⟨t.n,U,?_,?_⟩,t.wk.1⟩
    ·cases t with
     | st=>exact Nat.zero_le _
     | rw x=>
      have:=x.nsl
      show x.ns.length<=30
      omega
    ·unfold tks at ht
     obtain⟨rs,hrs,ht⟩:=List.mem_flatMap.mp ht
     rcases sR.mp ht with rfl | ht
     ·exact fun n hn=>nomatch hn
     ·obtain⟨y,hy,rfl⟩:=sZ.mp ht
      exact hs rs hrs y hy
 refine⟨⟨fun l hl=>?_,by omega,by unfold gL; simp⟩,by omega,fun l hl=>?_,fun l hl x hx=>?_,⟨_,_,_,U,fun l hl=>?_⟩⟩
 ·obtain⟨⟨ns,e,e2,e3⟩,e4⟩:=big l hl
  refine⟨e4,fun x hx=>?_,by rw[e,sI]; omega⟩
  rw[e] at hx
  obtain⟨n,hn,rfl⟩:=sZ.mp hx
  exact e3 n hn
 ·obtain⟨⟨ns,e,e2,_⟩,_⟩:=big l hl
  rw[e,sI]; omega
 ·obtain⟨⟨ns,e,_,_⟩,_⟩:=big l hl
  rw[e] at hx
  obtain⟨n,_,rfl⟩:=sZ.mp hx
  exact⟨n,U⟩
 ·obtain⟨t,_,rfl⟩:=sZ.mp hl
  exact t.wk.2
theorem cO:∀ {l:List (Option Nat)},d4 l=none->∀ o ∈ l,o=none
 | [],_,o,ho=>nomatch ho
 | none::r,h,o,ho=>(sR.mp ho).elim id (cO (l:=r) h o)
 | some i::r,h,_,_=>nomatch h
theorem bA {p:Prop} [Decidable p] {i:Nat} (h:un p i=none):p:=by
 unfold un at h
 split at h
 ·assumption
 ·cases h
theorem bq {n:Int} (h:n<100000000000000000000):rn n=n:=if_pos h
theorem lM {nm nc nr k S:Nat} (h1:nm<=1000) (h2:nc<=1000) (h3:nr<=1000) (h4:S<=1000) {x:Rw} (h:x.flt nm nc nr k S=none):x.mp rn=x:=by
 have a:=cO h
 cases x <;> simp only[Rw.fs,sR,tw,or_false,forall_eq_or_imp,forall_eq] at a <;> simp only[Rw.mp]
 case bell=>have:=bA a; unfold gc at this; rw[bq (by omega)]
 case set=>have b:=bA a.1; have c:=bA a.2; unfold gIn at b; unfold cE at c; rw[bq (by omega),bq (by omega)]
 case ask=>have b:=bA a.1; have c:=bA a.2.1; have d:=bA a.2.2; unfold gIn at b c d; rw[bq (by omega),bq (by omega),bq (by omega)]
 case bump=>have b:=bA a.1; have c:=bA a.2; unfold gIn at b c; rw[bq (by omega),bq (by omega)]
 case go=>have:=bA a; unfold gIn at this; rw[bq (by omega)]
 case call=>have:=bA a; unfold eZ at this; rw[bq (by omega)]
theorem fo {α:Type}{f:α->α}{l:List α} (h:∀ x ∈ l,f x=x):l.map f=l:=by
 induction l with
 | nil=>rfl
 | cons a r ih=>rw[sX,h a sM,ih fun x hx=>h x (sH _ hx)]
theorem li {nm nc k S:Nat} (h1:nm<=1000) (h2:nc<=1000) (h3:rs.length<=1000) (h4:S<=1000) (h:stF nm nc k S rs=none):∀ x ∈ rs,x.2.mp rn=x.2:=by
 intro x hx
 unfold stF at h
 split at h
 ·cases h
 ·split at h
  ·cases h
  ·next e=>exact lM h1 h2 h3 h4 (cO e _ (tq hx))
theorem jD {ms ws:List Int}{ss:Ss} (h1:ms.length<=1000) (h2:ws.length<=1000) (h3:ss.length<=1000) (h4:∀ z ∈ ss,z.2.length<=1000) (h:aT ms ws ss=none):ms.map rn=ms/\ws.map rn=ws/\mpS rn ss=ss:=by
 unfold aT at h
 split at h
 ·cases h
 ·next hb=>
  unfold bgF at hb
  split at hb
  ·cases hb
  ·next em=>
   split at hb
   ·cases hb
   ·next ew=>
    refine⟨fo fun n hn=>?_,fo fun n hn=>?_,fo fun z hz=>?_⟩
    ·have:=bA (cO em _ (tq (f:=fun n=>un (cE n) 2) hn))
     unfold cE at this
     exact bq (by omega)
    ·have:=bA (cO ew _ (tq (f:=fun n=>un (ci n) 18) hn))
     unfold ci at this
     exact bq (by omega)
    ·obtain⟨i,hi⟩:=List.getElem?_of_mem hz
     have e:=dn (nm:=ms.length) (nc:=ws.length) hi
     have:=li h1 h2 (h4 z hz) h3 (cO h _ (sL e))
     have:z.2.map (fun x=>(x.1,x.2.mp rn))=z.2:=fo fun x hx=>by rw[this x hx]
     rw[this]
noncomputable def stR (nm nc k S:Nat) (rs:List Rw):Option Nat :=
 if rs=[] then some 20 else match d4 (rs.map fun x=>x.flt nm nc rs.length k S) with | some i=>some i | none=>if (match rs.getLast? with | some x=>x.last | none=>false) then none else some 20
theorem pJ (nm nc k S:Nat) (rs:List (Addr×Rw)):stF nm nc k S rs=stR nm nc k S (rs.map (·.2)):=by
 have e1:(rs.map (·.2)=[])=(rs=[]):=by cases rs <;> simp
 unfold stF stR di
 rw[sI,tF,List.getLast?_map]
 simp only[e1]
 cases rs.getLast? <;> rfl
theorem iI {ms ws:List Int}{ss sd:Ss} (e:ssR sd=ssR ss):aT ms ws sd=aT ms ws ss:=by
 have l:sd.length=ss.length:=by simpa [ssR] using congrArg List.length e
 have n:(sd=[])=(ss=[]):=by
  rw[<- List.length_eq_zero_iff,l,List.length_eq_zero_iff]
 have b:bgF ms ws sd=bgF ms ws ss:=by unfold bgF; simp only[n]
 have s:dQ ms.length ws.length sd=dQ ms.length ws.length ss:=by
  unfold dQ
  rw[l]
  refine List.ext_getElem? fun i=>?_
  have ei:(ssR sd)[i]?=(ssR ss)[i]?:=by rw[e]
  unfold ssR at ei
  rw[sN,sN] at ei
  rw[sN,sN,List.getElem?_zipIdx,List.getElem?_zipIdx]
  cases hz:sd[i]? with
  | none=>
   cases hy:ss[i]? with
   | none=>rfl
   | some y=>rw[hz,hy] at ei; cases ei
  | some z=>
   cases hy:ss[i]? with
   | none=>rw[hz,hy] at ei; cases ei
   | some y=>
    rw[hz,hy] at ei
    have:=Option.some.inj ei
    exact congrArg some (by
     show stF _ _ _ _ z.2=stF _ _ _ _ y.2
     rw[pJ,pJ]
     exact congrArg _ this)
 unfold aT
 rw[b,s]
theorem fv (ms ws:List Int) (ss:List (List Rw)):¬ kI (gL ms ws ss):=by
 rintro(⟨l,hl,z,hz⟩ | h | ⟨j,l,hj,h1,h2⟩)
 ·have:∃ ns:List Int,l.2=ns.map It54.n:=by
   rcases sR.mp hl with rfl | hl
   ·exact⟨_,U⟩
   ·rcases sR.mp hl with rfl | hl
    ·exact⟨_,U⟩
    ·obtain⟨t,_,rfl⟩:=sZ.mp hl
     exact⟨_,U⟩
  obtain⟨ns,e⟩:=this
  rw[e] at hz
  obtain⟨n,_,e⟩:=sZ.mp hz
  cases e
 ·exact h rfl
 ·have hj:((tks ss).map Tk.l)[j]?=some l:=hj
  rw[sN] at hj
  obtain⟨t,ht,rfl⟩:=Option.map_eq_some_iff.mp hj
  cases t with
  | st=>exact h1 ⟨U,U⟩
  | rw x=>
   rcases h2 with rfl | h2
   ·cases ss with
    | nil=>cases ht
    | cons a b=>cases ht
   ·exact h2 x ⟨U,by unfold Tk.l Tk.n; rw[sI]⟩
theorem oR {ms ws:List Int}{M:Nat} (fit:Fit ms ws ss) (h1:ms.length<=30) (h2:ws.length<=30) (h3:ss.length*M<=120) (h4:ss.length<=40) (h5:∀ rs ∈ ss,rs.length<=M):(prT ms ws ss).length<=100000:=by
 have a1:(lnT "marks" ms).length<=3131:=by
  refine Nat.le_trans (cX (ce (by decide +kernel) fit.m)) ?_
  rw[sT,sI,show(Str.ofString " ").length=1 from rfl]; omega
 have a2:(lnT "widths" ws).length<=3131:=by
  refine Nat.le_trans (cX (ce (by decide +kernel) fit.w)) ?_
  rw[sT,sI,show(Str.ofString " ").length=1 from rfl]; omega
 have a3:∀ y ∈ ss.flatMap stL,y.length<=300:=fun y hy=>by
  obtain⟨rs,hrs,hy⟩:=List.mem_flatMap.mp hy
  rcases sR.mp hy with rfl | hy
  ·decide +kernel
  ·obtain⟨x,hx,rfl⟩:=sZ.mp hy
   exact kE x ((fit.r rs hrs).2 x hx)
 have a4:(ss.flatMap stL).length<=160:=by
  have:=kt h5
  have e:(ss.flatMap stL).length=(tks ss).length:=by
   unfold tks stL
   rw[List.length_flatMap,List.length_flatMap]
   simp
  omega
 have j1:prT ms ws ss=lnT "marks" ms++("\n" : Str)++(Str.join "\n" (lnT "widths" ws::ss.flatMap stL)):=(StrLaws.glued_eq_join _ _).trans (cD _ _ (by simp))
 have j2:(Str.join "\n" (ss.flatMap stL)).length<=160*301:=by
  have:=cX (sep := "\n") a3
  rw[show(Str.ofString "\n").length=1 from rfl,show Txt.join "\n" (ss.flatMap stL)=Str.join "\n" (ss.flatMap stL) from StrLaws.glued_eq_join _ _] at this
  exact Nat.le_trans this (Nat.mul_le_mul_right _ a4)
 have s1:("\n" : Str).length=1:=rfl
 rw[j1,lE,lE,s1]
 cases e:ss.flatMap stL with
 | nil=>
  show _+(lnT "widths" ws).length<=_
  omega
 | cons b r=>
  rw[cD _ (lnT "widths" ws) (r:=b::r) (by simp),lE,lE,s1,<- e]
  omega
noncomputable def NT (z:Addr×HO):Prop:=∀ ps,z.2≠.tbl ps
theorem Tb.ne {Z L:Kn}{Pt:Addr}{qual:Str}{z:Addr×HO} (T:Tb L Pt qual) (h:Has H (Z++L)) (m:z ∈ L) (hz:NT z):z.1≠Pt:=fun e=>by
 obtain⟨ps,mp,_⟩:=T.ex
 have q1:=h.at_ _ (sJ _ m)
 have q2:=h.at_ _ (sJ _ mp)
 rw[e,q2] at q1
 exact hz _ (Option.some.inj q1).symm
inductive sp_lawT (K:PySem.W.Frag) (Pt:Addr) (vs:List V) (H:Hp) (Q:VK) (E_:XK):Prop
 | mk (a:Addr) (ns:List Int) (_:vs=[.ref a]) (_:SqL K H a (ns.map V.int)) (_:ns.length<=63) (_:H Pt=some (.tbl #[])) (_:∀ H',Q (.bl true) H'):sp_lawT K Pt vs H Q E_
variable{K:PySem.W.Frag}{mg:Str->Option Value}
theorem lG {t:Adr} (T:Txt K mg t) (s:Shared) (u:Value):BindsTo s t.d_law ⟨[u],[]⟩ [("_law_script",u)]:=by
 obtain⟨oc,od,kV,doc,pm,an,cdv,ct,osl,e,lk,hcd⟩:=T.F_law.ex
 rw[e,T.e_law]
 exact .of_eq rfl
theorem law_startT {a Pt:Addr}{ns:List Int} (hl:ns.length<=63) (hT:H Pt=some (.tbl #[])) (hS:SqL K H a (ns.map V.int)) {E:XK}:sp_lawT K Pt [.ref a] H (fun v _=>v=.bl true) E:=⟨a,ns,U,hS,hl,hT,fun _=>rfl⟩
theorem low {P:Program}{w:World}{base:Heap}{k:Nat}{f:Addr}{fd:FuncData}{ps:List Str}{sp:Sp} (F:FnOk P w K mg base (CXr P w) k f fd ps sp):FnOk P w K mg base CX0 k f fd ps (fun vs H Q _=>sp vs H Q E0) :=
 ⟨fun vs H Q E h=>F.len vs H Q _ h,fun A outer s H args us vs Q E hr he hb hv hs=>codeAny_mono (F.run A outer s H args us vs Q E0 hr he hb hv hs) fun r s' h=>by
  cases r with
  | error e=>
   obtain⟨_,_,_,_,_,_,_,_,_,_,_,_,_,z⟩:=h
   exact z.elim
  | ok fl=>cases fl <;> exact h⟩
section
variable {P:Program}{w:World}{K:PySem.W.Frag}{mg:Str->Option Value}{base:Heap}{t:Adr}
theorem scLa:FnScope ["_law_script","_law_d","_law_marks","_law_widths","_law_parts_here","_law_turn","_law_text","_law_handed","_law_due"] ["_law_script"] (ac cx):={}
theorem pP (T:Txt K mg t):FnOk P w K mg base CX0 7 t.f_Jc t.d_Jc ["text"] (fun vs H Q _=>mj t vs H Q E0):=low (j7 T)
noncomputable def lwT (T:Txt K mg t) (kb:K.In base) (hbm:BM base mg) (cc:Addr) (hch:W.codeHdIn K cc t.p_law=true) (hCH:PySem.W.CodeHd base cc t.p_law) (A:Around) (outer:List Env) (s:Shared) (H:Hp) (E:XK) (hr:Room 11 (A.deeper (PyProof.Rows.envOfC (Str.ofString "law") (ac cx) s.heap.objs.size t.f_law (Value.ref cc)))):{ ts:TS // PSs (cP CX0 P w K mg base ["_law_script","_law_d","_law_marks","_law_widths","_law_parts_here","_law_turn","_law_text","_law_handed","_law_due"] (Str.ofString "law") (ac cx) t.f_law (Value.ref cc) A outer s H E).nox (ai cx) ts } :=
 ⟨_,(af (aC (i:=1) scLa.nd rfl (Or.inl rfl) (pcl (m8 T) hr T.m_draws T.F_draws.kp (py T) (aa (pv 0) (aa ae ad))))
   (af (bT (pcl (ok_Jq T) hr T.m_Jq T.F_Jq.kp (b_Jq T) (aa (bG dq (pv 1) (bX ae) bY) ad)) (fO rfl (aU (az (i:=2) scLa.nd rfl (Or.inr rfl)) (aU (az (i:=3) scLa.nd rfl (Or.inr rfl)) (aU (az (i:=4) scLa.nd rfl (Or.inl rfl)) cz)))))
   (af (bv PassesOwn.never rfl (bD (by rfl) T.z_range (aa (ak ay (aA au (pv 1) ae) ae) ad)) (az (i:=5) scLa.nd rfl (Or.inl rfl))
    (ag (aG (pcl (ok_J5 T) hr T.m_J5 T.F_J5.kp (b_J5 T) (aa (pv 1) (aa (ak aL ae (ak dh ae (pv 5))) (aa (pv 2) (aa (pv 3) (aa (pv 4) ad)))))))))
   (af (bj (aD (ap aZ (ak ay (aA au (pv 1) ae) ae) ae (ar _))
    (ag (aG (j4 PySem.F.plainAttrs_list PySem.F.slot_list_clear PySem.F.type_list_clear jt (pv 4))))
    ax))
   (af (aC (i:=6) scLa.nd rfl (Or.inr rfl) (pcl (ok_Jb T) hr T.m_Jb T.F_Jb.kp (b_Jb T) (aa (pv 2) (aa (pv 3) (aa (pv 4) ad)))))
   (af (bj (aD (ap aZ (ak ay (aA au (pv 1) ae) ae) ae (ar _))
    (ag (aC (i:=6) scLa.nd rfl (Or.inr rfl) (oU (pv 6) (jo rfl rfl (by decide) (by decide) (by decide) (by decide +kernel) (by decide +kernel) (by decide +kernel)) (jo rfl rfl (by decide) (by decide) (by decide) (by decide +kernel) (by decide +kernel) (by decide +kernel)) (by decide +kernel) ⟨rfl,rfl,rfl,rfl⟩)))
    ax))
   (af (aC (i:=7) scLa.nd rfl (Or.inr rfl) (pcl (ok_Js T) hr T.m_Js T.F_Js.kp (b_Js T) (aa (pv 4) ad)))
   (af (aC (i:=8) scLa.nd rfl (Or.inl rfl) (eu (kd:=7) (N':=["_law_marks","_law_widths","_law_handed"]) [2,3,7] (m9 T) (hr.mono (by decide)) (by rfl) T.m_Jr T.F_Jr.kp rfl hCH hbm (fun _=>rfl) rfl rfl rfl rfl rfl (by decide +kernel) (esc:=ac cx) rfl (by decide +kernel) (by decide +kernel) (by rfl) (fun _ _ _ _ _=>rfl) (fun _ _ _ _ _ _ _ _ hr1=>by exact(kK T.mk_Program (nh T) (hr1.mono (by decide)) (by rfl) T.m_Program (sr T) .nil mV (aa (pv 0) (aa (pv 1) (aa (pv 2) ad)))))))
   (af (bj (aD (ap aZ (ak ay (aA au (pv 1) ae) ae) ae (ar _))
    (af (aC (i:=6) scLa.nd rfl (Or.inr rfl) (pcl (ok_Jg T) hr T.m_Jg T.F_Jg.kp (b_Jg T) (aa (pv 6) (aa (ak ay (aA au (pv 1) ae) ae) (aa (aA au (pv 1) ae) (aa (aA au (pv 1) ae) ad))))))
     (ag (aJ (bZ (mZ hr.units) (eu (kd:=7) (N':=["_law_text"]) [6] (m9 T) (hr.mono (by decide)) (by rfl) T.m_Jr T.F_Jr.kp rfl hCH hbm (fun _=>rfl) rfl rfl rfl rfl rfl (by decide +kernel) (esc:=ac cx) rfl (by decide +kernel) (by decide +kernel) (by rfl) (fun _ _ _ _ _=>rfl) (fun _ _ _ _ _ _ _ _ hr1=>by exact(bu (j7 T) (hr1.mono (by decide)) (by rfl) T.m_Jc T.F_Jc.kp (pA T) .nil mV (aa (pv 0) ad)))) (aV (aa ah ad)) (ar _)))))
    ax))
   (af (bj (aD (ap (j6 hr.units) (eu (kd:=7) (N':=["_law_text"]) [6] (m9 T) (hr.mono (by decide)) (by rfl) T.m_Jr T.F_Jr.kp rfl hCH hbm (fun _=>rfl) rfl rfl rfl rfl rfl (by decide +kernel) (esc:=ac cx) rfl (by decide +kernel) (by decide +kernel) (by rfl) (fun _ _ _ _ _=>rfl) (fun _ _ _ _ _ _ _ _ hr1=>by exact(bu (j7 T) (hr1.mono (by decide)) (by rfl) T.m_Jc T.F_Jc.kp (pA T) .nil mV (aa (pv 0) ad)))) (pv 8) (ar _))
    (ag (aJ gQ))
    ax))
   (af (bj (aD (ap (j6 hr.units) (pv 8) (aV ad) (ar _))
    (ag (aJ gQ))
    ax))
   (ag (aJ (iC (pcl (oX T) hr T.m_told T.F_told.kp (rM T) (aa (pcl (pP T) hr T.m_Jc T.F_Jc.kp (pA T) (aa (pv 6) ad)) (aa (pv 2) (aa (pv 3) (aa (pv 4) ad))))) (fQ (bZ aZ (pcl (ok_J7 T) hr T.m_J7 T.F_J7.kp (b_J7 T) (aa (pcl (pP T) hr T.m_Jc T.F_Jc.kp (pA T) (aa (pv 6) ad)) ad)) (pv 6) (ar _)))))))))))))))))⟩
end
theorem _root_.L2.Has.mid1 {a x:Addr×HO}{Q R:Kn} (h:Has H (a::(Q++x::R))):Has H (a::x::(Q++R)):=h.perm (.cons _ List.perm_middle)
theorem _root_.L2.Has.mid2 {a b x:Addr×HO}{Q R:Kn} (h:Has H (a::b::(Q++x::R))):Has H (a::b::x::(Q++R)):=h.perm (.cons _ (.cons _ List.perm_middle))
noncomputable def Cd (i:Nat):Prop:=i=2∨i=3∨i=14∨i=15∨i=16∨i=17∨i=18∨i=20
theorem dk {l:List (Option Nat)}{i:Nat} (e:d4 l=some i):some i ∈ l:=by
 induction l with
 | nil=>cases e
 | cons o r ih=>
  cases o with
  | some j=>cases e; exact sM
  | none=>exact sH _ (ih e)
theorem eO {p:Prop} [Decidable p] {c i:Nat} (h:some i=un p c):i=c:=by
 unfold un at h
 split at h
 ·cases h
 ·exact Option.some.inj h
theorem Rw.cd {nm nc nr k ns:Nat}{x:Rw}{i:Nat} (h:x.flt nm nc nr k ns=some i):Cd i:=by
 have:=dk h
 cases x <;> simp only[Rw.fs,sR,tw,or_false] at this <;> unfold Cd
 case bell=>have:=eO this; omega
 case set=>rcases this with h | h <;> have:=eO h <;> omega
 case ask=>rcases this with h | h | h <;> have:=eO h <;> omega
 case bump=>rcases this with h | h <;> have:=eO h <;> omega
 case go=>have:=eO this; omega
 case call=>have:=eO this; omega
theorem ql {nm nc k ns:Nat}{i:Nat} (h:stF nm nc k ns rs=some i):Cd i:=by
 have c20:Cd 20:=by unfold Cd; omega
 unfold stF at h
 split at h
 ·cases h; exact c20
 ·split at h
  ·next j hj=>
   cases h
   obtain⟨y,_,hy⟩:=sZ.mp (dk hj)
   exact Rw.cd hy
  ·split at h
   ·cases h
   ·cases h; exact c20
theorem gj {ms ws:List Int}{ss:Ss}{i:Nat} (h:aT ms ws ss=some i):Cd i:=by
 unfold aT at h
 split at h
 ·next j hj=>
  cases h
  unfold bgF at hj
  split at hj
  ·next j hj2=>
   cases hj
   obtain⟨y,_,hy⟩:=sZ.mp (dk hj2)
   have:=eO hy.symm
   unfold Cd; omega
  ·split at hj
   ·next j hj2=>
    cases hj
    obtain⟨y,_,hy⟩:=sZ.mp (dk hj2)
    have:=eO hy.symm
    unfold Cd; omega
   ·split at hj
    ·cases hj; unfold Cd; omega
    ·cases hj
 ·have:=dk h
  unfold dQ at this
  obtain⟨y,_,hy⟩:=sZ.mp this
  exact ql hy
theorem Cd.lt {i:Nat} (h:Cd i):i<22:=by unfold Cd at h; omega
theorem Cd.exc {t:Adr} (T:Txt K mg t) {i:Nat} (h:Cd i):aQ K (hU t i) t.c_RailError (dN t i)=true:=by
 rcases h with rfl | rfl | rfl | rfl | rfl | rfl | rfl | rfl
 ·exact T.x_NoSide
 ·exact T.x_NoNote
 ·exact T.x_NoStretch
 ·exact T.x_NoRow
 ·exact T.x_NoMark
 ·exact T.x_NoCounter
 ·exact T.x_NoWidth
 ·exact T.x_FallsOut
theorem fN {t:Adr}{spD:Hp->VK->XK->Prop}{H8:Hp}{Qk:VK}{L8:Kn} (o:Option Nat) (ho:∀ i,o=some i->i<22) (h8:Has H8 L8)
  (hd:∀ H1 W Q1 E1,Has H1 (L8++W)->(o=none->∀ v H2 G,Has H2 (G++(L8++W))->Q1 v H2)->(∀ i,o=some i->∀ C a H2 G,aQ K C t.c_RailError (dN t i)=true->Has H2 (G++(L8++W))->E1 (.ref C) (some a) H2)->spD H1 Q1 E1)
  (k:∀ r H2 G,Has H2 ((r,.lst ((cZ o).map V.str))::(G++L8))->Qk (.ref r) H2):pK K t spD H8 Qk:=by
 refine⟨L8,[],fun _ N=>o=none/\∃ G,N=G++L8,fun i N=>o=some i/\∃ G,N=G++L8,by rw[tG]; exact h8,fun H1 W Q1 E1 s1 hV hX=>?_,?_,?_⟩
 ·refine hd H1 W Q1 E1 s1 (fun e v H2 G h2=>hV v (G++L8) H2 ⟨e,G,U⟩ (by rw[tj]; exact h2)) (fun i e C a H2 G hc h2=>hX C a i (G++L8) H2 ⟨e,G,U⟩ (ho i e) hc (by rw[tj]; exact h2))
 ·rintro v N r H2 ⟨rfl,G,rfl⟩ s2
  rw[tG] at s2
  exact k r H2 G s2
 ·rintro i N r H2 ⟨rfl,G,rfl⟩ _ s2
  rw[tG] at s2
  exact k r H2 G s2
theorem Gd.clear {ms ws:List Int}{ss:Ss} (h:Gd ms ws ss):Gd ms ws []:={ h with s:=fun z hz=>(nomatch hz),lim:=⟨0,by simp,fun z hz=>(nomatch hz)⟩,c:=by simp }
theorem Nm.b {n:Int} (h:Nm n):0<=n/\n.natAbs<=10 ^ 58:=by
 have e58:(10:Nat) ^ 58=10000000000000000000000000000000000000000000000000000000000:=by decide
 unfold Nm at h
 rw[e58]
 omega
theorem Nm.rb {n:Int} (h:Nm n):0<=rn n/\(rn n).natAbs<=10 ^ 58:=by
 have e58:(10:Nat) ^ 58=10000000000000000000000000000000000000000000000000000000000:=by decide
 unfold Nm at h
 unfold rn
 rw[e58]
 split <;> omega
theorem ok_Nm {nm nc nr k S:Nat}{x:Rw} (h:x.ok nm nc nr k S) (h1:nm<=10000) (h2:nc<=10000) (h3:nr<=10000) (h4:S<=10000):∀ n ∈ x.ns,Nm n:=by
 intro n hn
 unfold Nm
 cases x <;> simp only[Rw.ok] at h <;> simp[Rw.ns] at hn
 ·subst hn; omega
 ·rcases hn with rfl | rfl <;> omega
 ·rcases hn with rfl | rfl | rfl <;> omega
 ·rcases hn with rfl | rfl <;> omega
 ·subst hn; omega
 ·subst hn; omega
section
variable {P:Program}{w:World}{K:PySem.W.Frag}{mg:Str->Option Value}{base:Heap}{t:Adr}
theorem qL (T:Txt K mg t) (kb:K.In base) (hbm:BM base mg):FnOk P w K mg base CX0 12 t.f_law t.d_law ["_law_script"] (sp_lawT K t.p_law):=by
 refine T.F_law.okC scLa (fun vs H Q E h=>?_) (fun cdv A outer s H vs Q E hcdv hr h=>?_)
 ·obtain⟨_,_,rfl,_⟩:=h
  rfl
 ·obtain⟨a,ns,rfl,hS,hns,hT,q⟩:=h
  obtain⟨cc,ecd,hch⟩:=T.tb_law
  have ecdv:cdv=.ref cc:=hcdv.symm.trans ecd
  subst ecdv
  have hCH:PySem.W.CodeHd base cc t.p_law:=PySem.W.codeHd_of_K kb hch
  have h0:Has H [(t.p_law,.tbl #[])]:=⟨by simp,by simp[hT]⟩
  refine⟨(lwT T kb hbm cc hch hCH A outer s H E hr).1,(lwT T kb hbm cc hch hCH A outer s H E hr).2,?_⟩
  rw[show L2.start ["_law_script","_law_d","_law_marks","_law_widths","_law_parts_here","_law_turn","_law_text","_law_handed","_law_due"] [V.ref a]=([some (V.ref a),none,none,none,none,none,none,none,none]:St) from rfl]
  unfold lwT
  refine⟨_,U,a,ns,360,_,U,hS,hns,by decide,by decide,h0,fun H1 d ds h1 hds hdr=>?_⟩
  dsimp only[List.set]
  have hds:ds.length=360:=hds
  have ecut:bQ (ds.map V.int) (some 18) none=(ds.drop 18).map V.int:=by
   simp[bQ,HT.sIx,hds]
   exact List.take_of_length_le (by rw[List.length_drop,sI]; omega)
  refine⟨_,U,_,U,d,_,U,SqL.of (h1.get 0 U),fun sl hsl=>?_⟩
  rw[ecut]
  have h2:=h1.alloc hsl (.lst ((ds.drop 18).map V.int))
  refine⟨sl,ds.drop 18,_,U,h2,sM,by rw[List.length_drop]; omega,fun H3 tp m wl pl ms ws ss N i1 i2 i3 i4 i5 i6 hgood hlim i7 i8 h3=>?_⟩
  refine⟨tp,_,U,SqT.of (h3.get 0 U),U,_,_,U,_,_,U,_,_,U,U,?_⟩
  dsimp only[List.set]
  obtain⟨Lr,eLr⟩:∃ Lr:Kn,[(d,HO.lst (ds.map V.int)),(t.p_law,.tbl #[])]=Lr:=⟨_,U⟩
  have md:(d,HO.lst (ds.map V.int)) ∈ Lr:=by rw[<- eLr]; simp
  have mpt:(t.p_law,HO.tbl #[]) ∈ Lr:=by rw[<- eLr]; simp
  have pos:0<ss.length:=List.length_pos_iff.mpr i5
  obtain⟨⟨M,m1,m2⟩,hnd⟩:=hlim
  have M120:M<=120:=Nat.le_trans (Nat.le_mul_of_pos_left M pos) m1
  have hg0:Gd ms ws ss:=⟨fun n hn=>by rcases i1 n hn with rfl | rfl <;> (unfold Nm; omega),fun n hn=>by have:=i2 n hn; unfold Nm; omega,fun z hz x hx=>by
   obtain⟨k,hk⟩:=List.getElem?_of_mem hz
   have:=m2 z hz
   exact ok_Nm ((hgood k z hk).1 x hx) (by omega) (by omega) (by omega) (by omega),⟨M,m1,m2⟩,i6,i3,i4⟩
  have hS0:S34 H3 m wl pl ms ws ss (N++[(sl,.lst ((ds.drop 18).map V.int))]) Lr:=by
   refine⟨?_,fun z hz=>sV _ (i7 z hz),fun z hz x hx=>sV _ (i8 z hz x hx),hnd,⟨by omega,fun n hn=>(hg0.m n hn).b.2⟩,⟨by omega,fun n hn=>(hg0.w n hn).b.2⟩,⟨by omega,fun z hz=>⟨by have:=m2 z hz; omega,fun x hx n hn=>(hg0.s z hz x hx n hn).b.2⟩⟩⟩
   have:=h3.tail.mid1.mid2
   rw[<- eLr]
   simpa [tj] using this
  clear h3 h2 hsl ecut i1 i2 i3 i4 i6 hgood i7 i8 hnd m1 m2 M120 pos
  have dsb:∀ x ∈ ds,0<=x/\x<10 ^ 18:=hdr
  have gD:∀ {H':Hp}{X:Kn},Has H' (X++Lr)->H' d=some (.lst (ds.map V.int)):=fun h=>h.at_ (d,_) (sJ _ md)
  have db:∀ j:Int,0<=j->j<360->0<=ds.getD j.toNat 0/\ds.getD j.toNat 0<10 ^ 18:=fun j h0 h1=>dsb _ (by
   rw[List.getD_eq_getElem?_getD,sK (show j.toNat<ds.length by omega)]
   exact List.getElem_mem _)
  obtain⟨cnt,ecnt⟩:∃ cnt:Nat,ds.getD (0:Int).toNat 0 % 3=cnt:=Int.eq_ofNat_of_zero_le (by omega)
  have cb:cnt<3:=by omega
  have g0:=hS0.has.at_ (d,_) (sH _ (sH _ (sH _ (sJ _ md))))
  refine⟨_,U,d,_,_,_,U,U,SqL.of g0,dgI 0 (by decide) (by omega),_,_,U,U,(show(0:Int)<3 by decide),?_⟩
  rw[ecnt]
  clear ecnt g0
  refine⟨_,U,by omega,by omega,bK (fun i σ H'=>∃ (o5:Option V) (ms ws:List Int) (ss:Ss) (N:Kn),σ=[some (.ref a),some (.ref d),some (.ref m),some (.ref wl),some (.ref pl),o5,none,none,none]/\S34 H' m wl pl ms ws ss N Lr/\Gd ms ws ss/\ss≠[]) ⟨_,_,_,_,_,U,hS0,hg0,i5⟩ ?_ ?_⟩
  ·clear hS0 hg0 i5
   rintro i σ H4 hi ⟨o5,ms,ws,ss,N,rfl,hS,hg,hne⟩
   have hi:i<3:=by omega
   rw[Int.zero_add]
   refine⟨_,U,_,U,_,_,U,U,.inl ⟨by decide,by decide⟩,_,_,U,U,_,U,_,U,_,U,d,m,wl,pl,ds,4+5*(i:Int),ms,ws,ss,N,Lr,U,hS,hg,hne,md,dsb,by omega,by omega,fun H5 ms' ws' ss' N' hS' hg' hne'=>⟨_,_,_,_,_,U,hS',hg',hne'⟩⟩
  clear hS0 hg0 i5
  rintro σ H4 ⟨o5,ms,ws,ss,N,rfl,hS,hg,hne⟩
  obtain⟨Pn,ePn⟩:∃ Pn:St->Hp->Prop,(fun σ' H'=>∃ ss N,σ'=[some (.ref a),some (.ref d),some (.ref m),some (.ref wl),some (.ref pl),o5,none,none,none]/\S34 H' m wl pl ms ws ss N Lr/\Gd ms ws ss)=Pn:=⟨_,U⟩
  refine⟨Pn,?_,?_⟩
  ·have g0:=hS.has.at_ (d,_) (sH _ (sH _ (sH _ (sJ _ md))))
   refine⟨_,U,d,_,_,_,U,U,SqL.of g0,dgI 17 (by decide) (by omega),_,_,U,U,(show(0:Int)<9 by decide),U,_,U,?_⟩
   rw[bb,<- ePn]
   refine ifd (fun _=>?_) (fun _=>⟨_,_,U,hS,hg⟩)
   exact⟨_,U,.inl ⟨U,_,SqL.of (hS.has.get 0 U)⟩,pl,_,U,U,hS.has.get 0 U,_,_,U,hS.clear,hg.clear⟩
  intro σ H5 hP
  rw[<- ePn] at hP
  clear hS hg hne ePn
  obtain⟨ss,N,rfl,hS,hg⟩:=hP
  obtain⟨L2,eL2⟩:∃ L2:Kn,(pl,HO.lst (ssV ss))::(wl,.lst (ws.map V.int))::(m,.lst (ms.map V.int))::(N++Lr)=L2:=⟨_,U⟩
  have h5:=hS.has
  rw[eL2] at h5
  have inP:∀ {z:Addr×HO},z ∈ N->z ∈ L2:=fun hz=>by rw[<- eL2]; exact sH _ (sH _ (sH _ (sV _ hz)))
  have mpl:(pl,HO.lst (ssV ss)) ∈ L2:=by rw[<- eL2]; simp
  have mwl:(wl,HO.lst (ws.map V.int)) ∈ L2:=by rw[<- eL2]; simp
  have mml:(m,HO.lst (ms.map V.int)) ∈ L2:=by rw[<- eL2]; simp
  have mp2:(t.p_law,HO.tbl #[]) ∈ L2:=by rw[<- eL2]; simp[mpt]
  have md2:(d,HO.lst (ds.map V.int)) ∈ L2:=by rw[<- eL2]; simp[md]
  have ml7:∀ z ∈ ss,(z.1,HO.lst (rwV z.2)) ∈ L2:=fun z hz=>inP (hS.l z hz)
  have mr7:∀ z ∈ ss,∀ x ∈ z.2,(x.1,HO.tup x.2.v) ∈ L2:=fun z hz x hx=>inP (hS.r z hz x hx)
  have sS:=hS.sS
  have sm:=hS.sm
  have sw:=hS.sw
  clear hS eL2 inP
  obtain⟨M,m1,m2⟩:=hg.lim
  have cS:=hg.c
  have cM:=hg.cm
  have cW:=hg.cw
  have lR:(ssR ss).length=ss.length:=by unfold ssR; rw[sI]
  have M120:∀ z ∈ ss,z.2.length<=120/\z.2.length<=1000:=fun z hz=>by
   have:=m2 z hz
   have pos:0<ss.length:=List.length_pos_of_mem hz
   have:=Nat.le_trans (Nat.le_mul_of_pos_left M pos) m1
   omega
  have m2R:∀ rs ∈ ssR ss,rs.length<=M:=fun rs hrs=>by
   obtain⟨z,hz,rfl⟩:=sZ.mp hrs
   rw[sI]; exact m2 z hz
  have nmR:∀ rs ∈ ssR ss,∀ x ∈ rs,∀ n ∈ x.ns,Nm n:=fun rs hrs x hx=>by
   obtain⟨z,hz,rfl⟩:=sZ.mp hrs
   obtain⟨y,hy,rfl⟩:=sZ.mp hx
   exact hg.s z hz y hy
  have fit:Fit ms ws (ssR ss):=⟨⟨by omega,fun n hn=>(hg.m n hn).b⟩,⟨by omega,fun n hn=>(hg.w n hn).b⟩,fun rs hrs=>by
   obtain⟨z,hz,rfl⟩:=sZ.mp hrs
   refine⟨by rw[sI]; exact(M120 z hz).1,fun x hx=>⟨by have:=x.nsl; omega,fun n hn=>(nmR _ hrs x hx n hn).b⟩⟩,by omega⟩
  have tlen:(prT ms ws (ssR ss)).length<=100000:=oR fit cM cW (by rw[lR]; exact m1) (by omega) m2R
  refine⟨_,U,_,U,_,U,m,wl,pl,ms,ws,ss,L2,U,h5,mml,mwl,mpl,ml7,mr7,fit,mK fit,fun H6 h6=>?_⟩
  dsimp only[List.set]
  rw[pX] at tlen ⊢
  clear h5
  obtain⟨Pn,ePn⟩:∃ Pn:St->Hp->Prop,(fun σ' H'=>∃ ms1 ws1 sd1,σ'=[some (.ref a),some (.ref d),some (.ref m),some (.ref wl),some (.ref pl),o5,some (.str (xT (gL ms1 ws1 (ssR sd1)))),none,none]/\Has H' L2/\aT ms1 ws1 sd1=aT ms ws ss/\Gl (gL ms1 ws1 (ssR sd1))/\(aT ms ws ss=none->ms1=ms/\ws1=ws/\ssR sd1=ssR ss))=Pn:=⟨_,U⟩
  have gl0:Gl (gL ms ws (ssR ss)):=pW cM cW (by rw[lR]; exact m1) (by omega) m2R (fun n hn=>(hg.m n hn).b) (fun n hn=>(hg.w n hn).b) (fun rs hrs x hx n hn=>(nmR rs hrs x hx n hn).b)
  refine⟨Pn,?_,?_⟩
  ·have g0:=h6.at_ _ md2
   refine⟨_,U,d,_,_,_,U,U,SqL.of g0,dgI 3 (by decide) (by omega),_,_,U,U,(show(0:Int)<2 by decide),U,_,U,?_⟩
   rw[bb,<- ePn]
   refine ifd (fun _=>?_) (fun _=>⟨ms,ws,ss,U,h6,U,gl0,fun _=>⟨U,U,U⟩⟩)
   have z39:zP.length=39:=by decide +kernel
   refine⟨_,U,_,U,(by show _+_*zP.length<=_; rw[z39]; omega),?_⟩
   dsimp only[List.set]
   rw[show Txt.replace (xT (gL ms ws (ssR ss))) (("1" : Str)++iy "0" 20) (("1" : Str)++iy "0" 38)=xT (gL (ms.map rn) (ws.map rn) (ssR (mpS rn ss))) by rw[pS]; exact oK (fun n hn=>hg.m n hn) (fun n hn=>hg.w n hn) nmR]
   have l0:ms.length<=1000/\ws.length<=1000/\ss.length<=1000:=by omega
   refine⟨ms.map rn,ws.map rn,mpS rn ss,U,h6,nN l0.1 l0.2.1 l0.2.2 fun z hz=>(M120 z hz).2,?_,fun e=>?_⟩
   ·rw[pS]
    refine pW (M:=M) (by rw[sI]; exact cM) (by rw[sI]; exact cW) (by rw[sI,lR]; exact m1) (by rw[sI]; omega) (fun rs hrs=>?_) (fun n hn=>?_) (fun n hn=>?_) (fun rs hrs x hx n hn=>?_)
    ·obtain⟨r,hr,rfl⟩:=sZ.mp hrs
     rw[sI]; exact m2R r hr
    ·obtain⟨k,hk,rfl⟩:=sZ.mp hn
     exact(hg.m k hk).rb
    ·obtain⟨k,hk,rfl⟩:=sZ.mp hn
     exact(hg.w k hk).rb
    ·obtain⟨r,hr,rfl⟩:=sZ.mp hrs
     obtain⟨y,hy,rfl⟩:=sZ.mp hx
     rw[Rw.mp_ns] at hn
     obtain⟨k,hk,rfl⟩:=sZ.mp hn
     exact(nmR r hr y hy k hk).rb
   ·obtain⟨e1,e2,e3⟩:=jD l0.1 l0.2.1 l0.2.2 (fun z hz=>(M120 z hz).2) e
    rw[e1,e2,e3]
    exact⟨U,U,U⟩
  clear h6 gl0
  intro σ H6 hP
  rw[<- ePn] at hP
  clear ePn
  obtain⟨ms1,ws1,sd1,rfl,h6,ef,gl,esame⟩:=hP
  refine⟨_,U,pl,ss,_,U,h6,mpl,ml7,sS.1,fun H7 D s1 N1 es1 mN1 h7=>?_⟩
  dsimp only[List.set]
  have s1row:∀ z ∈ s1,∀ x ∈ z.2,(x.1,HO.tup x.2.v) ∈ L2:=by
   intro z hz x hx
   have:z.2 ∈ ss.map (·.2):=by rw[<- es1]; exact tq hz
   obtain⟨z',e1,e2⟩:=sZ.mp this
   exact mr7 z' e1 x (by rw[e2]; exact hx)
  have sS1:SmS s1:=by
   have l1:s1.length=ss.length:=by simpa using congrArg List.length es1
   refine⟨by rw[l1]; exact sS.1,fun z hz=>?_⟩
   have:z.2 ∈ ss.map (·.2):=by rw[<- es1]; exact tq hz
   obtain⟨z',e1,e2⟩:=sZ.mp this
   rw[<- e2]
   exact sS.2 z' e1
  have mp7:(t.p_law,HO.tbl #[]) ∈ (D,HO.lst (ssV s1))::(N1++L2):=by simp[mp2]
  refine jY (Z:=[]) h7 (Tb.new mp7) (fun H8 L8 h8 tb8 kp8=>?_)
  have keep:∀ {z:Addr×HO},z ∈ (D,HO.lst (ssV s1))::(N1++L2)->NT z->z ∈ L8:=fun {z} hz nt=>kp8 z hz (Tb.ne (Z:=[]) (Tb.new (qual := "") mp7) h7 hz nt)
  have k2:∀ {z:Addr×HO},z ∈ L2->NT z->z ∈ L8:=fun hz nt=>keep (by simp[hz]) nt
  have m_D:(D,HO.lst (ssV s1)) ∈ L8:=keep (by simp) (fun _ e=>nomatch e)
  have m_N1:∀ z ∈ s1,(z.1,HO.lst (rwV z.2)) ∈ L8:=fun z hz=>keep (by simp[mN1 z hz]) (fun _ e=>nomatch e)
  have m_r1:∀ z ∈ s1,∀ x ∈ z.2,(x.1,HO.tup x.2.v) ∈ L8:=fun z hz x hx=>k2 (s1row z hz x hx) (fun _ e=>nomatch e)
  have m_m:=k2 mml (fun _ e=>nomatch e)
  have m_w:=k2 mwl (fun _ e=>nomatch e)
  have m_p:=k2 mpl (fun _ e=>nomatch e)
  have m_d:=k2 md2 (fun _ e=>nomatch e)
  have m_l:∀ z ∈ ss,(z.1,HO.lst (rwV z.2)) ∈ L8:=fun z hz=>k2 (ml7 z hz) (fun _ e=>nomatch e)
  have m_r:∀ z ∈ ss,∀ x ∈ z.2,(x.1,HO.tup x.2.v) ∈ L8:=fun z hz x hx=>k2 (mr7 z hz x hx) (fun _ e=>nomatch e)
  have h8:Has H8 L8:=h8
  clear h7 h6 keep k2 kp8 mp7
  have ho:∀ i,aT ms ws ss=some i->i<22:=fun i e=>(gj e).lt
  refine fN (aT ms ws ss) ho h8 (fun H9 W Q1 E1 h9 hV hX=>?_) (fun r H9 G h9=>?_)
  ·refine⟨_,U,_,U,_,U,?_⟩
   intro p dx hp hdx hne
   have h10:=(h9.alloc hdx (.own p)).alloc (by rw[aw (Ne.symm hne)]; exact hp) (.ins t.c_Program dx [])
   have ml:∀ {z:Addr×HO},z ∈ L8->z ∈ L8++W:=fun hz=>sV _ hz
   refine⟨p,dx,m,wl,D,ms,ws,s1,L8++W,U,h10,ml m_m,ml m_w,ml m_D,fun z hz=>ml (m_N1 z hz),fun z hz x hx=>ml (m_r1 z hz x hx),sm,sw,sS1,fun ok H11 A ss' N eA es' pin h11=>⟨U,?_⟩,fun i hi H11 G a h11=>?_⟩
   ·rw[gi es1] at ok
    exact hV ok _ H11 N h11
   ·rw[gi es1] at hi
    exact hX i hi _ a H11 G ((gj hi).exc T) h11
  dsimp only[List.set]
  have gls:LsOk (gL ms1 ws1 (ssR sd1)):=gl.ok
  have in8:∀ {z:Addr×HO},z ∈ L8->z ∈ (r,HO.lst ((cZ (aT ms ws ss)).map V.str))::(G++L8):=fun hz=>sH _ (sJ _ hz)
  refine⟨fun σ' H'=>σ'=[some (.ref a),some (.ref d),some (.ref m),some (.ref wl),some (.ref pl),o5,some (.str (xT (gL ms1 ws1 (ssR sd1)))),some (.ref D),some (.ref r)]/\Has H' ((r,HO.lst ((cZ (aT ms ws ss)).map V.str))::(G++L8)),?_,?_⟩
  ·have g0:=h9.at_ _ (in8 m_d)
   refine⟨_,U,d,_,_,_,U,U,SqL.of g0,dgI 1 (by decide) (by omega),_,_,U,U,(show(0:Int)<2 by decide),U,_,U,?_⟩
   rw[bb]
   refine ifd (fun _=>?_) (fun _=>⟨U,h9⟩)
   have d2:=db 2 (by decide) (by decide)
   have d3:=db 3 (by decide) (by decide)
   have d16:=db 16 (by decide) (by decide)
   refine⟨_,U,_,U,d,_,_,_,U,U,SqL.of g0,dgI 2 (by decide) (by omega),_,_,U,U,(show(0:Int)<9 by decide),_,U,d,_,_,_,U,U,SqL.of g0,dgI 3 (by decide) (by omega),_,U,d,_,_,_,U,U,SqL.of g0,dgI 16 (by decide) (by omega),gL ms1 ws1 (ssR sd1),_,_,_,_,U,h9,gl,by omega,by omega,d3.1,d16.1,d16.2,fun H10 ls' h10 spo=>?_⟩
   dsimp only[List.set]
   refine jY (Z:=(r,HO.lst ((cZ (aT ms ws ss)).map V.str))::G) h10 tb8 (fun H11 L11 h11 tb11 kp11=>?_)
   have h21:∀ i,some 21=some i->i<22:=fun i e=>by cases e; decide
   refine fN (some 21) h21 h11 (fun H12 W Q1 E1 h12 hV hX=>?_) (fun r2 H12 G2 h12=>?_)
   ·refine⟨_,U,ls',_,U,h12,spo.1,fun _ H' N a h'=>hX 21 rfl _ a H' N T.x_NoText h',fun ms' ws' ss' e=>absurd spo.2 (by rw[e]; exact fv _ _ _)⟩
   refine⟨(sz_ 1),fun p hp=>?_⟩
   have h13:=h12.alloc hp (.lst ((cZ (some 21)).map V.str))
   refine⟨bw (cZ (some 21)),bw (cZ (some 21)),bO (h13.get 1 U),bO (h13.get 0 U),gZ _ h21,gZ _ h21,?_⟩
   rw[pp _ (iJ _ h21)]
   exact q _
  clear h9
  rintro σ H9 ⟨rfl,h9⟩
  refine⟨fun σ' H'=>σ'=[some (.ref a),some (.ref d),some (.ref m),some (.ref wl),some (.ref pl),o5,some (.str (xT (gL ms1 ws1 (ssR sd1)))),some (.ref D),some (.ref r)]/\∃ L',Has H' L'/\(r,HO.lst ((cZ (aT ms ws ss)).map V.str)) ∈ L'/\∀ z ∈ L8,NT z->z ∈ L',?_,?_⟩
  ·refine jY (Z:=(r,HO.lst ((cZ (aT ms ws ss)).map V.str))::G) h9 tb8 (fun H11 L11 h11 tb11 kp11=>?_)
   have tbne:∀ z ∈ L8,NT z->z ∈ L11:=fun z hz nt=>kp11 z hz (Tb.ne (Z:=(r,HO.lst ((cZ (aT ms ws ss)).map V.str))::G) tb8 h9 hz nt)
   refine fN (aT ms ws ss) ho h11 (fun H12 W Q1 E1 h12 hV hX=>?_) (fun r2 H12 G2 h12=>?_)
   ·refine⟨_,U,gL ms1 ws1 (ssR sd1),_,U,h12,gls,fun bad=>absurd bad (fv _ _ _),fun ms' ws' ss' e sd esd=>?_⟩
    obtain⟨rfl,rfl,rfl⟩:=kg e
    rw[iI esd,ef]
    exact⟨fun ok H' A sd' N _ _ h'=>hV ok _ H' N h',fun i hi H' N a h'=>hX i hi _ a H' N ((gj hi).exc T) h'⟩
   refine⟨_,U,bw (cZ (aT ms ws ss)),bw (cZ (aT ms ws ss)),bO (h12.get 0 U),bO (h12.at_ (r,_) (by simp)),gZ _ ho,gZ _ ho,?_⟩
   rw[pp _ (iJ _ ho)]
   refine⟨_,U,dM ?_⟩
   exact⟨U,_,h12,by simp,fun z hz nt=>by simp[tbne z hz nt]⟩
  clear h9 in8 G
  rintro σ H10 ⟨rfl,L',h10,mr,mk⟩
  have hL:∀ {z:Addr×HO},z ∈ L'->H10 z.1=some z.2:=fun hz=>h10.at_ _ hz
  refine⟨fun σ' H'=>aT ms ws ss=none/\σ'=[some (.ref a),some (.ref d),some (.ref m),some (.ref wl),some (.ref pl),o5,some (.str (xT (gL ms1 ws1 (ssR sd1)))),some (.ref D),some (.ref r)]/\Has H' L',?_,?_⟩
  ·refine⟨_,U,(sz_ 0),fun p hp=>?_⟩
   have h11:=h10.alloc hp (.lst ((cZ none).map V.str))
   refine⟨bw (cZ (aT ms ws ss)),bw (cZ none),bO (h11.at_ (r,_) (sH _ mr)),bO (h11.get 0 U),gZ _ ho,gZ _ (fun _ e=>by cases e),?_⟩
   cases hf:aT ms ws ss with
   | none=>
    rw[pp _ (iJ _ (fun _ e=>by cases e))]
    exact⟨_,U,dM ⟨U,U,h11.tail⟩⟩
   | some i=>
    refine⟨_,U,ifT ?_ (q _)⟩
    rw[jE]
    rfl
  rintro σ H11 ⟨hf,rfl,h11⟩
  obtain⟨rfl,rfl,eR⟩:=esame hf
  rw[eR] at gls ⊢
  have nt:∀ {p:Addr}{o:HO},(∀ ps,o≠.tbl ps)->NT (p,o):=fun h=>h
  have n1:=mk _ m_m (fun _ e=>nomatch e)
  have n2:=mk _ m_w (fun _ e=>nomatch e)
  have n3:=mk _ m_p (fun _ e=>nomatch e)
  have n4:∀ z ∈ ss,(z.1,HO.lst (rwV z.2)) ∈ L':=fun z hz=>mk _ (m_l z hz) (fun _ e=>nomatch e)
  have n5:∀ z ∈ ss,∀ x ∈ z.2,(x.1,HO.tup x.2.v) ∈ L':=fun z hz x hx=>mk _ (m_r z hz x hx) (fun _ e=>nomatch e)
  refine⟨_,U,gL ms1 ws1 (ssR ss),_,U,h11,gls,fun bad=>absurd bad (fv _ _ _),fun ms' ws' ss' e sd esd=>?_⟩
  obtain⟨rfl,rfl,rfl⟩:=kg e
  rw[iI esd,hf]
  refine⟨fun _ H12 A sd' N esd' pin h12=>?_,fun i hi=>nomatch hi⟩
  have x1:∀ {z:Addr×HO},z ∈ L'->z ∈ N++L':=fun hz=>sJ _ hz
  refine⟨_,U,_,U,_,U,A,m,wl,pl,ms1,ws1,ss,sd',_,U,h12,pin,x1 n1,x1 n2,x1 n3,fun z hz=>x1 (n4 z hz),fun z hz x hx=>x1 (n5 z hz x hx),esd',by omega,by omega,by omega,fun H13 h13=>?_⟩
  refine⟨_,U,cY ?_⟩
  refine⟨_,U,gL ms1 ws1 (ssR ss),_,U,h13,gls,fun bad=>absurd bad (fv _ _ _),fun ms' ws' ss' e sd esd=>?_⟩
  obtain⟨rfl,rfl,rfl⟩:=kg e
  rw[iI esd,hf]
  refine⟨fun _ H14 A2 sd2 N2 esd2 pin2 h14=>?_,fun i hi=>nomatch hi⟩
  refine⟨A2,ms1,ws1,sd2,_,U,h14,pin2,by rw[esd2]; exact fit,by rw[esd2]; exact mK fit,fun H15 h15=>?_⟩
  rw[esd2,pX]
  refine⟨_,U,U,?_⟩
  rw[decide_eq_true rfl]
  exact q _
end
theorem finF {P:Program}{w:World}{fa Pt:Addr} (hmg:mg "law" = some (.ref fa)) (h:∃ t,Txt K mg t/\t.p_law=Pt) :
  ∃ (fd:FuncData) (c:Addr),K.lookup Pt=none/\W.codeHdIn K c Pt=true/\(∀ (s:Shared) (u:Value),BindsTo s fd ⟨[u],[]⟩ [("_law_script",u)]) /\
   ∀ base:Heap,K.In base->base.Ns mainGlobals mg->BM base mg->FnOk P w K mg base CX0 12 fa fd ["_law_script"] (sp_lawT K Pt):=by
 obtain⟨t,T,rfl⟩:=h
 have e0:=hmg.symm.trans T.m_law
 cases e0
 obtain⟨c,ec,hc⟩:=T.tb_law
 exact⟨_,c,T.tn_law,hc,fun s u=>lG T s u,fun base kb nb hbm=>qL T kb hbm⟩
theorem txt_mk {h:Heap} (KX:K.In h) (G:h.Ns mainGlobals mg)
  {z0 zb zm zx z18 z1j z1u z25 z2g z2r z32 z3d z3o z3z z4a z4l z4w z57 z5i z5t z64 z6f z6q z71 z7c z7n z7y z89 z8k z8v z96 z9h z9s za3 zae zap zb0 zbb zbm zbn zbo zbp zbq zbr zbs zbt zbu zbv zbw zbx zby zbz zc0 zc1 zc2 zc3 zc4 zc5 zc6 zc7 zc8 zc9 zca zcb zch:Addr}{z1 z2 zc zd zn zo zy zz z19 z1a z1k z1l z1v z1w z26 z27 z2h z2i z2s z2t z33 z34 z3e z3f z3p z3q z40 z41 z4b z4c z4m z4n z4x z4y z58 z59 z5j z5k z5u z5v z65 z66 z6g z6h z6r z6s z72 z73 z7d z7e z7o z7p z7z z80 z8a z8b z8l z8m z8w z8x z97 z98 z9i z9j z9t z9u za4 za5 zaf zag zaq zar zb1 zb2 zbc zbd zci:Option Addr}{z3 ze zp z10 z1b z1m z1x z28 z2j z2u z35 z3g z3r z42 z4d z4o z4z z5a z5l z5w z67 z6i z6t z74 z7f z7q z81 z8c z8n z8y z99 z9k z9v za6 zah zas zb3 zbe zcl:Array (Option Value)}{z4 z5 z6 z7 z8 z9 za zf zg zh zi zj zk zl zq zr zs zt zu zv zw z11 z12 z13 z14 z15 z16 z17 z1c z1d z1e z1f z1g z1h z1i z1n z1o z1p z1q z1r z1s z1t z1y z1z z20 z21 z22 z23 z24 z29 z2a z2b z2c z2d z2e z2f z2k z2l z2m z2n z2o z2p z2q z2v z2w z2x z2y z2z z30 z31 z36 z37 z38 z39 z3a z3b z3c z3h z3i z3j z3k z3l z3m z3n z3s z3t z3u z3v z3w z3x z3y z43 z44 z45 z46 z47 z48 z49 z4e z4f z4g z4h z4i z4j z4k z4p z4q z4r z4s z4t z4u z4v z50 z51 z52 z53 z54 z55 z56 z5b z5c z5d z5e z5f z5g z5h z5m z5n z5o z5p z5q z5r z5s z5x z5y z5z z60 z61 z62 z63 z68 z69 z6a z6b z6c z6d z6e z6j z6k z6l z6m z6n z6o z6p z6u z6v z6w z6x z6y z6z z70 z75 z76 z77 z78 z79 z7a z7b z7g z7h z7i z7j z7k z7l z7m z7r z7s z7t z7u z7v z7w z7x z82 z83 z84 z85 z86 z87 z88 z8d z8e z8f z8g z8h z8i z8j z8o z8p z8q z8r z8s z8t z8u z8z z90 z91 z92 z93 z94 z95 z9a z9b z9c z9d z9e z9f z9g z9l z9m z9n z9o z9p z9q z9r z9w z9x z9y z9z za0 za1 za2 za7 za8 za9 zaa zab zac zad zai zaj zak zal zam zan zao zat zau zav zaw zax zay zaz zb4 zb5 zb6 zb7 zb8 zb9 zba zbf zbg zbh zbi zbj zbk zbl zcc zcd zce zcf zcg:Value}{zcj:Array Value}{zck:Nat}
  (zcm:W.nsIn K mainGlobals "Program" = some (some (.ref zbm)))
  (zcn:W.nsIn K mainGlobals "law" = some (some (.ref z0)))
  (zco:K.lookup z0=some ⟨z4,z1,.func (W.fnOf "law" "law" (aj cx) (ai cx) (ac cx) z5 z6 z7 z8 z2 z9 za),z3⟩)
  (zcp:W.codeIn K z9 "law" = true)
  (zcq:W.keepIn K (.ref z0)=true)
  (zcr:z5=.none)
  (zcs:W.nsIn K mainGlobals "_law_draws" = some (some (.ref zb)))
  (zct:K.lookup zb=some ⟨zf,zc,.func (W.fnOf "_law_draws" "_law_draws" (aj cy) (ai cy) (ac cy) zg zh zi zj zd zk zl),ze⟩)
  (zcu:W.codeIn K zk "_law_draws" = true)
  (zcv:W.keepIn K (.ref zb)=true)
  (zcw:zg=.none)
  (zcx:W.nsIn K mainGlobals "_law_program" = some (some (.ref zm)))
  (zcy:K.lookup zm=some ⟨zq,zn,.func (W.fnOf "_law_program" "_law_program" (aj io) (ai io) (ac io) zr zs zt zu zo zv zw),zp⟩)
  (zcz:W.codeIn K zv "_law_program" = true)
  (zd0:W.keepIn K (.ref zm)=true)
  (zd1:zr=.none)
  (zd2:W.nsIn K mainGlobals "_law_parts" = some (some (.ref zx)))
  (zd3:K.lookup zx=some ⟨z11,zy,.func (W.fnOf "_law_parts" "_law_parts" (aj cu) (ai cu) (ac cu) z12 z13 z14 z15 zz z16 z17),z10⟩)
  (zd4:W.codeIn K z16 "_law_parts" = true)
  (zd5:W.keepIn K (.ref zx)=true)
  (zd6:z12=.none)
  (zd7:W.nsIn K mainGlobals "_law_row" = some (some (.ref z18)))
  (zd8:K.lookup z18=some ⟨z1c,z19,.func (W.fnOf "_law_row" "_law_row" (aj eT) (ai eT) (ac eT) z1d z1e z1f z1g z1a z1h z1i),z1b⟩)
  (zd9:W.codeIn K z1h "_law_row" = true)
  (zda:W.keepIn K (.ref z18)=true)
  (zdb:z1d=.none)
  (zdc:W.nsIn K mainGlobals "_law_program_text" = some (some (.ref z1j)))
  (zdd:K.lookup z1j=some ⟨z1n,z1k,.func (W.fnOf "_law_program_text" "_law_program_text" (aj fM) (ai fM) (ac fM) z1o z1p z1q z1r z1l z1s z1t),z1m⟩)
  (zde:W.codeIn K z1s "_law_program_text" = true)
  (zdf:W.keepIn K (.ref z1j)=true)
  (zdg:z1o=.none)
  (zdh:W.nsIn K mainGlobals "_law_copied" = some (some (.ref z1u)))
  (zdi:K.lookup z1u=some ⟨z1y,z1v,.func (W.fnOf "_law_copied" "_law_copied" (aj im) (ai im) (ac im) z1z z20 z21 z22 z1w z23 z24),z1x⟩)
  (zdj:W.codeIn K z23 "_law_copied" = true)
  (zdk:W.keepIn K (.ref z1u)=true)
  (zdl:z1z=.none)
  (zdm:W.nsIn K mainGlobals "_law_refused" = some (some (.ref z25)))
  (zdn:K.lookup z25=some ⟨z29,z26,.func (W.fnOf "_law_refused" "_law_refused" (aj fL) (ai fL) (ac fL) z2a z2b z2c z2d z27 z2e z2f),z28⟩)
  (zdo:W.codeIn K z2e "_law_refused" = true)
  (zdp:W.keepIn K (.ref z25)=true)
  (zdq:z2a=.none)
  (zdr:W.nsIn K mainGlobals "_law_names" = some (some (.ref z2g)))
  (zds:K.lookup z2g=some ⟨z2k,z2h,.func (W.fnOf "_law_names" "_law_names" (aj cv) (ai cv) (ac cv) z2l z2m z2n z2o z2i z2p z2q),z2j⟩)
  (zdt:W.codeIn K z2p "_law_names" = true)
  (zdu:W.keepIn K (.ref z2g)=true)
  (zdv:z2l=.none)
  (zdw:W.nsIn K mainGlobals "_law_numbers_spoilt" = some (some (.ref z2r)))
  (zdx:K.lookup z2r=some ⟨z2v,z2s,.func (W.fnOf "_law_numbers_spoilt" "_law_numbers_spoilt" (aj jf) (ai jf) (ac jf) z2w z2x z2y z2z z2t z30 z31),z2u⟩)
  (zdy:W.codeIn K z30 "_law_numbers_spoilt" = true)
  (zdz:W.keepIn K (.ref z2r)=true)
  (ze0:z2w=.none)
  (ze1:W.nsIn K mainGlobals "_law_form_spoilt" = some (some (.ref z32)))
  (ze2:K.lookup z32=some ⟨z36,z33,.func (W.fnOf "_law_form_spoilt" "_law_form_spoilt" (aj gG) (ai gG) (ac gG) z37 z38 z39 z3a z34 z3b z3c),z35⟩)
  (ze3:W.codeIn K z3b "_law_form_spoilt" = true)
  (ze4:W.keepIn K (.ref z32)=true)
  (ze5:z37=.none)
  (ze6:W.nsIn K mainGlobals "_law_told" = some (some (.ref z3d)))
  (ze7:K.lookup z3d=some ⟨z3h,z3e,.func (W.fnOf "_law_told" "_law_told" (aj cU) (ai cU) (ac cU) z3i z3j z3k z3l z3f z3m z3n),z3g⟩)
  (ze8:W.codeIn K z3m "_law_told" = true)
  (ze9:W.keepIn K (.ref z3d)=true)
  (zea:z3i=.none)
  (zeb:W.nsIn K mainGlobals "_law_is" = some (some (.ref z3o)))
  (zec:K.lookup z3o=some ⟨z3s,z3p,.func (W.fnOf "_law_is" "_law_is" (aj iR) (ai iR) (ac iR) z3t z3u z3v z3w z3q z3x z3y),z3r⟩)
  (zed:W.codeIn K z3x "_law_is" = true)
  (zee:W.keepIn K (.ref z3o)=true)
  (zef:z3t=.none)
  (zeg:W.nsIn K mainGlobals "_law_whole" = some (some (.ref z3z)))
  (zeh:K.lookup z3z=some ⟨z43,z40,.func (W.fnOf "_law_whole" "_law_whole" (aj cr) (ai cr) (ac cr) z44 z45 z46 z47 z41 z48 z49),z42⟩)
  (zei:W.codeIn K z48 "_law_whole" = true)
  (zej:W.keepIn K (.ref z3z)=true)
  (zek:z44=.none)
  (zel:W.nsIn K mainGlobals "_law_is_row" = some (some (.ref z4a)))
  (zem:K.lookup z4a=some ⟨z4e,z4b,.func (W.fnOf "_law_is_row" "_law_is_row" (aj ik) (ai ik) (ac ik) z4f z4g z4h z4i z4c z4j z4k),z4d⟩)
  (zen:W.codeIn K z4j "_law_is_row" = true)
  (zeo:W.keepIn K (.ref z4a)=true)
  (zep:z4f=.none)
  (zeq:W.nsIn K mainGlobals "read_program" = some (some (.ref z4l)))
  (zer:K.lookup z4l=some ⟨z4p,z4m,.func (W.fnOf "read_program" "read_program" (aj gH) (ai gH) (ac gH) z4q z4r z4s z4t z4n z4u z4v),z4o⟩)
  (zes:W.codeIn K z4u "read_program" = true)
  (zet:W.keepIn K (.ref z4l)=true)
  (zeu:z4q=.none)
  (zev:W.nsIn K mainGlobals "read_line" = some (some (.ref z4w)))
  (zew:K.lookup z4w=some ⟨z50,z4x,.func (W.fnOf "read_line" "read_line" (aj ip) (ai ip) (ac ip) z51 z52 z53 z54 z4y z55 z56),z4z⟩)
  (zex:W.codeIn K z55 "read_line" = true)
  (zey:W.keepIn K (.ref z4w)=true)
  (zez:z51=.none)
  (zf0:W.nsIn K mainGlobals "read_number" = some (some (.ref z57)))
  (zf1:K.lookup z57=some ⟨z5b,z58,.func (W.fnOf "read_number" "read_number" (aj iZ) (ai iZ) (ac iZ) z5c z5d z5e z5f z59 z5g z5h),z5a⟩)
  (zf2:W.codeIn K z5g "read_number" = true)
  (zf3:W.keepIn K (.ref z57)=true)
  (zf4:z5c=.none)
  (zf5:W.nsIn K mainGlobals "is_plain" = some (some (.ref z5i)))
  (zf6:K.lookup z5i=some ⟨z5m,z5j,.func (W.fnOf "is_plain" "is_plain" (aj iT) (ai iT) (ac iT) z5n z5o z5p z5q z5k z5r z5s),z5l⟩)
  (zf7:W.codeIn K z5r "is_plain" = true)
  (zf8:W.keepIn K (.ref z5i)=true)
  (zf9:z5n=.none)
  (zfa:W.nsIn K mainGlobals "row_of" = some (some (.ref z5t)))
  (zfb:K.lookup z5t=some ⟨z5x,z5u,.func (W.fnOf "row_of" "row_of" (aj iS) (ai iS) (ac iS) z5y z5z z60 z61 z5v z62 z63),z5w⟩)
  (zfc:W.codeIn K z62 "row_of" = true)
  (zfd:W.keepIn K (.ref z5t)=true)
  (zfe:z5y=.none)
  (zff:W.nsIn K mainGlobals "write_program" = some (some (.ref z64)))
  (zfg:K.lookup z64=some ⟨z68,z65,.func (W.fnOf "write_program" "write_program" (aj jd) (ai jd) (ac jd) z69 z6a z6b z6c z66 z6d z6e),z67⟩)
  (zfh:W.codeIn K z6d "write_program" = true)
  (zfi:W.keepIn K (.ref z64)=true)
  (zfj:z69=.none)
  (zfk:W.nsIn K mainGlobals "write_line" = some (some (.ref z6f)))
  (zfl:K.lookup z6f=some ⟨z6j,z6g,.func (W.fnOf "write_line" "write_line" (aj iq) (ai iq) (ac iq) z6k z6l z6m z6n z6h z6o z6p),z6i⟩)
  (zfm:W.codeIn K z6o "write_line" = true)
  (zfn:W.keepIn K (.ref z6f)=true)
  (zfo:z6k=.none)
  (zfp:W.nsIn K mainGlobals "check_side" = some (some (.ref z6q)))
  (zfq:K.lookup z6q=some ⟨z6u,z6r,.func (W.fnOf "check_side" "check_side" (aj iX) (ai iX) (ac iX) z6v z6w z6x z6y z6s z6z z70),z6t⟩)
  (zfr:W.codeIn K z6z "check_side" = true)
  (zfs:W.keepIn K (.ref z6q)=true)
  (zft:z6v=.none)
  (zfu:W.nsIn K mainGlobals "check_width" = some (some (.ref z71)))
  (zfv:K.lookup z71=some ⟨z75,z72,.func (W.fnOf "check_width" "check_width" (aj iY) (ai iY) (ac iY) z76 z77 z78 z79 z73 z7a z7b),z74⟩)
  (zfw:W.codeIn K z7a "check_width" = true)
  (zfx:W.keepIn K (.ref z71)=true)
  (zfy:z76=.none)
  (zfz:W.nsIn K mainGlobals "check_note" = some (some (.ref z7c)))
  (zg0:K.lookup z7c=some ⟨z7g,z7d,.func (W.fnOf "check_note" "check_note" (aj iW) (ai iW) (ac iW) z7h z7i z7j z7k z7e z7l z7m),z7f⟩)
  (zg1:W.codeIn K z7l "check_note" = true)
  (zg2:W.keepIn K (.ref z7c)=true)
  (zg3:z7h=.none)
  (zg4:W.nsIn K mainGlobals "check_mark" = some (some (.ref z7n)))
  (zg5:K.lookup z7n=some ⟨z7r,z7o,.func (W.fnOf "check_mark" "check_mark" (aj iV) (ai iV) (ac iV) z7s z7t z7u z7v z7p z7w z7x),z7q⟩)
  (zg6:W.codeIn K z7w "check_mark" = true)
  (zg7:W.keepIn K (.ref z7n)=true)
  (zg8:z7s=.none)
  (zg9:W.nsIn K mainGlobals "check_counter" = some (some (.ref z7y)))
  (zga:K.lookup z7y=some ⟨z82,z7z,.func (W.fnOf "check_counter" "check_counter" (aj jc) (ai jc) (ac jc) z83 z84 z85 z86 z80 z87 z88),z81⟩)
  (zgb:W.codeIn K z87 "check_counter" = true)
  (zgc:W.keepIn K (.ref z7y)=true)
  (zgd:z83=.none)
  (zge:W.nsIn K mainGlobals "check_row" = some (some (.ref z89)))
  (zgf:K.lookup z89=some ⟨z8d,z8a,.func (W.fnOf "check_row" "check_row" (aj iU) (ai iU) (ac iU) z8e z8f z8g z8h z8b z8i z8j),z8c⟩)
  (zgg:W.codeIn K z8i "check_row" = true)
  (zgh:W.keepIn K (.ref z89)=true)
  (zgi:z8e=.none)
  (zgj:W.nsIn K mainGlobals "check_stretch" = some (some (.ref z8k)))
  (zgk:K.lookup z8k=some ⟨z8o,z8l,.func (W.fnOf "check_stretch" "check_stretch" (aj iu) (ai iu) (ac iu) z8p z8q z8r z8s z8m z8t z8u),z8n⟩)
  (zgl:W.codeIn K z8t "check_stretch" = true)
  (zgm:W.keepIn K (.ref z8k)=true)
  (zgn:z8p=.none)
  (zgo:W.findIn K (.ref zbm) "__init__" = some (some (.ref z8v)))
  (zgp:W.isFn K (.ref z8v)=true)
  (zgq:K.lookup z8v=some ⟨z8z,z8w,.func (W.fnOf "__init__" "Program.__init__" (aj ir) (ai ir) (ac ir) z90 z91 z92 z93 z8x z94 z95),z8y⟩)
  (zgr:W.codeIn K z94 "Program.__init__" = true)
  (zgs:W.keepIn K (.ref z8v)=true)
  (zgt:z90=.none)
  (zgu:W.findIn K (.ref zbm) "check_beginning" = some (some (.ref z96)))
  (zgv:W.isFn K (.ref z96)=true)
  (zgw:K.lookup z96=some ⟨z9a,z97,.func (W.fnOf "check_beginning" "Program.check_beginning" (aj jj) (ai jj) (ac jj) z9b z9c z9d z9e z98 z9f z9g),z99⟩)
  (zgx:W.codeIn K z9f "Program.check_beginning" = true)
  (zgy:W.keepIn K (.ref z96)=true)
  (zgz:z9b=.none)
  (zh0:W.findIn K (.ref zbm) "many" = some (some (.ref z9h)))
  (zh1:W.isFn K (.ref z9h)=true)
  (zh2:K.lookup z9h=some ⟨z9l,z9i,.func (W.fnOf "many" "Program.many" (aj ja) (ai ja) (ac ja) z9m z9n z9o z9p z9j z9q z9r),z9k⟩)
  (zh3:W.codeIn K z9q "Program.many" = true)
  (zh4:W.keepIn K (.ref z9h)=true)
  (zh5:z9m=.none)
  (zh6:W.findIn K (.ref zbm) "check_rows" = some (some (.ref z9s)))
  (zh7:W.isFn K (.ref z9s)=true)
  (zh8:K.lookup z9s=some ⟨z9w,z9t,.func (W.fnOf "check_rows" "Program.check_rows" (aj jh) (ai jh) (ac jh) z9x z9y z9z za0 z9u za1 za2),z9v⟩)
  (zh9:W.codeIn K za1 "Program.check_rows" = true)
  (zha:W.keepIn K (.ref z9s)=true)
  (zhb:z9x=.none)
  (zhc:W.findIn K (.ref zbm) "check_part" = some (some (.ref za3)))
  (zhd:W.isFn K (.ref za3)=true)
  (zhe:K.lookup za3=some ⟨za7,za4,.func (W.fnOf "check_part" "Program.check_part" (aj jg) (ai jg) (ac jg) za8 za9 zaa zab za5 zac zad),za6⟩)
  (zhf:W.codeIn K zac "Program.check_part" = true)
  (zhg:W.keepIn K (.ref za3)=true)
  (zhh:za8=.none)
  (zhi:W.findIn K (.ref zbm) "check_called" = some (some (.ref zae)))
  (zhj:W.isFn K (.ref zae)=true)
  (zhk:K.lookup zae=some ⟨zai,zaf,.func (W.fnOf "check_called" "Program.check_called" (aj ji) (ai ji) (ac ji) zaj zak zal zam zag zan zao),zah⟩)
  (zhl:W.codeIn K zan "Program.check_called" = true)
  (zhm:W.keepIn K (.ref zae)=true)
  (zhn:zaj=.none)
  (zho:W.findIn K (.ref zbm) "marks" = some (some (.ref zap)))
  (zhp:W.isFn K (.ref zap)=true)
  (zhq:K.lookup zap=some ⟨zat,zaq,.func (W.fnOf "marks" "Program.marks" (aj jb) (ai jb) (ac jb) zau zav zaw zax zar zay zaz),zas⟩)
  (zhr:W.codeIn K zay "Program.marks" = true)
  (zhs:W.keepIn K (.ref zap)=true)
  (zht:zau=.none)
  (zhu:W.findIn K (.ref zbm) "widths" = some (some (.ref zb0)))
  (zhv:W.isFn K (.ref zb0)=true)
  (zhw:K.lookup zb0=some ⟨zb4,zb1,.func (W.fnOf "widths" "Program.widths" (aj je) (ai je) (ac je) zb5 zb6 zb7 zb8 zb2 zb9 zba),zb3⟩)
  (zhx:W.codeIn K zb9 "Program.widths" = true)
  (zhy:W.keepIn K (.ref zb0)=true)
  (zhz:zb5=.none)
  (zi0:W.findIn K (.ref zbm) "rows" = some (some (.ref zbb)))
  (zi1:W.isFn K (.ref zbb)=true)
  (zi2:K.lookup zbb=some ⟨zbf,zbc,.func (W.fnOf "rows" "Program.rows" (aj i9) (ai i9) (ac i9) zbg zbh zbi zbj zbd zbk zbl),zbe⟩)
  (zi3:W.codeIn K zbk "Program.rows" = true)
  (zi4:W.keepIn K (.ref zbb)=true)
  (zi5:zbg=.none)
  (zi6:W.plainGet K zbm Str.empty=true)
  (zi7:W.hasDictIn K zbm=true)
  (zi8:W.plainOver K zbm=true)
  (zi9:W.findIn K (.ref zbm) "__setattr__" = some (some (.builtin "object.__setattr__")))
  (zia:W.makesIn K zbm=true)
  (zib:W.keepIn K (.ref zbm)=true)
  (zic:W.findIn K (.ref zbm) "mark_sides" = some none)
  (zid:W.findIn K (.ref zbm) "counter_widths" = some none)
  (zie:W.findIn K (.ref zbm) "stretches" = some none)
  (zif:W.nsIn K mainGlobals "RailError" = some (some (.ref zbn)))
  (zig:W.nsIn K mainGlobals "NoKind" = some (some (.ref zbo)))
  (zih:W.nsIn K mainGlobals "NoEnd" = some (some (.ref zbp)))
  (zii:W.nsIn K mainGlobals "NoSide" = some (some (.ref zbq)))
  (zij:W.nsIn K mainGlobals "NoNote" = some (some (.ref zbr)))
  (zik:W.nsIn K mainGlobals "NoPiece" = some (some (.ref zbs)))
  (zil:W.nsIn K mainGlobals "NoRod" = some (some (.ref zbt)))
  (zim:W.nsIn K mainGlobals "NoPoint" = some (some (.ref zbu)))
  (zin:W.nsIn K mainGlobals "NoBell" = some (some (.ref zbv)))
  (zio:W.nsIn K mainGlobals "SameEnd" = some (some (.ref zbw)))
  (zip:W.nsIn K mainGlobals "Linked" = some (some (.ref zbx)))
  (ziq:W.nsIn K mainGlobals "NotLinked" = some (some (.ref zby)))
  (zir:W.nsIn K mainGlobals "Occupied" = some (some (.ref zbz)))
  (zis:W.nsIn K mainGlobals "NoStand" = some (some (.ref zc0)))
  (zit:W.nsIn K mainGlobals "NoMany" = some (some (.ref zc1)))
  (ziu:W.nsIn K mainGlobals "NoStretch" = some (some (.ref zc2)))
  (ziv:W.nsIn K mainGlobals "NoRow" = some (some (.ref zc3)))
  (ziw:W.nsIn K mainGlobals "NoMark" = some (some (.ref zc4)))
  (zix:W.nsIn K mainGlobals "NoCounter" = some (some (.ref zc5)))
  (ziy:W.nsIn K mainGlobals "NoWidth" = some (some (.ref zc6)))
  (ziz:W.nsIn K mainGlobals "NoValue" = some (some (.ref zc7)))
  (zj0:W.nsIn K mainGlobals "FallsOut" = some (some (.ref zc8)))
  (zj1:W.nsIn K mainGlobals "NoText" = some (some (.ref zc9)))
  (zj2:aQ K zbq zbn [(zbo,false),(zbp,false),(zbq,true),(zbr,false),(zbs,false),(zbt,false),(zbu,false),(zbv,false),(zbw,false),(zbx,false),(zby,false),(zbz,false),(zc0,false),(zc1,false),(zc2,false),(zc3,false),(zc4,false),(zc5,false),(zc6,false),(zc7,false),(zc8,false),(zc9,false)]=true)
  (zj3:aQ K zbr zbn [(zbo,false),(zbp,false),(zbq,false),(zbr,true),(zbs,false),(zbt,false),(zbu,false),(zbv,false),(zbw,false),(zbx,false),(zby,false),(zbz,false),(zc0,false),(zc1,false),(zc2,false),(zc3,false),(zc4,false),(zc5,false),(zc6,false),(zc7,false),(zc8,false),(zc9,false)]=true)
  (zj4:aQ K zc4 zbn [(zbo,false),(zbp,false),(zbq,false),(zbr,false),(zbs,false),(zbt,false),(zbu,false),(zbv,false),(zbw,false),(zbx,false),(zby,false),(zbz,false),(zc0,false),(zc1,false),(zc2,false),(zc3,false),(zc4,true),(zc5,false),(zc6,false),(zc7,false),(zc8,false),(zc9,false)]=true)
  (zj5:aQ K zc5 zbn [(zbo,false),(zbp,false),(zbq,false),(zbr,false),(zbs,false),(zbt,false),(zbu,false),(zbv,false),(zbw,false),(zbx,false),(zby,false),(zbz,false),(zc0,false),(zc1,false),(zc2,false),(zc3,false),(zc4,false),(zc5,true),(zc6,false),(zc7,false),(zc8,false),(zc9,false)]=true)
  (zj6:aQ K zc6 zbn [(zbo,false),(zbp,false),(zbq,false),(zbr,false),(zbs,false),(zbt,false),(zbu,false),(zbv,false),(zbw,false),(zbx,false),(zby,false),(zbz,false),(zc0,false),(zc1,false),(zc2,false),(zc3,false),(zc4,false),(zc5,false),(zc6,true),(zc7,false),(zc8,false),(zc9,false)]=true)
  (zj7:aQ K zc2 zbn [(zbo,false),(zbp,false),(zbq,false),(zbr,false),(zbs,false),(zbt,false),(zbu,false),(zbv,false),(zbw,false),(zbx,false),(zby,false),(zbz,false),(zc0,false),(zc1,false),(zc2,true),(zc3,false),(zc4,false),(zc5,false),(zc6,false),(zc7,false),(zc8,false),(zc9,false)]=true)
  (zj8:aQ K zc3 zbn [(zbo,false),(zbp,false),(zbq,false),(zbr,false),(zbs,false),(zbt,false),(zbu,false),(zbv,false),(zbw,false),(zbx,false),(zby,false),(zbz,false),(zc0,false),(zc1,false),(zc2,false),(zc3,true),(zc4,false),(zc5,false),(zc6,false),(zc7,false),(zc8,false),(zc9,false)]=true)
  (zj9:aQ K zc8 zbn [(zbo,false),(zbp,false),(zbq,false),(zbr,false),(zbs,false),(zbt,false),(zbu,false),(zbv,false),(zbw,false),(zbx,false),(zby,false),(zbz,false),(zc0,false),(zc1,false),(zc2,false),(zc3,false),(zc4,false),(zc5,false),(zc6,false),(zc7,false),(zc8,true),(zc9,false)]=true)
  (zja:aQ K zc9 zbn [(zbo,false),(zbp,false),(zbq,false),(zbr,false),(zbs,false),(zbt,false),(zbu,false),(zbv,false),(zbw,false),(zbx,false),(zby,false),(zbz,false),(zc0,false),(zc1,false),(zc2,false),(zc3,false),(zc4,false),(zc5,false),(zc6,false),(zc7,false),(zc8,false),(zc9,true)]=true)
  (zjb:z9=.ref zcb)
  (zjc:W.codeHdIn K zcb zca=true)
  (zjd:K.lookup zca=none)
  (zje:W.nsIn K mainGlobals "ValueError" = some none)
  (zjf:W.nsIn K mainGlobals "abs" = some none)
  (zjg:W.nsIn K mainGlobals "all" = some none)
  (zjh:W.nsIn K mainGlobals "bool" = some none)
  (zji:W.nsIn K mainGlobals "enumerate" = some none)
  (zjj:W.nsIn K mainGlobals "int" = some none)
  (zjk:W.nsIn K mainGlobals "isinstance" = some none)
  (zjl:W.nsIn K mainGlobals "len" = some none)
  (zjm:W.nsIn K mainGlobals "list" = some none)
  (zjn:W.nsIn K mainGlobals "range" = some none)
  (zjo:W.nsIn K mainGlobals "str" = some none)
  (zjp:W.nsIn K mainGlobals "tuple" = some none)
  (zjq:W.nsIn K mainGlobals "zip" = some none)
  (zjr:W.nsIn K mainGlobals "FIGURES" = some (some zcc))
  (zjs:RelV (.str "0123456789") zcc)
  (zjt:W.nsIn K mainGlobals "LAST_NOTE" = some (some zcd))
  (zju:RelV (.int 9999) zcd)
  (zjv:W.nsIn K mainGlobals "LAST_WORDS" = some (some zce))
  (zjw:zce=.ref zch)
  (zjx:K.lookup zch=some ⟨.type "tuple",zci,.seq zcj zck,zcl⟩)
  (zjy:zcj.size<=sizeLine)
  (zjz:Vals [.str "ask",.str "go",.str "end"] zcj.toList)
  (zk0:W.nsIn K mainGlobals "PARTS" = some (some zcf))
  (zk1:∃ a,zcf=.ref a/\oh K a [("bell",["note"]),("set",["mark","side"]),("ask",["mark","row","row"]),("bump",["counter","row"]),("go",["row"]),("call",["stretch"]),("end",[])])
  (zk2:W.nsIn K mainGlobals "WIDEST" = some (some zcg))
  (zk3:RelV (.int 8) zcg) :
  Txt K mg ⟨z0,W.fnOf "law" "law" (aj cx) (ai cx) (ac cx) z5 z6 z7 z8 z2 z9 za,z5,zb,W.fnOf "_law_draws" "_law_draws" (aj cy) (ai cy) (ac cy) zg zh zi zj zd zk zl,zg,zm,W.fnOf "_law_program" "_law_program" (aj io) (ai io) (ac io) zr zs zt zu zo zv zw,zr,zx,W.fnOf "_law_parts" "_law_parts" (aj cu) (ai cu) (ac cu) z12 z13 z14 z15 zz z16 z17,z12,z18,W.fnOf "_law_row" "_law_row" (aj eT) (ai eT) (ac eT) z1d z1e z1f z1g z1a z1h z1i,z1d,z1j,W.fnOf "_law_program_text" "_law_program_text" (aj fM) (ai fM) (ac fM) z1o z1p z1q z1r z1l z1s z1t,z1o,z1u,W.fnOf "_law_copied" "_law_copied" (aj im) (ai im) (ac im) z1z z20 z21 z22 z1w z23 z24,z1z,z25,W.fnOf "_law_refused" "_law_refused" (aj fL) (ai fL) (ac fL) z2a z2b z2c z2d z27 z2e z2f,z2a,z2g,W.fnOf "_law_names" "_law_names" (aj cv) (ai cv) (ac cv) z2l z2m z2n z2o z2i z2p z2q,z2l,z2r,W.fnOf "_law_numbers_spoilt" "_law_numbers_spoilt" (aj jf) (ai jf) (ac jf) z2w z2x z2y z2z z2t z30 z31,z2w,z32,W.fnOf "_law_form_spoilt" "_law_form_spoilt" (aj gG) (ai gG) (ac gG) z37 z38 z39 z3a z34 z3b z3c,z37,z3d,W.fnOf "_law_told" "_law_told" (aj cU) (ai cU) (ac cU) z3i z3j z3k z3l z3f z3m z3n,z3i,z3o,W.fnOf "_law_is" "_law_is" (aj iR) (ai iR) (ac iR) z3t z3u z3v z3w z3q z3x z3y,z3t,z3z,W.fnOf "_law_whole" "_law_whole" (aj cr) (ai cr) (ac cr) z44 z45 z46 z47 z41 z48 z49,z44,z4a,W.fnOf "_law_is_row" "_law_is_row" (aj ik) (ai ik) (ac ik) z4f z4g z4h z4i z4c z4j z4k,z4f,z4l,W.fnOf "read_program" "read_program" (aj gH) (ai gH) (ac gH) z4q z4r z4s z4t z4n z4u z4v,z4q,z4w,W.fnOf "read_line" "read_line" (aj ip) (ai ip) (ac ip) z51 z52 z53 z54 z4y z55 z56,z51,z57,W.fnOf "read_number" "read_number" (aj iZ) (ai iZ) (ac iZ) z5c z5d z5e z5f z59 z5g z5h,z5c,z5i,W.fnOf "is_plain" "is_plain" (aj iT) (ai iT) (ac iT) z5n z5o z5p z5q z5k z5r z5s,z5n,z5t,W.fnOf "row_of" "row_of" (aj iS) (ai iS) (ac iS) z5y z5z z60 z61 z5v z62 z63,z5y,z64,W.fnOf "write_program" "write_program" (aj jd) (ai jd) (ac jd) z69 z6a z6b z6c z66 z6d z6e,z69,z6f,W.fnOf "write_line" "write_line" (aj iq) (ai iq) (ac iq) z6k z6l z6m z6n z6h z6o z6p,z6k,z6q,W.fnOf "check_side" "check_side" (aj iX) (ai iX) (ac iX) z6v z6w z6x z6y z6s z6z z70,z6v,z71,W.fnOf "check_width" "check_width" (aj iY) (ai iY) (ac iY) z76 z77 z78 z79 z73 z7a z7b,z76,z7c,W.fnOf "check_note" "check_note" (aj iW) (ai iW) (ac iW) z7h z7i z7j z7k z7e z7l z7m,z7h,z7n,W.fnOf "check_mark" "check_mark" (aj iV) (ai iV) (ac iV) z7s z7t z7u z7v z7p z7w z7x,z7s,z7y,W.fnOf "check_counter" "check_counter" (aj jc) (ai jc) (ac jc) z83 z84 z85 z86 z80 z87 z88,z83,z89,W.fnOf "check_row" "check_row" (aj iU) (ai iU) (ac iU) z8e z8f z8g z8h z8b z8i z8j,z8e,z8k,W.fnOf "check_stretch" "check_stretch" (aj iu) (ai iu) (ac iu) z8p z8q z8r z8s z8m z8t z8u,z8p,z8v,W.fnOf "__init__" "Program.__init__" (aj ir) (ai ir) (ac ir) z90 z91 z92 z93 z8x z94 z95,z90,z96,W.fnOf "check_beginning" "Program.check_beginning" (aj jj) (ai jj) (ac jj) z9b z9c z9d z9e z98 z9f z9g,z9b,z9h,W.fnOf "many" "Program.many" (aj ja) (ai ja) (ac ja) z9m z9n z9o z9p z9j z9q z9r,z9m,z9s,W.fnOf "check_rows" "Program.check_rows" (aj jh) (ai jh) (ac jh) z9x z9y z9z za0 z9u za1 za2,z9x,za3,W.fnOf "check_part" "Program.check_part" (aj jg) (ai jg) (ac jg) za8 za9 zaa zab za5 zac zad,za8,zae,W.fnOf "check_called" "Program.check_called" (aj ji) (ai ji) (ac ji) zaj zak zal zam zag zan zao,zaj,zap,W.fnOf "marks" "Program.marks" (aj jb) (ai jb) (ac jb) zau zav zaw zax zar zay zaz,zau,zb0,W.fnOf "widths" "Program.widths" (aj je) (ai je) (ac je) zb5 zb6 zb7 zb8 zb2 zb9 zba,zb5,zbb,W.fnOf "rows" "Program.rows" (aj i9) (ai i9) (ac i9) zbg zbh zbi zbj zbd zbk zbl,zbg,zbm,zbn,zbo,zbp,zbq,zbr,zbs,zbt,zbu,zbv,zbw,zbx,zby,zbz,zc0,zc1,zc2,zc3,zc4,zc5,zc6,zc7,zc8,zc9,zca,zcc,zcd,zce,zcf,zcg⟩ where
 F_law:=aB zco zcp zcq
 F_draws:=aB zct zcu zcv
 F_Jq:=aB zcy zcz zd0
 F_parts:=aB zd3 zd4 zd5
 F_row:=aB zd8 zd9 zda
 F_Jb:=aB zdd zde zdf
 F_Js:=aB zdi zdj zdk
 F_Jr:=aB zdn zdo zdp
 F_names:=aB zds zdt zdu
 F_J5:=aB zdx zdy zdz
 F_Jg:=aB ze2 ze3 ze4
 F_told:=aB ze7 ze8 ze9
 F_is:=aB zec zed zee
 F_whole:=aB zeh zei zej
 F_Jt:=aB zem zen zeo
 F_Jc:=aB zer zes zet
 F_Jn:=aB zew zex zey
 F_Jh:=aB zf1 zf2 zf3
 F_Jp:=aB zf6 zf7 zf8
 F_Ju:=aB zfb zfc zfd
 F_J7:=aB zfg zfh zfi
 F_Jj:=aB zfl zfm zfn
 F_Jk:=aB zfq zfr zfs
 F_Ji:=aB zfv zfw zfx
 F_Jl:=aB zg0 zg1 zg2
 F_Jm:=aB zg5 zg6 zg7
 F_J8:=aB zga zgb zgc
 F_Jo:=aB zgf zgg zgh
 F_J9:=aB zgk zgl zgm
 F_Jd:=aB zgq zgr zgs
 F_J0:=aB zgw zgx zgy
 F_Je:=aB zh2 zh3 zh4
 F_J2:=aB zh8 zh9 zha
 F_J3:=aB zhe zhf zhg
 F_J1:=aB zhk zhl zhm
 F_Ja:=aB zhq zhr zhs
 F_J6:=aB zhw zhx zhy
 F_Jf:=aB zi2 zi3 zi4
 m_law:=W.mg_of KX G zcn
 e_law:=zcr
 m_draws:=W.mg_of KX G zcs
 e_draws:=zcw
 m_Jq:=W.mg_of KX G zcx
 e_Jq:=zd1
 m_parts:=W.mg_of KX G zd2
 e_parts:=zd6
 m_row:=W.mg_of KX G zd7
 e_row:=zdb
 m_Jb:=W.mg_of KX G zdc
 e_Jb:=zdg
 m_Js:=W.mg_of KX G zdh
 e_Js:=zdl
 m_Jr:=W.mg_of KX G zdm
 e_Jr:=zdq
 m_names:=W.mg_of KX G zdr
 e_names:=zdv
 m_J5:=W.mg_of KX G zdw
 e_J5:=ze0
 m_Jg:=W.mg_of KX G ze1
 e_Jg:=ze5
 m_told:=W.mg_of KX G ze6
 e_told:=zea
 m_is:=W.mg_of KX G zeb
 e_is:=zef
 m_whole:=W.mg_of KX G zeg
 e_whole:=zek
 m_Jt:=W.mg_of KX G zel
 e_Jt:=zep
 m_Jc:=W.mg_of KX G zeq
 e_Jc:=zeu
 m_Jn:=W.mg_of KX G zev
 e_Jn:=zez
 m_Jh:=W.mg_of KX G zf0
 e_Jh:=zf4
 m_Jp:=W.mg_of KX G zf5
 e_Jp:=zf9
 m_Ju:=W.mg_of KX G zfa
 e_Ju:=zfe
 m_J7:=W.mg_of KX G zff
 e_J7:=zfj
 m_Jj:=W.mg_of KX G zfk
 e_Jj:=zfo
 m_Jk:=W.mg_of KX G zfp
 e_Jk:=zft
 m_Ji:=W.mg_of KX G zfu
 e_Ji:=zfy
 m_Jl:=W.mg_of KX G zfz
 e_Jl:=zg3
 m_Jm:=W.mg_of KX G zg4
 e_Jm:=zg8
 m_J8:=W.mg_of KX G zg9
 e_J8:=zgd
 m_Jo:=W.mg_of KX G zge
 e_Jo:=zgi
 m_J9:=W.mg_of KX G zgj
 e_J9:=zgn
 e_Jd:=zgt
 M_J0:=⟨zgu,zgv,zgy⟩
 e_J0:=zgz
 M_Je:=⟨zh0,zh1,zh4⟩
 e_Je:=zh5
 M_J2:=⟨zh6,zh7,zha⟩
 e_J2:=zhb
 M_J3:=⟨zhc,zhd,zhg⟩
 e_J3:=zhh
 M_J1:=⟨zhi,zhj,zhm⟩
 e_J1:=zhn
 M_Ja:=⟨zho,zhp,zhs⟩
 e_Ja:=zht
 M_J6:=⟨zhu,zhv,zhy⟩
 e_J6:=zhz
 M_Jf:=⟨zi0,zi1,zi4⟩
 e_Jf:=zi5
 cl_Program:=⟨zi6,zi7,zi8,zi9⟩
 m_Program:=W.mg_of KX G zcm
 mk_Program:=⟨zia,zgo,zgp,zib⟩
 n_Program_mark_sides:=zic
 n_Program_counter_widths:=zid
 n_Program_stretches:=zie
 m_RailError:=W.mg_of KX G zif
 m_NoKind:=W.mg_of KX G zig
 m_NoEnd:=W.mg_of KX G zih
 m_NoSide:=W.mg_of KX G zii
 m_NoNote:=W.mg_of KX G zij
 m_NoPiece:=W.mg_of KX G zik
 m_NoRod:=W.mg_of KX G zil
 m_NoPoint:=W.mg_of KX G zim
 m_NoBell:=W.mg_of KX G zin
 m_SameEnd:=W.mg_of KX G zio
 m_Linked:=W.mg_of KX G zip
 m_NotLinked:=W.mg_of KX G ziq
 m_Occupied:=W.mg_of KX G zir
 m_NoStand:=W.mg_of KX G zis
 m_NoMany:=W.mg_of KX G zit
 m_NoStretch:=W.mg_of KX G ziu
 m_NoRow:=W.mg_of KX G ziv
 m_NoMark:=W.mg_of KX G ziw
 m_NoCounter:=W.mg_of KX G zix
 m_NoWidth:=W.mg_of KX G ziy
 m_NoValue:=W.mg_of KX G ziz
 m_FallsOut:=W.mg_of KX G zj0
 m_NoText:=W.mg_of KX G zj1
 x_NoSide:=zj2
 x_NoNote:=zj3
 x_NoMark:=zj4
 x_NoCounter:=zj5
 x_NoWidth:=zj6
 x_NoStretch:=zj7
 x_NoRow:=zj8
 x_FallsOut:=zj9
 x_NoText:=zja
 tb_law:=⟨zcb,zjb,zjc⟩
 tn_law:=zjd
 z_ValueError:=W.mg_none_of KX G zje
 z_abs:=W.mg_none_of KX G zjf
 z_all:=W.mg_none_of KX G zjg
 z_bool:=W.mg_none_of KX G zjh
 z_enumerate:=W.mg_none_of KX G zji
 z_int:=W.mg_none_of KX G zjj
 z_isinstance:=W.mg_none_of KX G zjk
 z_len:=W.mg_none_of KX G zjl
 z_list:=W.mg_none_of KX G zjm
 z_range:=W.mg_none_of KX G zjn
 z_str:=W.mg_none_of KX G zjo
 z_tuple:=W.mg_none_of KX G zjp
 z_zip:=W.mg_none_of KX G zjq
 g_FIGURES:=W.mg_of KX G zjr
 r_FIGURES:=zjs
 g_LAST_NOTE:=W.mg_of KX G zjt
 r_LAST_NOTE:=zju
 g_LAST_WORDS:=W.mg_of KX G zjv
 x_LAST_WORDS:=⟨zch,_,zcj,zck,zjw,zjx,U,U,zjy,zjz⟩
 g_PARTS:=W.mg_of KX G zk0
 x_PARTS:=zk1
 g_WIDEST:=W.mg_of KX G zk2
 r_WIDEST:=zk3
end P
namespace PySem.W.Fast
def tw2100789211804820072:=Nat
def tw11027782027349526180:=Nat
def tw16881505944834118941:=Nat
def tw4882442027592491227:=Nat
def tw14484892087710331232:=Nat
def tw13748519942381502089:=Nat
def tw8337169618433797481:=Nat
def tw3676811598994612465:=Nat
def tw10990211748854882394:=Nat
def tw1006983961376319819:=Nat
def tw14920706357909581751:=Nat
def tw16220033771626822552:=Nat
def tw15675727718526461135:=Nat
def tw12564092345196884787:=Nat
def tw18258212191859941507:=Nat
def tw14087244906471769400:=Nat
def tw8167503770029834865:=Nat
def tw1648941422386575167:=Nat
def tw12079599775586552027:=Nat
def tw11457255497059391751:=Nat
def tw15544316947908981767:=Nat
def tw499048925056387573:=Nat
def tw12653096987997897828:=Nat
def tw9763963566463738432:=Nat
def tw11727180020816742568:=Nat
def tw12092914628131007206:=Nat
def tw1196448546925235070:=Nat
def tw8455632957868795010:=Nat
def tw6102250398280285565:=Nat
def tw16130928646365063020:=Nat
def tw7552308825176738783:=Nat
def tw1724229150286669973:=Nat
def tw13874965057142051178:=Nat
def tw12109134093996655574:=Nat
def tw9778446233882911186:=Nat
def tw8386852703855276921:=Nat
def tw6502734827314461971:=Nat
def tw15929202159760933719:=Nat
def tw13082017145562593441:=Nat
def tw962166143409061305:=Nat
def tw3770391470808068005:=Nat
def tw5913369764641305492:=Nat
def tw16862594701557036789:=Nat
def tw2323159316842733572:=Nat
def tw16949805536074468607:=Nat
def tw11008043045094041245:=Nat
def tw4138591865159826132:=Nat
def tw10931763201599025941:=Nat
def tw8937854371316059057:=Nat
def tw3060438872728179453:=Nat
def tw11014917157401558792:=Nat
def tw15751088056678091124:=Nat
def tw1327972991285242604:=Nat
def tw14555818366831865993:=Nat
def tw15697684001179492728:=Nat
def tw3502108018962921198:=Nat
def tw963522438179670918:=Nat
def tw5031111848490605384:=Nat
def tw16213171147564702688:=Nat
def tw12719893474682201764:=Nat
def tw3942863248735456339:=Nat
def tw8682692664191853695:=Nat
def tw3379114964176497022:=Nat
def tw1649862235759024263:=Nat
def tw3081496483661419372:=Nat
def tw16334936988462007758:=Nat
def tw10585289336309902292:=Nat
def tw4267132369632428289:=Nat
def tw9273061171659108286:=Nat
def tw1407358671827313822:=Nat
def tw15961719642964699234:=Nat
def tw2238513174099025045:=Nat
def tw5225610227269635447:=Nat
def tw14094054107579518152:=Nat
def tw9857253452799279482:=Nat
def tw2713893568218829633:=Nat
def tw10471754945927828126:=Nat
def tw11673594937437606342:=Nat
def tw5237436314713972635:=Nat
def tw16721475261299795170:=Nat
def tw17176454738224237237:=Nat
def tw15905151259648958394:=Nat
def tw6440391496250466723:=Nat
def tw8073895560306970325:=Nat
def tw7226683691447871540:=Nat
def tw13982435077668508600:=Nat
def tw940814202092629029:=Nat
def tw3029990712001571780:=Nat
def tw6112838147702165996:=Nat
def tw6120675523780014315:=Nat
def tw11700860779306732394:=Nat
def tw2479312560748185219:=Nat
def tw7436865704215076234:=Nat
def tw12932391161736308251:=Nat
def tw3796612275476553928:=Nat
def tw7621519247859091895:=Nat
def tw8491525243535551026:=Nat
def tw3921316968200284694:=Nat
def tw3803188254099458914:=Nat
def tw9286298759811045619:=Nat
def tw8460932090808944644:=Nat
def tw17559954963355862526:=Nat
def tw1118994801225716240:=Nat
def tw5644496033396495128:=Nat
def tw17923815926763303258:=Nat
def tw16453997489452386985:=Nat
def tw17409203356127555385:=Nat
def tw4543638952203998993:=Nat
def tw542390053440446592:=Nat
def tw1165299451498492305:=Nat
def tw15289363101664838711:=Nat
def tw8421104026781759958:=Nat
def tw14577440675655713412:=Nat
def tw7599784715278318064:=Nat
def tw9385379400735680657:=Nat
def tw12271097573357073342:=Nat
def tw13331866775673281193:=Nat
def tw2021780786079445945:=Nat
def tw13229375705306700612:=Nat
def tw3874283233917813086:=Nat
def tw7688201024412733268:=Nat
def tw901832741687576388:=Nat
def tw15979862673014092653:=Nat
def tw15514403509444391850:=Nat
def tw7105521074282301775:=Nat
def tw10697792343866489523:=Nat
def tw8096302532872175036:=Nat
def tw3098716192233172069:=Nat
def tw11704422142330863632:=Nat
def tw9208449152272831304:=Nat
def tw513239702738069799:=Nat
def tw9288291616279225982:=Nat
def tw8860206737857718746:=Nat
def tw1294735702815488239:=Nat
def tw7751219956864192803:=Nat
def tw5516292897557101773:=Nat
def tw15149502060372397686:=Nat
def tw5210679964344099229:=Nat
def tw7694256428664806340:=Nat
def tw7461804893588863693:=Nat
def tw17738019406713772208:=Nat
def tw14780870206485618193:=Nat
def tw15003258167893895274:=Nat
def tw6901673884269899713:=Nat
def tw12080880314681754443:=Nat
def tw14523168946096861363:=Nat
def tw252262044746260709:=Nat
def tw14949925004674814909:=Nat
def tw1487276610479728361:=Nat
def tw15901543020917348107:=Nat
def tw1447364825576733321:=Nat
def tw1987666448248142885:=Nat
def tw18388170247679874895:=Nat
def tw18077115477019202597:=Nat
def tw11176408397949040704:=Nat
def tw12749219767837649388:=Nat
def tw3545877747459864965:=Nat
def tw14414824546295634460:=Nat
def tw16856712240344549576:=Nat
def tw7642149431093917847:=Nat
def tw8709636855028407899:=Nat
def tw12007518586579284249:=Nat
def tw4789184944246571439:=Nat
def tw163170222079907605:=Nat
def tw12684473886960946675:=Nat
def tw12742780686039476255:=Nat
def tw16920466962067013961:=Nat
def tw7723951846678313924:=Nat
def tw2385704979464878178:=Nat
def tw17350805742759157060:=Nat
def tw12877238222702892756:=Nat
def tw9558373114503984533:=Nat
def tw11305568348384374799:=Nat
def tw17806433732305521336:=Nat
def tw8411414054354090633:=Nat
def tw18437467889259591897:=Nat
def tw14245329773784143478:=Nat
def tw16632480323329584065:=Nat
def tw12632351071909953369:=Nat
def tw664624710887086186:=Nat
def tw5074778305426198577:=Nat
def tw14108292524189772007:=Nat
def tw17368628033708405006:=Nat
def tw9881437056037598399:=Nat
def tw5966863698073870590:=Nat
def tw6400310063691070778:=Nat
def tw10947849049280485049:=Nat
def tw9532834941050444414:=Nat
def tw4956270637592136983:=Nat
def tw6434334847126239935:=Nat
def tw9966286905803861704:=Nat
def tw12738311006054615463:=Nat
def tw12799215542595029632:=Nat
def tw1541250114547174119:=Nat
def tw13964862148482798668:=Nat
def tw1258010026176207023:=Nat
def tw12061879116218558753:=Nat
def tw17240022499321359529:=Nat
def tw10754105467732117247:=Nat
def tw11769047759841422045:=Nat
def tw4007353294114525815:=Nat
def tw14564873953627831218:=Nat
def tw18339480598110490321:=Nat
def tw3560886536721761861:=Nat
def tw14575529199655700407:=Nat
def tw6401650588352134105:=Nat
def tw6687091806752001346:=Nat
def tw3313273783142942757:=Nat
def tw12480501324352821126:=Nat
def tw3591331007702034829:=Nat
def tw14697553811061856503:=Nat
def tw7216290162183911202:=Nat
def tw9391339109193019271:=Nat
def tw7485693645494084330:=Nat
def tw16139816262279465384:=Nat
def tw446983824502848802:=Nat
def tw2998437788458330508:=Nat
def tw11008994636467123815:=Nat
def tw11965915222431695059:=Nat
def tw2893172096451284728:=Nat
def tw15734980009430140132:=Nat
def tw8983896549922678393:=Nat
def tw11648698600466134841:=Nat
def tw3722484356587348492:=Nat
def tw9549841377998610227:=Nat
def tw6836476624056719854:=Nat
def tw16421595386329891395:=Nat
def tw14728885414784710874:=Nat
def tw13938530753964895926:=Nat
def tw9363538205482271859:=Nat
def tw13154201954970664039:=Nat
def tw8198461708075650442:=Nat
def tw10831241083738751049:=Nat
def tw3080104384744055376:=Nat
def tw17445576929705538592:=Nat
def tw18345173750188746307:=Nat
def tw8982976778382172045:=Nat
def tw17574725361749302704:=Nat
def tw16733364731158593944:=Nat
def tw6622197605783772464:=Nat
def tw8461730219325988182:=Nat
def tw11307107290527476513:=Nat
def tw58187141182088618:=Nat
def tw17586509112143310526:=Nat
def tw9055902177224826151:=Nat
def tw14103027892199084943:=Nat
def tw14485414030022654801:=Nat
def tw2252275787594541505:=Nat
def tw17665302755251857691:=Nat
def tw2548284254455023186:=Nat
def tw17264665099420694820:=Nat
def tw14617021356627383460:=Nat
def tw7291606758487172381:=Nat
def tw8124542576608015260:=Nat
def tw11473821512549503124:=Nat
def tw2002944150541644705:=Nat
def tw9595233890301505365:=Nat
def tw12101336267471110428:=Nat
def tw2325348654787900468:=Nat
def tw4071615768397078140:=Nat
def tw13137089303810862516:=Nat
def tw13254851408306199139:=Nat
def tw7667247442109067988:=Nat
def tw12313526290191887318:=Nat
def tw652449795140754932:=Nat
def tw1756068387242203222:=Nat
def tw7551669039928443577:=Nat
def tw1228502420719878692:=Nat
def tw12613322237718012697:=Nat
def tw11900192424314061201:=Nat
def tw1263593826020591619:=Nat
def tw12730073974839421477:=Nat
def tw8710231967812335489:=Nat
def tw6204308189814955158:=Nat
def tw5309139893418060431:=Nat
def tw1266538554040158446:=Nat
def tw17847151999221666839:=Nat
def tw5201484282752732603:=Nat
def tw4629727006506987484:=Nat
def tw12880213992240389228:=Nat
def tw1001761010136816157:=Nat
def tw12508359239772316225:=Nat
def tw1488896275609971244:=Nat
def tw10338734018884363717:=Nat
def tw9352448840169319297:=Nat
def tw18281163933164385950:=Nat
def tw5113005830638827140:=Nat
def tw5396078782910269986:=Nat
def tw7188670801463735444:=Nat
def tw6923530063396287451:=Nat
def tw15613624846137415814:=Nat
def tw338945691280991492:=Nat
def tw10443816551321585530:=Nat
def tw14353628199712874459:=Nat
def tw14933780441162610732:=Nat
def tw11626508441608910806:=Nat
def tw16860033351711140414:=Nat
def tw15706413285178932928:=Nat
def tw12348150035752217928:=Nat
def tw9952131782672427963:=Nat
def tw5838113818838849279:=Nat
def tw17586229256301227759:=Nat
def tw8753482444883395248:=Nat
def tw16599066246671310433:=Nat
def tw16014495462758792790:=Nat
def tw17228284945770653396:=Nat
def tw14379709959714945196:=Nat
def tw12071827414266678075:=Nat
def tw17933725443113751920:=Nat
def tw5156151908772991589:=Nat
def tw8584332456327956520:=Nat
def tw3799013818450547370:=Nat
def tw15700542177729595714:=Nat
def tw17696791884336333691:=Nat
def tw11148851259168854198:=Nat
def tw13313863239188996241:=Nat
def tw7256274531706833325:=Nat
def tw5719522091566750604:=Nat
def tw2026447146283218061:=Nat
def tw13856827126847535189:=Nat
def tw6590748785083574736:=Nat
def tw976761383534150450:=Nat
def tw15796011312589487575:=Nat
def tw8851065409491126484:=Nat
def tw8671249376984646286:=Nat
def tw6025059383521190519:=Nat
def tw8657405452435477961:=Nat
def tw15884800960314588879:=Nat
def tw5363329051186340760:=Nat
def tw5721751316992185535:=Nat
def tw2864647308755600537:=Nat
def tw308954390199806548:=Nat
def tw5265431162611248430:=Nat
def tw13334251848434805689:=Nat
def tw1619087366792438076:=Nat
def tw3439014270279257393:=Nat
def tw13597672833495647493:=Nat
def tw1291931310446869587:=Nat
def tw4458095166391401789:=Nat
def tw13134537477342514272:=Nat
def tw14903710720863035871:=Nat
def tw6422159293953009159:=Nat
def tw2742019745372504264:=Nat
def tw5973965149305917804:=Nat
def tw968220573375645709:=Nat
def tw12786333572063625219:=Nat
def tw12827185805665522435:=Nat
def tw7688110081416399430:=Nat
def tw13096313056859286680:=Nat
def tw1943742351059376348:=Nat
def tw15755783476676484841:=Nat
def tw15046132030310134983:=Nat
def tw16515614042045122175:=Nat
def tw2661425739592930239:=Nat
def tw9915692791258886772:=Nat
def tw10995857288946984285:=Nat
def tw2046247645872267718:=Nat
def tw18084678851484721640:=Nat
def tw17884127482186762789:=Nat
def tw10121954683441907992:=Nat
def tw16539064167751863530:=Nat
def tw15830415974504295296:=Nat
def tw13560658428438347110:=Nat
def tw2898412621676158789:=Nat
def tw8920848514501956208:=Nat
def tw5547098313337614502:=Nat
def tw1920773931415665317:=Nat
def tw5603136662847249848:=Nat
def tw1270893614972239336:=Nat
def tw14829111626103300636:=Nat
def tw6326710944368545089:=Nat
def tw15798882231110753842:=Nat
def tw7669006145678255178:=Nat
def tw8620931242721582778:=Nat
def tw15100377521399886074:=Nat
def tw6911246170039850056:=Nat
def tw14975356158800332123:=Nat
def tw9825700221077551986:=Nat
def tw9218385875666834162:=Nat
def tw6346685631910469649:=Nat
def tw8320294081726793378:=Nat
def tw6729045018064032237:=Nat
def tw4000691162552756618:=Nat
def tw11293825909519509668:=Nat
def tw12612009409244364846:=Nat
def tw8566445080936825063:=Nat
def tw1807054361211892992:=Nat
def tw4472803555224210774:=Nat
def tw9569971922943553474:=Nat
def tw12743405085451457022:=Nat
def tw1113729574367804153:=Nat
def tw16374877631000912658:=Nat
def tw6954039358971452932:=Nat
def tw17626814219679419203:=Nat
def tw6772960476675861445:=Nat
def tw13671333692738525753:=Nat
def tw4612073363676585824:=Nat
def tw10266703198974707664:=Nat
def tw2191750658571750207:=Nat
def tw13306434798355615928:=Nat
def tw12240162389864542859:=Nat
def tw4469505245571080729:=Nat
def tw1366235821854020294:=Nat
def tw6504341685710313689:=Nat
def tw9530414151290347998:=Nat
def tw7927021066095884287:=Nat
def tw17308347068551243647:=Nat
def tw175226351370174840:=Nat
def tw4276826370494734529:=Nat
def tw14332157716151355709:=Nat
def tw3680937678808407444:=Nat
def tw18418300385148255358:=Nat
def tw5823493713371523952:=Nat
def tw6763416867769052160:=Nat
def tw3942494761133062561:=Nat
def tw3799525267557748216:=Nat
def tw12110389846747742598:=Nat
def tw2701790919478002079:=Nat
def tw13276397630868718318:=Nat
def tw1984764552598062366:=Nat
def tw3702495470208269044:=Nat
def tw8605231908320440883:=Nat
def tw3749487821702239170:=Nat
def tw6104786489507058148:=Nat
def tw16220241483902033889:=Nat
def tw4331769992652603619:=Nat
def tw78870925745827444:=Nat
def tw6754934384307161955:=Nat
def tw13793879420692832031:=Nat
def tw11442028600641067771:=Nat
def tw10906612995835535001:=Nat
def tw16771956561512492403:=Nat
def tw12347315830088413845:=Nat
def tw2188277041414054279:=Nat
def tw2623309331822316931:=Nat
def tw3031299083281718900:=Nat
def tw16705261408455724152:=Nat
def tw950576644990569068:=Nat
def tw1987453923170463414:=Nat
def tw5577606145484489401:=Nat
def tw8413902409902166106:=Nat
def tw8952712719404792809:=Nat
def tw6266752902584679538:=Nat
def tw8418349748476039737:=Nat
def tw10834030901810117513:=Nat
def tw4015471332659908933:=Nat
def tw14107750963688270120:=Nat
def tw6940704775771947044:=Nat
def tw13130718743246964415:=Nat
def tw5595602746262960672:=Nat
def tw174477288483073640:=Nat
def tw3189148761395809260:=Nat
def tw4428754337836790335:=Nat
def tw630086434906444998:=Nat
def tw18287964263169242649:=Nat
def tw496519480016720452:=Nat
def tw3008062374038857345:=Nat
def tw12675802168422428368:=Nat
def tw16062667367137064832:=Nat
def tw13940607401278037617:=Nat
def tw3337243117027504:=Nat
def tw9088672003077119250:=Nat
def tw18281438396539528380:=Nat
def tw7110305041347969925:=Nat
def tw10431766662025334809:=Nat
def tw15044164588643091041:=Nat
def tw4644949984070808826:=Nat
def tw16147711599347935309:=Nat
def tw11512447037768389714:=Nat
def tw11077430074956927808:=Nat
def tw3892231571691605250:=Nat
def tw8385410167836216224:=Nat
def tw14163783448445303570:=Nat
def tw16081688148082208702:=Nat
def tw2584127188803359869:=Nat
def tw6959554692967237791:=Nat
def tw8844057422558881060:=Nat
def tw8219549583123924747:=Nat
def tw8829672035078762707:=Nat
def tw1763317804112992267:=Nat
def tw5227073120100731417:=Nat
def tw4866945338478904049:=Nat
def tw9865511078432138764:=Nat
def tw14137461344105284671:=Nat
def tw14727966824082771185:=Nat
def tw3829487756958226272:=Nat
def tw10355963847175095609:=Nat
def tw1289482714894788660:=Nat
def tw15009191279058531038:=Nat
def tw13972800110039084508:=Nat
def tw4333641790021017743:=Nat
def tw12873753124287657519:=Nat
def tw1226156608121326394:=Nat
def tw15898406547237473435:=Nat
end PySem.W.Fast
end
open PySem PySem.W PyProof.Rows
set_option maxRecDepth 100000 in
set_option maxHeartbeats 0 in
theorem PySem.Challenge.cw_lazyrails_k54_program_texts_refused_holds : PySem.Challenge.rw_lazyrails_k54_program_texts_refused.Holds := by
 w_on; o_law; k_head; (case hw => w_witness2)
 k_fill
 refine L2.walk_ofT (l:=PySem.Challenge.rw_lazyrails_k54_program_texts_refused) (n:=63) (k:=12) (x := "_law_script") (sp:=P.sp_lawT) rfl (by decide) rfl ⟨rfl,by decide,by decide,rfl⟩ (fun w h Y => ⟨PySem.W.km_in_of Y,PySem.W.km_tabs_of Y _ (List.Mem.head _)⟩) ?F ?S
 case F =>
  intro w mg fa h KX G hmg
  refine P.finF hmg ?_
  refine' ⟨_,P.txt_mk KX G ?zcm ?zcn ?zco ?zcp ?zcq ?zcr ?zcs ?zct ?zcu ?zcv ?zcw ?zcx ?zcy ?zcz ?zd0 ?zd1 ?zd2 ?zd3 ?zd4 ?zd5 ?zd6 ?zd7 ?zd8 ?zd9 ?zda ?zdb ?zdc ?zdd ?zde ?zdf ?zdg ?zdh ?zdi ?zdj ?zdk ?zdl ?zdm ?zdn ?zdo ?zdp ?zdq ?zdr ?zds ?zdt ?zdu ?zdv ?zdw ?zdx ?zdy ?zdz ?ze0 ?ze1 ?ze2 ?ze3 ?ze4 ?ze5 ?ze6 ?ze7 ?ze8 ?ze9 ?zea ?zeb ?zec ?zed ?zee ?zef ?zeg ?zeh ?zei ?zej ?zek ?zel ?zem ?zen ?zeo ?zep ?zeq ?zer ?zes ?zet ?zeu ?zev ?zew ?zex ?zey ?zez ?zf0 ?zf1 ?zf2 ?zf3 ?zf4 ?zf5 ?zf6 ?zf7 ?zf8 ?zf9 ?zfa ?zfb ?zfc ?zfd ?zfe ?zff ?zfg ?zfh ?zfi ?zfj ?zfk ?zfl ?zfm ?zfn ?zfo ?zfp ?zfq ?zfr ?zfs ?zft ?zfu ?zfv ?zfw ?zfx ?zfy ?zfz ?zg0 ?zg1 ?zg2 ?zg3 ?zg4 ?zg5 ?zg6 ?zg7 ?zg8 ?zg9 ?zga ?zgb ?zgc ?zgd ?zge ?zgf ?zgg ?zgh ?zgi ?zgj ?zgk ?zgl ?zgm ?zgn ?zgo ?zgp ?zgq ?zgr ?zgs ?zgt ?zgu ?zgv ?zgw ?zgx ?zgy ?zgz ?zh0 ?zh1 ?zh2 ?zh3 ?zh4 ?zh5 ?zh6 ?zh7 ?zh8 ?zh9 ?zha ?zhb ?zhc ?zhd ?zhe ?zhf ?zhg ?zhh ?zhi ?zhj ?zhk ?zhl ?zhm ?zhn ?zho ?zhp ?zhq ?zhr ?zhs ?zht ?zhu ?zhv ?zhw ?zhx ?zhy ?zhz ?zi0 ?zi1 ?zi2 ?zi3 ?zi4 ?zi5 ?zi6 ?zi7 ?zi8 ?zi9 ?zia ?zib ?zic ?zid ?zie ?zif ?zig ?zih ?zii ?zij ?zik ?zil ?zim ?zin ?zio ?zip ?ziq ?zir ?zis ?zit ?ziu ?ziv ?ziw ?zix ?ziy ?ziz ?zj0 ?zj1 ?zj2 ?zj3 ?zj4 ?zj5 ?zj6 ?zj7 ?zj8 ?zj9 ?zja ?zjb ?zjc ?zjd ?zje ?zjf ?zjg ?zjh ?zji ?zjj ?zjk ?zjl ?zjm ?zjn ?zjo ?zjp ?zjq ?zjr ?zjs ?zjt ?zju ?zjv ?zjw ?zjx ?zjy ?zjz ?zk0 ?zk1 ?zk2 ?zk3,rfl⟩
  (case zcm|zcn|zco|zcp|zcq => k_is)
  (case zcr => exact rfl)
  (case zcs|zct|zcu|zcv => k_is)
  (case zcw => exact rfl)
  (case zcx|zcy|zcz|zd0 => k_is)
  (case zd1 => exact rfl)
  (case zd2|zd3|zd4|zd5 => k_is)
  (case zd6 => exact rfl)
  (case zd7|zd8|zd9|zda => k_is)
  (case zdb => exact rfl)
  (case zdc|zdd|zde|zdf => k_is)
  (case zdg => exact rfl)
  (case zdh|zdi|zdj|zdk => k_is)
  (case zdl => exact rfl)
  (case zdm|zdn|zdo|zdp => k_is)
  (case zdq => exact rfl)
  (case zdr|zds|zdt|zdu => k_is)
  (case zdv => exact rfl)
  (case zdw|zdx|zdy|zdz => k_is)
  (case ze0 => exact rfl)
  (case ze1|ze2|ze3|ze4 => k_is)
  (case ze5 => exact rfl)
  (case ze6|ze7|ze8|ze9 => k_is)
  (case zea => exact rfl)
  (case zeb|zec|zed|zee => k_is)
  (case zef => exact rfl)
  (case zeg|zeh|zei|zej => k_is)
  (case zek => exact rfl)
  (case zel|zem|zen|zeo => k_is)
  (case zep => exact rfl)
  (case zeq|zer|zes|zet => k_is)
  (case zeu => exact rfl)
  (case zev|zew|zex|zey => k_is)
  (case zez => exact rfl)
  (case zf0|zf1|zf2|zf3 => k_is)
  (case zf4 => exact rfl)
  (case zf5|zf6|zf7|zf8 => k_is)
  (case zf9 => exact rfl)
  (case zfa|zfb|zfc|zfd => k_is)
  (case zfe => exact rfl)
  (case zff|zfg|zfh|zfi => k_is)
  (case zfj => exact rfl)
  (case zfk|zfl|zfm|zfn => k_is)
  (case zfo => exact rfl)
  (case zfp|zfq|zfr|zfs => k_is)
  (case zft => exact rfl)
  (case zfu|zfv|zfw|zfx => k_is)
  (case zfy => exact rfl)
  (case zfz|zg0|zg1|zg2 => k_is)
  (case zg3 => exact rfl)
  (case zg4|zg5|zg6|zg7 => k_is)
  (case zg8 => exact rfl)
  (case zg9|zga|zgb|zgc => k_is)
  (case zgd => exact rfl)
  (case zge|zgf|zgg|zgh => k_is)
  (case zgi => exact rfl)
  (case zgj|zgk|zgl|zgm => k_is)
  (case zgn => exact rfl)
  (case zgo|zgp|zgq|zgr|zgs => k_is)
  (case zgt => exact rfl)
  (case zgu|zgv|zgw|zgx|zgy => k_is)
  (case zgz => exact rfl)
  (case zh0|zh1|zh2|zh3|zh4 => k_is)
  (case zh5 => exact rfl)
  (case zh6|zh7|zh8|zh9|zha => k_is)
  (case zhb => exact rfl)
  (case zhc|zhd|zhe|zhf|zhg => k_is)
  (case zhh => exact rfl)
  (case zhi|zhj|zhk|zhl|zhm => k_is)
  (case zhn => exact rfl)
  (case zho|zhp|zhq|zhr|zhs => k_is)
  (case zht => exact rfl)
  (case zhu|zhv|zhw|zhx|zhy => k_is)
  (case zhz => exact rfl)
  (case zi0|zi1|zi2|zi3|zi4 => k_is)
  (case zi5 => exact rfl)
  (case zi6|zi7|zi8|zi9|zia|zib|zic|zid|zie|zif|zig|zih|zii|zij|zik|zil|zim|zin|zio|zip|ziq|zir|zis|zit|ziu|ziv|ziw|zix|ziy|ziz|zj0|zj1 => k_is)
  (case zj2|zj3|zj4|zj5|zj6|zj7|zj8|zj9|zja => kernel_rfl)
  (case zjb => exact rfl)
  (case zjc|zjd => kernel_rfl)
  (case zje|zjf|zjg|zjh|zji|zjj|zjk|zjl|zjm|zjn|zjo|zjp|zjq|zjr => k_is)
  (case zjs => exact ⟨_,rfl⟩)
  (case zjt => k_is)
  (case zju => exact ⟨_,rfl⟩)
  (case zjv => k_is)
  (case zjw => exact rfl)
  (case zjx => k_is)
  (case zjy => exact (show 3 <= PySem.sizeLine by decide))
  (case zjz => exact .cons ⟨_,rfl⟩ (.cons ⟨_,rfl⟩ (.cons ⟨_,rfl⟩ (.nil))))
  (case zk0 => k_is)
  (case zk1 => exact ⟨_,rfl,by kernel_rfl⟩)
  (case zk2 => k_is)
  (case zk3 => exact ⟨_,rfl⟩)
 case S => exact fun K H a ns hl hT hS => P.law_startT hl hT hS
