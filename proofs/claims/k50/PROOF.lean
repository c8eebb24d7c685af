import PyProof.Rows.All
import Wide.All
import OpenK.AllK
import Wide.FinOn
import Lean
import PyProof.EqAt
import PyProof.EqKinds
import PyProof.TupleCall
import PyProof.ZipIter
import PyProof.EnumMake
import PyProof.ListRange
import KE.KDictList
import KE.LcSums
import KE.KTabLook
import PyProof.P3In
import KE.KIntText
import PyProof.StrLoop
import PyProof.StrWalks
import PyProof.StrCalls2
import PyProof.StrLawsTight
import PyProof.StrLawsChain
import PyProof.Rows.SortShell
import KE.KSortTup
import KE.KUnpack
import PySem.Challenge.RW_lazyrails_k50_whole_yards_read_back
set_option compiler.extract_closed false
set_option Elab.async false
set_option linter.all false
set_option maxRecDepth 100000
open List renaming length_map→v9,getElem?_eq_getElem→wa,mem_append_right→wb,mem_cons_of_mem→wc,getElem?_map→wd,mem_cons_self→we,length_append→wf,map_append→wg,mem_of_getElem?→wj,pairwise_append→wk,length_cons→wl,append_assoc→wm,getElem?_append_right→wn,mem_singleton→wo,size_toArray→wp,mem_append→wq,getElem?_append_left→wr,mem_cons→wt,map_cons→wu,mem_map→wv,length_replicate→ww,append_nil→wx,length_take→wy,mem_append_left→wA,length_singleton→wB,not_mem_nil→wC,map_map→wD,lookup_cons→wE,mem_map_of_mem→wF,mem_range→wG,find?_cons→wH
noncomputable section
namespace L2
open PySem PySem.Spec PyProof.Rows
theorem U.{u} {α:Sort u}{a:α}:a=a:=rfl
theorem O.{u} {α:Sort u}{a:α}:a=a:=rfl
theorem J.{u} {α:Sort u}{a:α}:a=a:=rfl
theorem F.{u} {α:Sort u}{a:α}:a=a:=rfl
theorem Z.{u} {α:Sort u}{a:α}:a=a:=rfl
noncomputable abbrev Key:=Sum Int Str
noncomputable def gU:Key->Value->Bool
 | .inl k,v=>Value.isInt k v
 | .inr x,v=>Value.isStrOf x v
noncomputable def vU (w:World):Key->Int
 | .inl k=>hashInt k
 | .inr x=>hashStr w x
theorem aW:∀ {k:Key}{v:Value},gU k v=true->(∃ i t,k=Sum.inl i/\v=Value.int i t)∨(∃ x t,k=Sum.inr x/\v=Value.str x t)
 | .inl i,v,h=>by
  obtain⟨t,e⟩:=Value.isInt_shape (k:=i) (v:=v) h
  exact .inl ⟨i,t,U,e⟩
 | .inr x,v,h=>by
  obtain⟨t,e⟩:=Value.isStrOf_shape (x:=x) (v:=v) h
  exact .inr ⟨x,t,U,e⟩
theorem iM (i:Int) (t:Tok):gU (.inl i) (.int i t)=true:=by simp[gU,Value.isInt]
theorem ng (x:Str) (t:Tok):gU (.inr x) (.str x t)=true:=by simp[gU,Value.isStrOf]
theorem uC (a b:Int):decide ((Sum.inl a:Key)=Sum.inl b)=(a == b):=by
 by_cases e:a=b
 ·subst e; simp
 ·have h:¬ (Sum.inl a:Key)=Sum.inl b:=fun q=>e (Sum.inl.inj q)
  rw[decide_eq_false h]
  exact(beq_eq_false_iff_ne.mpr e).symm
theorem uz (a b:Str):decide ((Sum.inr a:Key)=Sum.inr b)=decide (a=b):=by
 by_cases e:a=b
 ·subst e; simp
 ·have h:¬ (Sum.inr a:Key)=Sum.inr b:=fun q=>e (Sum.inr.inj q)
  rw[decide_eq_false h,decide_eq_false e]
theorem uB (a:Int) (b:Str):decide ((Sum.inl a:Key)=Sum.inr b)=false:=decide_eq_false (fun q=>nomatch q)
theorem uA (a:Str) (b:Int):decide ((Sum.inr a:Key)=Sum.inl b)=false:=decide_eq_false (fun q=>nomatch q)
noncomputable def aS (prog:Program) (w:World):PySem.KeyKind prog w Key where
 is:=gU
 hash:=vU w
 inj:=fun v a b ha hb=>by
  rcases aW ha with ⟨i,t,rfl,rfl⟩ | ⟨x,t,rfl,rfl⟩
  ·rcases aW hb with ⟨j,u,rfl,e⟩ | ⟨y,u,rfl,e⟩
   ·injection e with e1 _; rw[e1]
   ·exact nomatch e
  ·rcases aW hb with ⟨j,u,rfl,e⟩ | ⟨y,u,rfl,e⟩
   ·exact nomatch e
   ·injection e with e1 _; rw[e1]
 byValue:=fun k v h=>by
  rcases aW h with ⟨i,t,rfl,rfl⟩ | ⟨x,t,rfl,rfl⟩ <;> rfl
 pyHash:=fun hv h=>by
  rcases aW hv with ⟨i,t,rfl,rfl⟩ | ⟨x,t,rfl,rfl⟩
  ·exact wpAny_pyHash_int h
  ·exact wpAny_pyHash_str h
 eqBool:=fun hu hv h=>by
  rcases aW hu with ⟨i,t,rfl,rfl⟩ | ⟨x,t,rfl,rfl⟩
  ·rcases aW hv with ⟨j,u,rfl,rfl⟩ | ⟨y,u,rfl,rfl⟩
   ·rw[uC] at h; exact wpAny_eqBool_int h
   ·rw[uB] at h; exact SeqAt.EqAt.int_str i t y u _ _ _ _ h
  ·rcases aW hv with ⟨j,u,rfl,rfl⟩ | ⟨y,u,rfl,rfl⟩
   ·rw[uA] at h; exact SeqAt.EqAt.str_int x t j u _ _ _ _ h
   ·rw[uz] at h; exact wpAny_eqBool_str h
 «strs»:=fun k x t v h=>by
  rcases aW h with ⟨i,u,rfl,e⟩ | ⟨y,u,rfl,e⟩
  ·exact nomatch e
  ·injection e with e1 _
   subst e1
   cases v <;> rfl
theorem jY (prog:Program) (w:World) (i:Int) (t:Tok):(aS prog w).is (.inl i) (.int i t)=true:=iM i t
theorem jX (prog:Program) (w:World) (x:Str) (t:Tok):(aS prog w).is (.inr x) (.str x t)=true:=ng x t
inductive V where
 | non | bl (b:Bool) | int (i:Int) | str (x:Str) | byt (b:Array UInt8) | flt (b:UInt64) | ref (a:Addr) | ty (n:String)
 deriving DecidableEq
noncomputable def RelV:V->Value->Prop
 | .non,u=>u=Value.none
 | .bl b,u=>u=Value.bool b
 | .int i,u=>∃ t,u=Value.int i t
 | .str x,u=>∃ t,u=Value.str x t
 | .byt b,u=>∃ t,u=Value.bytes b t
 | .flt b,u=>∃ t,u=Value.float b t
 | .ref a,u=>u=Value.ref a
 | .ty n,u=>u=Value.type n
noncomputable abbrev Vals:List V->List Value->Prop:=Paired RelV
variable{us:List Value}
theorem Vals.length {xs:List V} (r:Vals xs us):xs.length=us.length:=Paired.length r
theorem Vals.get:∀ {xs:List V}{us:List Value}{i:Nat}{x:V},Vals xs us->xs[i]?=some x->∃ u,us[i]?=some u/\RelV x u
 | _,_,_,_,.nil,e=>by simp at e
 | _,_,0,_,.cons r _,e=>by simp at e; subst e; exact⟨_,U,r⟩
 | _,_,i+1,x,.cons _ t,e=>by
  obtain⟨u,h1,h2⟩:=Vals.get (i:=i) (x:=x) t (by simpa using e)
  exact⟨u,by simpa using h1,h2⟩
variable{u:Value}
theorem Vals.set {x:V} (r:RelV x u):∀ {xs:List V}{us:List Value} (i:Nat),Vals xs us->Vals (xs.set i x) (us.set i u)
 | _,_,_,.nil=>.nil
 | _,_,0,.cons _ t=>.cons r t
 | _,_,i+1,.cons q t=>.cons q (Vals.set r i t)
theorem Vals.append {xs ys:List V}{us ws:List Value} (a:Vals xs us) (s:Vals ys ws):Vals (xs++ys) (us++ws):=by
 induction a with
 | nil=>exact s
 | cons r t ih=>exact .cons r ih
theorem Vals.take:∀ {xs:List V}{us:List Value} (n:Nat),Vals xs us->Vals (xs.take n) (us.take n)
 | _,_,0,_=>.nil
 | _,_,_+1,.nil=>.nil
 | _,_,n+1,.cons r t=>.cons r (Vals.take n t)
theorem Vals.drop:∀ {xs:List V}{us:List Value} (n:Nat),Vals xs us->Vals (xs.drop n) (us.drop n)
 | _,_,0,r=>r
 | _,_,_+1,.nil=>.nil
 | _,_,n+1,.cons _ t=>Vals.drop n t
noncomputable def RelO:Option V->Option Value->Prop
 | some v,some u=>RelV v u
 | none,none=>True
 | _,_=>False
noncomputable def KV {κ:Type}:List (κ×V)->List (κ×Value)->Prop:=Paired fun(p:κ×V) (q:κ×Value)=>p.1=q.1/\RelV p.2 q.2
noncomputable def kV:Key->V
 | .inl i=>.int i
 | .inr x=>.str x
inductive HO where
  | lst (xs:List V)
  | tup (xs:List V)
  | dK (kvs:List (Key×V)) | dT (kvs:List (List Key×V))
  | set (S:Int->Bool) (n:Nat)
  | ins (C dx:Addr) (fs:List (Str×V))
  | own (x:Addr)
  | xd (fs:List (Str×V))
  | met (f x:Addr)
  | rng (lo hi:Int)
  | frz (o:Obj) (u:HO)
  | tbl (ps:Array Value)
  | ext (φ:Heap->Prop)
noncomputable abbrev Hp:=Addr->Option HO
noncomputable def upd (H:Hp) (a:Addr) (o:HO):Hp:=fun b=>if b=a then some o else H b
variable{H:Hp}
theorem bJ {a:Addr}{o:HO}:upd H a o a=some o:=by unfold upd; rw[if_pos rfl]
theorem aQ {a b:Addr}{o:HO} (h:b≠a):upd H a o b=H b:=by unfold upd; rw[if_neg h]
theorem ne_of {a b:Addr}{o u:HO} (h:H a=some o) (h':H b=some u) (d:o≠u):a≠b:=by
 intro e; subst e; rw[h] at h'; exact d (Option.some.inj h')
theorem br {a b:Addr}{o:HO} (h:H a=some o) (h':H b=none):a≠b:=by
 intro e; subst e; rw[h] at h'; cases h'
section
variable (P:Program) (w:World)
noncomputable def ObjOk (H:Hp) (h:Heap) (a:Addr):HO->Prop
 | .lst xs=>xs.length<=sizeLine/\∃ (its:List Value) (n:Nat),Vals xs its/\h.get? a=some { cls:=.type "list",data:=.seq its.toArray n }
 | .tup xs=>xs.length<=sizeLine/\∃ its:List Value,Vals xs its/\IsTup h a its.toArray
 | .dK kvs=>kvs.length<=sizeLine/\(a == sysModules)=false/\∃ vs,KV kvs vs/\h.DictOf (aS P w) a vs
 | .dT kvs=>kvs.length<=sizeLine/\(a == sysModules)=false/\∃ xs:List (List Key×Addr×Value),
   Paired (fun(p:List Key×V) (q:List Key×Addr×Value)=>p.1=q.1/\H q.2.1=some (.tup (p.1.map kV))/\RelV p.2 q.2.2) kvs xs /\
   ∃ o es ep,h.get? a=some o/\o.ExactDict/\o.data=.dict es ep/\es.toList=xs.map (entryOfKey (tupleKind (aS P w)))/\(xs.map (·.1)).Nodup
 | .set S n=>h.SetOf (intKind P w) a S n
 | .ins C dx fs=>H dx=some (.own a)/\fs.length<=1000/\dx≠a/\h.get? a=some (PySem.W.instObj C dx) /\
   ∃ mA,h.Ns1 dx mA/\(∀ f,RelO (fs.lookup f) (mA f))/\PySem.Within mA (fs.map (·.1))
 | .own _=>∃ o,h.get? a=some o
 | .xd fs=>∃ mA,h.Ns1 a mA/\∀ f,RelO (fs.lookup f) (mA f)
 | .rng lo hi=>∃ t u v,h.get? a=some { cls:=.type "range",data:=.fields #[.int lo t,.int hi u,.int 1 v] }
 | .frz o u=>h.get? a=some o/\ObjOk H h a u
 | .tbl ps=>h.get? a=some { cls:=.none,data:=.fields ps }
 | .met f x=>h.get? a=some (PySem.W.methodObj (.ref f) (.ref x))
 | .ext φ=>φ h/\(∃ o,h.get? a=some o)/\∀ h1 h2:Heap,φ h1->(∀ o,h1.get? a=some o->h2.get? a=some o)->φ h2
noncomputable def HOk (H:Hp) (h:Heap):Prop:=∀ a o,H a=some o->ObjOk P w H h a o
end
section
variable {P:Program}{w:World}{H H':Hp}{h h':Heap}{a:Addr}{o:HO}
theorem ObjOk.lt (x:ObjOk P w H h a o):a<h.objs.size:=by
 cases o with
 | lst xs=>obtain⟨_,_,_,_,e⟩:=x; exact Heap.lt_size e
 | tup xs=>obtain⟨_,_,_,p⟩:=x; exact p.lt
 | dK kvs=>obtain⟨_,_,_,_,o,_,_,e,_⟩:=x; exact Heap.lt_size e
 | dT kvs=>obtain⟨_,_,_,_,o,_,_,e,_⟩:=x; exact Heap.lt_size e
 | set S n=>obtain⟨o,_,_,_,e,_⟩:=x; exact Heap.lt_size e
 | ins C dx fs=>obtain⟨_,_,_,e,_⟩:=x; exact Heap.lt_size e
 | own y=>obtain⟨_,e⟩:=x; exact Heap.lt_size e
 | xd fs=>obtain⟨_,⟨_,_,_,e,_⟩,_⟩:=x; exact Heap.lt_size e
 | rng lo hi=>obtain⟨_,_,_,e⟩:=x; exact Heap.lt_size e
 | frz ob u=>obtain⟨e,_⟩:=x; exact Heap.lt_size e
 | tbl ps=>exact Heap.lt_size (show h.get? a=some _ from x)
 | met f y=>exact Heap.lt_size (show h.get? a=some _ from x)
 | ext φ=>obtain⟨_,⟨_,e⟩,_⟩:=x; exact Heap.lt_size e
theorem Paired.mapP {α β:Type}{F G:α->β->Prop} {l₁:List α}{l₂:List β} (a:Paired F l₁ l₂) (f:∀ a b,F a b->G a b):Paired G l₁ l₂:=by
 induction a with
 | nil=>exact .nil
 | cons r t ih=>exact .cons (f _ _ r) ih
theorem ObjOk.stay (x:ObjOk P w H h a o) (k:∀ b u,(b=a∨H b=some (.own a))->h.get? b=some u->h'.get? b=some u)
  (ho:∀ b,H b=some (.own a)->H' b=some (.own a)) (ht:∀ b xs,H b=some (.tup xs)->H' b=some (.tup xs)):ObjOk P w H' h' a o:=by
 induction o with
 | lst xs=>obtain⟨z,its,n,r,e⟩:=x; exact⟨z,its,n,r,k _ _ (.inl rfl) e⟩
 | tup xs=>obtain⟨z,its,r,ob,e,c⟩:=x; exact⟨z,its,r,ob,k _ _ (.inl rfl) e,c⟩
 | dK kvs=>obtain⟨z,y,vs,r,ob,es,ep,e,c⟩:=x; exact⟨z,y,vs,r,ob,es,ep,k _ _ (.inl rfl) e,c⟩
 | dT kvs=>
  obtain⟨z,y,xs,r,ob,es,ep,e,c⟩:=x
  exact⟨z,y,xs,Paired.mapP r fun p q z=>⟨z.1,ht _ _ z.2.1,z.2.2⟩,ob,es,ep,k _ _ (.inl rfl) e,c⟩
 | set S n=>obtain⟨ob,es,ep,t,e,c⟩:=x; exact⟨ob,es,ep,t,k _ _ (.inl rfl) e,c⟩
 | ins C dx fs=>
  obtain⟨d,z,ne,e,mA,⟨od,es,ep,e2,c⟩,r⟩:=x
  exact⟨ho _ d,z,ne,k _ _ (.inl rfl) e,mA,⟨od,es,ep,k _ _ (.inr d) e2,c⟩,r⟩
 | own y=>obtain⟨ob,e⟩:=x; exact⟨ob,k _ _ (.inl rfl) e⟩
 | xd fs=>obtain⟨mA,⟨od,es,ep,e,c⟩,r⟩:=x; exact⟨mA,⟨od,es,ep,k _ _ (.inl rfl) e,c⟩,r⟩
 | rng lo hi=>obtain⟨t,u,v,e⟩:=x; exact⟨t,u,v,k _ _ (.inl rfl) e⟩
 | frz ob u ih=>obtain⟨e,q⟩:=x; exact⟨k _ _ (.inl rfl) e,ih q⟩
 | tbl ps=>
  have e:h.get? a=some { cls:=.none,data:=.fields ps }:=x
  show h'.get? a=some { cls:=.none,data:=.fields ps }
  exact k a _ (.inl rfl) e
 | met f y=>
  have e:h.get? a=some (PySem.W.methodObj (.ref f) (.ref y)):=x
  show h'.get? a=some (PySem.W.methodObj (.ref f) (.ref y))
  exact k a _ (.inl rfl) e
 | ext φ=>obtain⟨p,⟨o,e⟩,st⟩:=x; exact⟨st _ _ p fun o q=>k _ _ (.inl rfl) q,⟨o,k _ _ (.inl rfl) e⟩,st⟩
theorem HOk.lt (x:HOk P w H h) (e:H a=some o):a<h.objs.size:=(x a o e).lt
theorem HOk.fresh (x:HOk P w H h) (e:h.objs.size<=a):H a=none:=by
 cases q:H a with
 | none=>rfl
 | some u=>exact absurd (Nat.lt_of_lt_of_le (x.lt q) e) (Nat.lt_irrefl _)
theorem HOk.kept (x:HOk P w H h) (k:∀ b u,h.get? b=some u->h'.get? b=some u):HOk P w H h':=fun a o e=>
 (x a o e).stay (fun b u _ q=>k b u q) (fun _ q=>q) fun _ _ q=>q
theorem HOk.laid (x:HOk P w H h) (k:∀ b u,h.get? b=some u->h'.get? b=some u) (hp:h.objs.size<=a) (new:ObjOk P w (upd H a o) h' a o):HOk P w (upd H a o) h':=fun b u e=>by
 have hn:=x.fresh hp
 by_cases hb:b=a
 ·subst hb; rw[bJ] at e; cases e; exact new
 ·rw[aQ hb] at e
  exact(x b u e).stay (fun c v _ q=>k c v q) (fun c q=>by rw[aQ (br q hn)]; exact q) fun c xs q=>by rw[aQ (br q hn)]; exact q
end
noncomputable def Rd (H:Hp) (a:Addr) (u:HO):Prop:=H a=some u∨∃ o,H a=some (.frz o u)
variable{P:Program}{w:World}{h:Heap}
theorem Rd.ok {a:Addr}{u:HO} (r:Rd H a u) (x:HOk P w H h):ObjOk P w H h a u:=by
 rcases r with r | ⟨o,r⟩
 ·exact x a u r
 ·obtain⟨_,q⟩:=x a _ r
  exact q
noncomputable def Mut:Option HO->Prop
 | some (.lst _)=>True
 | some (.dK _)=>True
 | some (.dT _)=>True
 | some (.set _ _)=>True
 | some (.ins _ _ _)=>True
 | some (.ext _)=>True
 | _=>False
section
variable {P:Program}{w:World}{H:Hp}{h h':Heap}{x e:Addr}{o':HO}
theorem HOk.write (ok:HOk P w H h) (mu:Mut (H x)) (he:e=x∨H e=some (.own x)) (k:∀ b u,b≠e->h.get? b=some u->h'.get? b=some u) (heo:∃ u,h'.get? e=some u)
  (new:ObjOk P w (upd H x o') h' x o'):HOk P w (upd H x o') h':=fun b u q=>by
 have nown:∀ c y,H c=some (.own y)->c≠x:=fun c y r z=>by subst z; rw[r] at mu; exact mu
 have ntup:∀ c xs,H c=some (.tup xs)->c≠x:=fun c xs r z=>by subst z; rw[r] at mu; exact mu
 by_cases hb:b=x
 ·subst hb; rw[bJ] at q; cases q; exact new
 ·rw[aQ hb] at q
  by_cases hbe:b=e
  ·have q':H b=some (.own x):=by
    rcases he with z | z
    ·exact absurd (hbe.trans z) hb
    ·rw[hbe]; exact z
   rw[q] at q'; cases q'
   obtain⟨v,hv⟩:=heo
   exact⟨v,by rw[hbe]; exact hv⟩
  ·refine(ok b u q).stay (fun c v hc r=>k c v ?_ r) (fun c r=>by rw[aQ (nown c b r)]; exact r) fun c xs r=>by rw[aQ (ntup c xs r)]; exact r
   rcases hc with rfl | hc
   ·exact hbe
   ·rintro rfl
    rcases he with z | z
    ·exact nown c b hc z
    ·rw[hc] at z; cases z; exact hb rfl
end
structure Un (fs ex:List Addr) (H H':Hp) (h h':Heap):Prop where
 keep:∀ b o,h.get? b=some o->H b=none->b ∉ fs->b ∉ ex->h'.get? b=some o
 slot:∀ b o,h.get? b=some o->H b=none->b ∈ fs->b ∉ ex->∃ sl,h'.get? b=some { o with slots:=sl }
 free:∀ b o,h.get? b=some o->H b=none->b ∉ ex->H' b=none
 there:∀ b o,h.get? b=some o->b ∉ ex->∃ o',h'.get? b=some o'
 tups:∀ b xs,H b=some (.tup xs)->H' b=some (.tup xs)
 frzs:∀ b o u,H b=some (.frz o u)->H' b=some (.frz o u)
 tbls:∀ b ps,H b=some (.tbl ps)->∃ more,H' b=some (.tbl (ps++more))
section
variable {fs fs' ex ex':List Addr}{H H1 H2:Hp}{h h1 h2 h':Heap}{a x e:Addr}{o:HO}
theorem Un.any (u:Un fs ex H H1 h h1) {b:Addr}{ob:Obj} (q:h.get? b=some ob) (n:H b=none) (hx:b ∉ ex):∃ sl,h1.get? b=some { ob with slots:=sl }:=by
 by_cases hb:b ∈ fs
 ·exact u.slot b ob q n hb hx
 ·exact⟨ob.slots,u.keep b ob q n hb hx⟩
theorem Un.trans (a:Un fs ex H H1 h h1) (b:Un fs ex H1 H2 h1 h2):Un fs ex H H2 h h2 where
 keep:=fun c ob q n hc hx=>b.keep c ob (a.keep c ob q n hc hx) (a.free c ob q n hx) hc hx
 slot:=fun c ob q n hc hx=>by
  obtain⟨sl,e1⟩:=a.slot c ob q n hc hx
  obtain⟨sl',e2⟩:=b.slot c _ e1 (a.free c ob q n hx) hc hx
  exact⟨sl',e2⟩
 free:=fun c ob q n hx=>by
  obtain⟨o',e1⟩:=a.there c ob q hx
  exact b.free c o' e1 (a.free c ob q n hx) hx
 there:=fun c ob q hx=>by
  obtain⟨o',e1⟩:=a.there c ob q hx
  exact b.there c o' e1 hx
 tups:=fun c xs q=>b.tups c xs (a.tups c xs q)
 frzs:=fun c ob xs q=>b.frzs c ob xs (a.frzs c ob xs q)
 tbls:=fun c ps q=>by
  obtain⟨m1,e1⟩:=a.tbls c ps q
  obtain⟨m2,e2⟩:=b.tbls c _ e1
  exact⟨m1++m2,by rw[e2,Array.append_assoc]⟩
theorem Un.kept (k:∀ b u,h.get? b=some u->h'.get? b=some u):Un fs ex H H h h' :=
 ⟨fun b ob q _ _ _=>k b ob q,fun b ob q _ _ _=>⟨ob.slots,k b ob q⟩,fun _ _ _ n _=>n,fun b ob q _=>⟨ob,k b ob q⟩,fun _ _ q=>q,fun _ _ _ q=>q,fun _ ps q=>⟨#[],by rw[q]; simp⟩⟩
theorem Un.refl:Un fs ex H H h h:=Un.kept fun _ _ q=>q
theorem Un.laid (k:∀ b u,h.get? b=some u->h'.get? b=some u) (hp:h.objs.size<=a) (hn:H a=none):Un fs ex H (upd H a o) h h' where
 keep:=fun b u q _ _ _=>k b u q
 slot:=fun b u q _ _ _=>⟨u.slots,k b u q⟩
 free:=fun b u q n _=>by rw[aQ (Nat.ne_of_lt (Nat.lt_of_lt_of_le (Heap.lt_size q) hp))]; exact n
 there:=fun b u q _=>⟨u,k b u q⟩
 tups:=fun b xs q=>by rw[aQ (br q hn)]; exact q
 frzs:=fun b u xs q=>by rw[aQ (br q hn)]; exact q
 tbls:=fun b ps q=>⟨#[],by rw[aQ (br q hn),q]; simp⟩
theorem Un.write (mu:Mut (H x)) (he:e=x∨H e=some (.own x)) (k:∀ b u,b≠e->h.get? b=some u->h'.get? b=some u) (heo:∃ u,h'.get? e=some u):Un fs ex H (upd H x o) h h':=by
 have hx:∀ b,H b=none->b≠x:=fun b n z=>by subst z; rw[n] at mu; exact mu
 have hb:∀ b,H b=none->b≠e:=fun b n z=>by
  subst z
  rcases he with r | r
  ·exact hx b n r
  ·rw[n] at r; cases r
 have hm:∀ b u,H b=some u->¬ Mut (some u)->b≠x:=fun b u q nm z=>by subst z; rw[q] at mu; exact nm mu
 refine⟨fun b u q n _ _=>k b u (hb b n) q,fun b u q n _ _=>⟨u.slots,k b u (hb b n) q⟩,fun b u q n _=>by rw[aQ (hx b n)]; exact n,fun b u q _=>?_,
  fun b xs q=>by rw[aQ (hm b _ q fun z=>z)]; exact q,fun b u xs q=>by rw[aQ (hm b _ q fun z=>z)]; exact q,fun b ps q=>⟨#[],by rw[aQ (hm b _ q fun z=>z),q]; simp⟩⟩
 by_cases hbe:b=e
 ·subst hbe; exact heo
 ·exact⟨u,k b u hbe q⟩
end
noncomputable def trk (h:Heap) (H:Hp):List Addr:=(List.range h.objs.size).filter fun a=>(H a).isSome
noncomputable def jl (h:Heap) (H:Hp):Heap:=PySem.W.hideAll h (trk h H)
theorem nw (h:Heap) (H:Hp):(jl h H).objs.size=h.objs.size:=PySem.W.hideAll_size _ _
theorem pU {b:Addr}{o:Obj} (e:h.get? b=some o) (n:H b=none):(jl h H).get? b=some o :=
 PySem.W.hideAll_get _ e fun hm=>by
  have q:(H b).isSome=true:=(List.mem_filter.mp hm).2
  rw[n] at q; simp at q
theorem qP {b:Addr}{o:Obj} (e:(jl h H).get? b=some o):h.get? b=some o/\H b=none:=by
 have e':h.get? b=some o:=PySem.W.of_hideAll (trk h H) e
 refine⟨e',?_⟩
 cases q:H b with
 | none=>rfl
 | some x=>
  have hm:b ∈ trk h H:=List.mem_filter.mpr ⟨wG.mpr (Heap.lt_size e'),by simp[q]⟩
  have z:(jl h H).get? b=none:=PySem.W.hideAll_none (trk h H) hm
  rw[z] at e; cases e
noncomputable def rR (g h:Heap) (L:Addr):List (Addr×Obj):=(List.range h.objs.size).filterMap fun a=>if a=L∨(g.get? a).isSome=true then none else(h.get? a).map fun o=>(a,o)
noncomputable def rest (g h:Heap) (L d:Addr):List (Addr×Obj):=(rR g h L).filter fun p=>decide (p.1≠d)
structure Mod (K:PySem.W.Frag) (mg:Str->Option Value) (base:Heap):Prop where
 kin:K.In base
 glob:base.Ns mainGlobals mg
 blt:∃ mb,base.Ns builtinsNs mb/\∀ x:Str,x ≠ "__name__" -> mb x=bootBuiltins x
 nolimit:base.NoLimit
structure Cx where
 prog:Program
 w:World
 K:PySem.W.Frag
 mg:Str->Option Value
 base:Heap
 A:Around
 N:List Str
 s₀:Shared
 H₀:Hp
 env:Env
 outer:List Env
 stack:List Env
 ex:List Addr
 fn:Str->Bool
 calm:Bool
 pn:List (Addr×Obj)
 xe:Value->Shared->Prop
noncomputable def frs (l:List Env):List Addr:=l.filterMap (·.frame)
noncomputable abbrev Cx.fs (X:Cx):List Addr:=frs X.outer
noncomputable def Vis (sc:Scope) (x:Str):Prop:=sc.names.lookup x=some .local∨sc.names.lookup x=some .cell∨sc.names.lookup x=some .free
noncomputable def Loc (sc:Scope) (x:Str):Prop:=sc.names.lookup x=some .local∨sc.names.lookup x=some .cell
noncomputable def Look (env:Env) (h:Heap) (m:Str->Option Value) (x:Str) (u:Value):Prop :=
 (env.kindOf x=some .local/\m x=some u)∨((env.kindOf x=some .cell∨env.kindOf x=some .free)/\∃ c,env.cells.lookup x=some c/\h.IsCell c (some u))
structure Cx.Ok (X:Cx):Prop where
 mod:Mod X.K X.mg X.base
 kind:X.env.scope.kind=.function
 glob:X.env.globals=mainGlobals
 blt:X.env.builtins=builtinsNs
 above:X.s₀.heap.objs.size<=X.env.locals
 inj:∀ x y c,X.env.cells.lookup x=some c->X.env.cells.lookup y=some c->x=y
 has:∀ x,(X.env.kindOf x=some .cell∨X.env.kindOf x=some .free)->∃ c,X.env.cells.lookup x=some c
 cab:∀ x c,X.fn x=true->X.env.cells.lookup x=some c->X.s₀.heap.objs.size<=c
 hd:X.calm=true->X.A.handled=none
 frames:X.A.frames=some X.stack
 stk:X.stack=X.outer∨(X.stack=X.env::X.outer/\X.env.frame=some X.env.locals)
 exf:∀ b ∈ X.ex,b≠X.env.locals/\∀ x c,X.env.cells.lookup x=some c->c≠b
 bs:∀ b o,X.base.get? b=some o->X.s₀.heap.get? b=some o/\X.H₀ b=none
 bsz:X.base.objs.size<=X.s₀.heap.objs.size
 noex:∀ b o,X.base.get? b=some o->b ∉ X.ex
 exfs:∀ b ∈ X.ex,b ∉ X.fs
 funs:X.s₀.heap.FunFrames X.base X.outer
 frf:∀ b ∈ X.fs,X.H₀ b=none
structure Inv (X:Cx) (pins:List (Addr×Obj)) (σ:List (Option V)) (H:Hp) (s:Shared):Prop where
 ok:X.Ok
 os:s.os=X.s₀.os
 bare:AllBare s.gens
 base:Un X.fs X.ex X.H₀ H X.s₀.heap s.heap
 loc:∃ m,s.heap.Ns X.env.locals m/\∀ (i:Nat) (x:Str) (v:V),X.N[i]?=some x->σ[i]?=some (some v)->Vis X.env.scope x->∃ u,RelV v u/\Look X.env s.heap m x u
 cell:∀ x c,X.env.cells.lookup x=some c->∃ v,s.heap.IsCell c v
 free:H X.env.locals=none
 freeC:∀ x c,X.env.cells.lookup x=some c->H c=none
 pin:∀ p ∈ X.pn++pins,s.heap.get? p.1=some p.2/\H p.1=none/\p.1≠X.env.locals/\p.1 ∉ X.fs/\∀ v,p.2.data≠.cell v
 hok:HOk X.prog X.w H s.heap
 len:σ.length=X.N.length
variable{E:Value->Shared->Prop}{A:Around}{t':Nat}
section
variable {X:Cx}{pins:List (Addr×Obj)}{σ:List (Option V)}{H H':Hp}{s:Shared}{h':Heap}
theorem Cx.Ok.nofr (ok:X.Ok) {b:Addr}{o:Obj} (e:X.base.get? b=some o):b ∉ X.fs:=fun hb=>by
 have:=(ok.funs.mem hb).1
 rw[e] at this; cases this
theorem Inv.bs (I:Inv X pins σ H s):∀ b o,X.base.get? b=some o->s.heap.get? b=some o/\H b=none:=fun b o e=>
 ⟨I.base.keep b o (I.ok.bs b o e).1 (I.ok.bs b o e).2 (I.ok.nofr e) (I.ok.noex b o e),I.base.free b o (I.ok.bs b o e).1 (I.ok.bs b o e).2 (I.ok.noex b o e)⟩
theorem Inv.bk (I:Inv X pins σ H s):∀ b o,X.base.get? b=some o->s.heap.get? b=some o:=fun b o e=>(I.bs b o e).1
theorem Inv.mod (I:Inv X pins σ H s):Mod X.K X.mg X.base:=I.ok.mod
theorem Inv.kIn (I:Inv X pins σ H s):X.K.In s.heap:=I.ok.mod.kin.keeps I.bk
theorem Inv.fr (I:Inv X pins σ H s):∃ m,Fr X.base X.env.locals s.heap m :=
 let ⟨m,hn,_⟩:=I.loc
 ⟨m,hn,I.bk,Nat.le_trans I.ok.bsz I.ok.above⟩
theorem Inv.lt (I:Inv X pins σ H s):X.env.locals<s.heap.objs.size:=let ⟨_,hn,_⟩:=I.loc; hn.lt
theorem Inv.sz (I:Inv X pins σ H s):X.s₀.heap.objs.size<=s.heap.objs.size:=Nat.le_trans I.ok.above (Nat.le_of_lt I.lt)
theorem Inv.nofs (I:Inv X pins σ H s) {a:Addr} (h:s.heap.objs.size<=a):a ∉ X.fs:=fun hb=>by
 obtain⟨_,o,ho,_⟩:=I.ok.funs.mem hb
 exact absurd (Nat.lt_of_lt_of_le (Heap.lt_size ho) (Nat.le_trans I.sz h)) (Nat.lt_irrefl _)
theorem Inv.cne (I:Inv X pins σ H s):∀ x c,X.env.cells.lookup x=some c->c≠X.env.locals:=fun x c e z=>by
 obtain⟨v,o,ho,hd⟩:=I.cell x c e
 obtain⟨m,⟨o',es,ep,ho',hd',_⟩,_⟩:=I.loc
 rw[z,ho'] at ho; cases ho; rw[hd'] at hd; cases hd
theorem Inv.funs (I:Inv X pins σ H s):s.heap.FunFrames X.base X.outer:=by
 have all:∀ (l:List Env),(∀ b ∈ frs l,b ∈ X.fs)->X.s₀.heap.FunFrames X.base l->s.heap.FunFrames X.base l:=by
  intro l
  induction l with
  | nil=>intro _ _; trivial
  | cons env r ih=>
   intro hs hl
   obtain⟨hk,⟨L,o,hf,hn,ho,hd⟩,hr⟩:=hl
   have hL:L ∈ X.fs:=hs L (by unfold frs; rw[List.filterMap_cons,hf]; exact we)
   obtain⟨sl,e⟩:=I.base.slot L o ho (I.ok.frf L hL) hL fun z=>I.ok.exfs L z hL
   exact⟨hk,⟨L,_,hf,hn,e,hd⟩,ih (fun b hb=>hs b (by unfold frs; rw[List.filterMap_cons,hf]; exact wc _ hb)) hr⟩
 exact all X.outer (fun _ hb=>hb) I.ok.funs
theorem Inv.stack (I:Inv X pins σ H s):s.heap.FunFrames X.base X.stack:=by
 rcases I.ok.stk with e | ⟨e,hf⟩
 ·rw[e]; exact I.funs
 ·rw[e]
  obtain⟨m,hn,_⟩:=I.loc
  refine .cons (by rw[I.ok.kind]; decide) hf hn ?_ I.funs
  exact Heap.get?_none_of_le (Nat.le_trans I.ok.bsz I.ok.above)
theorem Inv.stkSub (I:Inv X pins σ H s):∀ b ∈ frs X.stack,b ∈ X.env.locals::X.fs:=fun b hb=>by
 rcases I.ok.stk with e | ⟨e,hf⟩
 ·rw[e] at hb; exact wc _ hb
 ·rw[e] at hb
  unfold frs at hb
  rw[List.filterMap_cons,hf] at hb
  exact hb
theorem Inv.stkFree (I:Inv X pins σ H s):∀ b ∈ frs X.stack,H b=none:=fun b hb=>by
 rcases wt.mp (I.stkSub b hb) with e | hb
 ·rw[e]; exact I.free
 ·obtain⟨_,o,ho,_⟩:=I.ok.funs.mem hb
  exact I.base.free b o ho (I.ok.frf b hb) fun z=>I.ok.exfs b z hb
theorem Inv.step {g':Array GenState}{d':Drawn}{ch:List Addr} (I:Inv X pins σ H s)
  (hch:∀ b ∈ ch,(b ∈ X.ex∨X.s₀.heap.objs.size<=b)/\b≠X.env.locals/\(∀ x c,X.env.cells.lookup x=some c->c≠b)/\∀ p ∈ X.pn++pins,p.1≠b)
  (keep:∀ b o,b≠X.env.locals->b ∉ X.fs->b ∉ ch->s.heap.get? b=some o->H b=none->h'.get? b=some o)
  (slot:∀ b o,b≠X.env.locals->b ∈ X.fs->b ∉ ch->s.heap.get? b=some o->H b=none->∃ sl,h'.get? b=some { o with slots:=sl }) (free:∀ b o,b ∉ ch->s.heap.get? b=some o->H b=none->H' b=none)
  (there:∀ b o,b ∉ ch->s.heap.get? b=some o->∃ o',h'.get? b=some o')
  (tups:∀ b xs,H b=some (.tup xs)->H' b=some (.tup xs)) (frzs:∀ b o u,H b=some (.frz o u)->H' b=some (.frz o u)) (tbls:∀ b ps,H b=some (.tbl ps)->∃ more,H' b=some (.tbl (ps++more)))
  (ns:∀ m,s.heap.Ns X.env.locals m->h'.Ns X.env.locals m) (hok:HOk X.prog X.w H' h') (hg:AllBare g') :
  Inv X pins σ H' { s with heap:=h',gens:=g',drawn:=d',toks:=t' }:=by
 have neL:∀ b o,X.s₀.heap.get? b=some o->b≠X.env.locals:=fun b o e=>Nat.ne_of_lt (Nat.lt_of_lt_of_le (Heap.lt_size e) I.ok.above)
 have neC:∀ b o,X.s₀.heap.get? b=some o->b ∉ X.ex->b ∉ ch:=fun b o e hx hb=>by
  rcases (hch b hb).1 with z | z
  ·exact hx z
  ·exact absurd (Nat.lt_of_lt_of_le (Heap.lt_size e) z) (Nat.lt_irrefl _)
 have cellK:∀ x c,X.env.cells.lookup x=some c->∀ v,s.heap.IsCell c v->h'.IsCell c v:=fun x c e v ⟨o,ho,hd⟩=>by
  have nch:c ∉ ch:=fun z=>(hch c z).2.2.1 x c e rfl
  by_cases hc:c ∈ X.fs
  ·obtain⟨sl,q⟩:=slot c o (I.cne x c e) hc nch ho (I.freeC x c e)
   exact⟨_,q,hd⟩
  ·exact⟨o,keep c o (I.cne x c e) hc nch ho (I.freeC x c e),hd⟩
 refine⟨I.ok,I.os,hg,⟨fun b o e n hb hx=>?_,fun b o e n hb hx=>?_,fun b o e n hx=>?_,fun b o e hx=>?_,fun b xs e=>tups b xs (I.base.tups b xs e),fun b o xs e=>frzs b o xs (I.base.frzs b o xs e),fun b ps e=>?_⟩,?_,fun x c e=>?_,?_,fun x c e=>?_,fun p hp=>?_,hok,I.len⟩
 ·exact keep b o (neL b o e) hb (neC b o e hx) (I.base.keep b o e n hb hx) (I.base.free b o e n hx)
 ·obtain⟨sl,e1⟩:=I.base.slot b o e n hb hx
  obtain⟨sl',e2⟩:=slot b _ (neL b o e) hb (neC b o e hx) e1 (I.base.free b o e n hx)
  exact⟨sl',e2⟩
 ·obtain⟨o',e1⟩:=I.base.there b o e hx
  exact free b o' (neC b o e hx) e1 (I.base.free b o e n hx)
 ·obtain⟨o',e1⟩:=I.base.there b o e hx
  exact there b o' (neC b o e hx) e1
 ·obtain⟨m1,e1⟩:=I.base.tbls b ps e
  obtain⟨m2,e2⟩:=tbls b _ e1
  exact⟨m1++m2,by rw[e2,Array.append_assoc]⟩
 ·obtain⟨m,hn,hl⟩:=I.loc
  refine⟨m,ns m hn,fun i x v e1 e2 e3=>?_⟩
  obtain⟨u,r,l⟩:=hl i x v e1 e2 e3
  refine⟨u,r,?_⟩
  rcases l with l | ⟨k,c,e,z⟩
  ·exact .inl l
  ·exact .inr ⟨k,c,e,cellK x c e _ z⟩
 ·obtain⟨v,z⟩:=I.cell x c e
  exact⟨v,cellK x c e v z⟩
 ·obtain⟨m,⟨o,_,_,ho,_⟩,_⟩:=I.loc
  exact free _ o (fun z=>(hch _ z).2.1 rfl) ho I.free
 ·obtain⟨v,o,ho,hd⟩:=I.cell x c e
  exact free c o (fun z=>(hch c z).2.2.1 x c e rfl) ho (I.freeC x c e)
 ·obtain⟨e,n,ne,nf,d⟩:=I.pin p hp
  have nch:p.1 ∉ ch:=fun z=>(hch p.1 z).2.2.2 p hp rfl
  exact⟨keep p.1 p.2 ne nf nch e n,free p.1 p.2 nch e n,ne,nf,d⟩
theorem Inv.un (I:Inv X pins σ H s) (u:Un X.fs [] H H' s.heap h') (hok:HOk X.prog X.w H' h'):Inv X pins σ H' { s with heap:=h',toks:=t' }:=by
 obtain⟨m,⟨o,es,ep,ho,r⟩,_⟩:=id I.loc
 obtain⟨sl,hL⟩:=u.any ho I.free (by simp)
 exact I.step (g':=s.gens) (d':=s.drawn) (ch:=[]) (fun _ z=>nomatch z) (fun b o _ hb _ e n=>u.keep b o e n hb (by simp)) (fun b o _ hb _ e n=>u.slot b o e n hb (by simp)) (fun b o _ e n=>u.free b o e n (by simp)) (fun b o _ e=>u.there b o e (by simp)) u.tups u.frzs u.tbls (fun m' hm=>by
  obtain⟨o',es',ep',ho',r'⟩:=hm
  rw[ho] at ho'; cases ho'
  exact⟨_,es',ep',hL,r'⟩) hok I.bare
theorem Inv.call {g':Array GenState}{d':Drawn}{ch:List Addr} (I:Inv X pins σ H s) (u:Un (frs X.stack) ch H H' s.heap h') (hok:HOk X.prog X.w H' h') (hg:AllBare g')
  (hch:∀ b ∈ ch,(b ∈ X.ex∨X.s₀.heap.objs.size<=b)/\b≠X.env.locals/\(∀ x c,X.env.cells.lookup x=some c->c≠b)/\∀ p ∈ X.pn++pins,p.1≠b) :
  Inv X pins σ H' { s with heap:=h',gens:=g',drawn:=d',toks:=t' }:=by
 obtain⟨m,⟨o,es,ep,ho,r⟩,_⟩:=id I.loc
 obtain⟨sl,hL⟩:=u.any ho I.free fun z=>(hch _ z).2.1 rfl
 exact I.step (ch:=ch) hch (fun b o hL hb hc e n=>u.keep b o e n (fun z=>(wt.mp (I.stkSub b z)).elim hL hb) hc) (fun b o _ _ hc e n=>u.any e n hc) (fun b o hc e n=>u.free b o e n hc) (fun b o hc e=>u.there b o e hc) u.tups u.frzs u.tbls (fun m' hm=>by
  obtain⟨o',es',ep',ho',r'⟩:=hm
  rw[ho] at ho'; cases ho'
  exact⟨_,es',ep',hL,r'⟩) hok hg
theorem Inv.turned {it:Addr} (I:Inv X pins σ H s) (k:∀ b o,b≠it->s.heap.get? b=some o->h'.get? b=some o) (hn:H it=none) (hL:it≠X.env.locals)
  (h1:it ∈ X.ex∨X.s₀.heap.objs.size<=it) (h2:∀ x c,X.env.cells.lookup x=some c->c≠it) (h3:∀ p ∈ X.pn++pins,p.1≠it):Inv X pins σ H { s with heap:=h',toks:=t' }:=by
 have nit:∀ b u,H b=some u->b≠it:=fun b u e z=>by rw[z,hn] at e; cases e
 refine I.step (g':=s.gens) (d':=s.drawn) (ch:=[it]) (fun b hb=>?_) (fun b o _ _ hc e _=>k b o (fun z=>hc (by simp[z])) e) (fun b o _ _ hc e _=>⟨o.slots,k b o (fun z=>hc (by simp[z])) e⟩) (fun _ _ _ _ n=>n)
  (fun b o hc e=>⟨o,k b o (fun z=>hc (by simp[z])) e⟩) (fun _ _ e=>e) (fun _ _ _ e=>e) (fun b ps e=>⟨#[],by rw[e]; simp⟩) (fun m hm=>?_) (fun b u e=>?_) I.bare
 ·have e:b=it:=by simpa using hb
  subst e
  exact⟨h1,hL,h2,h3⟩
 ·obtain⟨o,es,ep,ho,r⟩:=hm
  exact⟨o,es,ep,k _ o (Ne.symm hL) ho,r⟩
 ·refine(I.hok b u e).stay (fun c v hc q=>k c v ?_ q) (fun _ q=>q) fun _ _ q=>q
  rcases hc with z | z
  ·rw[z]; exact nit b u e
  ·exact nit c _ z
theorem Inv.tok (I:Inv X pins σ H s) (t:Nat):Inv X pins σ H { s with toks:=t }:=I.un (h':=s.heap) (t':=t) Un.refl I.hok
theorem Inv.kept (I:Inv X pins σ H s) (k:∀ b u,s.heap.get? b=some u->h'.get? b=some u):Inv X pins σ H { s with heap:=h',toks:=t' }:=I.un (Un.kept k) (I.hok.kept k)
theorem Inv.laid {a:Addr}{o:HO} (I:Inv X pins σ H s) (k:∀ b u,s.heap.get? b=some u->h'.get? b=some u) (hp:s.heap.objs.size<=a) (new:ObjOk X.prog X.w (upd H a o) h' a o) :
  Inv X pins σ (upd H a o) { s with heap:=h',toks:=t' }:=I.un (Un.laid k hp (I.hok.fresh hp)) (I.hok.laid k hp new)
theorem Inv.write {x e:Addr}{o:HO} (I:Inv X pins σ H s) (mu:Mut (H x)) (he:e=x∨H e=some (.own x)) (k:∀ b u,b≠e->s.heap.get? b=some u->h'.get? b=some u) (heo:∃ u,h'.get? e=some u)
  (new:ObjOk X.prog X.w (upd H x o) h' x o):Inv X pins σ (upd H x o) { s with heap:=h',toks:=t' }:=I.un (Un.write mu he k heo) (I.hok.write mu he k heo new)
theorem Inv.weak {σ':List (Option V)} (I:Inv X pins σ H s) (hl:σ'.length=σ.length) (w:∀ (i:Nat) v,σ'[i]?=some (some v)->σ[i]?=some (some v)):Inv X pins σ' H s :=
 ⟨I.ok,I.os,I.bare,I.base,let ⟨m,hn,hl'⟩:=I.loc; ⟨m,hn,fun i x v e1 e2 e3=>hl' i x v e1 (w i v e2) e3⟩,I.cell,I.free,I.freeC,I.pin,I.hok,hl.trans I.len⟩
theorem Inv.pins_of {pins':List (Addr×Obj)} (I:Inv X pins σ H s) (h:∀ p ∈ pins',s.heap.get? p.1=some p.2/\H p.1=none/\p.1≠X.env.locals/\p.1 ∉ X.fs/\∀ v,p.2.data≠.cell v):Inv X pins' σ H s :=
 ⟨I.ok,I.os,I.bare,I.base,I.loc,I.cell,I.free,I.freeC,fun p hp=>(wq.mp hp).elim (fun z=>I.pin p (wA _ z)) (h p),I.hok,I.len⟩
theorem jU {N:List Str} (hN:N.Nodup) {i j:Nat}{x:Str} (a:N[i]?=some x) (b:N[j]?=some x):i=j:=by
 obtain⟨h1,e1⟩:=List.getElem?_eq_some_iff.mp a
 obtain⟨h2,e2⟩:=List.getElem?_eq_some_iff.mp b
 exact(List.getElem_inj hN).mp (e1.trans e2.symm)
theorem mM {M:Model}{i:Nat}{x:Str}{v:V}{Q:Unit->Shared->Prop} (I:Inv X pins σ H s) (hN:X.N.Nodup) (hi:X.N[i]?=some x) (hx:Loc X.env.scope x) (r:RelV v u)
  (h:∀ s',Inv X pins (σ.set i (some v)) H s'->(∃ a,Heap.SameBut a s.heap s'.heap/\(a=X.env.locals∨X.env.cells.lookup x=some a))->Q () s') (hf:X.fn x=true∨X.env.scope.names.lookup x=some .local:=by first | exact .inl rfl | exact .inr rfl | assumption):wpAny M A (storeName X.env x u) Q E s:=by
 obtain⟨m,hn,hl⟩:=id I.loc
 have hcls:(X.env.scope.kind == .class || (X.env.scope.kind == .module && X.env.locals != X.env.globals)) = false:=by rw [I.ok.kind]; rfl
 have hiσ:i<σ.length:=by rw[I.len]; exact(List.getElem?_eq_some_iff.mp hi).1
 have cne:=I.cne
 have tracked:∀ {a:Addr}{h':Heap},(∃ o,s.heap.get? a=some o/\H a=none)->Heap.SameBut a s.heap h'->HOk X.prog X.w H h':=fun {a h'} ha hs b ob e=>by
  obtain⟨_,_,hfree⟩:=ha
  refine(I.hok b ob e).stay (fun c w' hc q=>(hs.2 c ?_).trans q) (fun _ q=>q) fun _ _ q=>q
  rintro rfl
  rcases hc with rfl | hc
  ·rw[hfree] at e; cases e
  ·rw[hfree] at hc; cases hc
 rcases hx with hk | hk
 ·refine wpAny_storeName_local hk hn (fun h' hn' hs=>?_) hcls
  obtain⟨oL,_,_,hoL,_⟩:=id hn
  refine h _ ⟨I.ok,I.os,I.bare,⟨fun b o e n hb hx=>?_,fun b o e n hb hx=>?_,I.base.free,fun b o e hx=>?_,I.base.tups,I.base.frzs,I.base.tbls⟩,⟨_,hn',fun j y v' e1 e2 e3=>?_⟩,fun y c e=>?_,I.free,I.freeC,fun p hp=>?_,tracked ⟨oL,hoL,I.free⟩ hs,by simpa using I.len⟩ ⟨_,hs,.inl rfl⟩
  ·exact(hs.2 b (Nat.ne_of_lt (Nat.lt_of_lt_of_le (Heap.lt_size e) I.ok.above))).trans (I.base.keep b o e n hb hx)
  ·obtain⟨sl,e1⟩:=I.base.slot b o e n hb hx
   exact⟨sl,(hs.2 b (Nat.ne_of_lt (Nat.lt_of_lt_of_le (Heap.lt_size e) I.ok.above))).trans e1⟩
  ·obtain⟨o',e1⟩:=I.base.there b o e hx
   exact⟨o',(hs.2 b (Nat.ne_of_lt (Nat.lt_of_lt_of_le (Heap.lt_size e) I.ok.above))).trans e1⟩
  ·by_cases hj:j=i
   ·subst hj
    rw[hi] at e1; cases e1
    rw[List.getElem?_set_self hiσ] at e2
    cases e2
    exact⟨u,r,.inl ⟨hk,by simp⟩⟩
   ·rw[List.getElem?_set_ne (Ne.symm hj)] at e2
    obtain⟨u',r',q⟩:=hl j y v' e1 e2 e3
    refine⟨u',r',?_⟩
    rcases q with ⟨k,e⟩ | ⟨k,c,e,z⟩
    ·refine .inl ⟨k,?_⟩
     have:y≠x:=fun e=>hj (jU hN e1 (e ▸ hi))
     simp[this,e]
    ·exact .inr ⟨k,c,e,z.sameBut hs (cne y c e)⟩
  ·obtain⟨w',z⟩:=I.cell y c e
   exact⟨w',z.sameBut hs (cne y c e)⟩
  ·obtain⟨e,n,ne,nf,d⟩:=I.pin p hp
   exact⟨(hs.2 p.1 ne).trans e,n,ne,nf,d⟩
 ·have hfn:X.fn x=true:=by
   rcases hf with z | z
   ·exact z
   ·rw[z] at hk; cases hk
  obtain⟨c,hc⟩:=I.ok.has x (.inl hk)
  obtain⟨w',z⟩:=I.cell x c hc
  refine wpAny_storeName_cell I.ok.kind hk hc z (fun h' hc' hs=>?_)
  obtain⟨oc,hoc,hocd⟩:=id z
  refine h { s with heap:=h' } ⟨I.ok,I.os,I.bare,⟨fun b o e n hb hx=>?_,fun b o e n hb hx=>?_,I.base.free,fun b o e hx=>?_,I.base.tups,I.base.frzs,I.base.tbls⟩,⟨m,hn.sameBut hs (Ne.symm (cne x c hc)),fun j y v' e1 e2 e3=>?_⟩,fun y c' e=>?_,I.free,I.freeC,fun p hp=>?_,tracked ⟨oc,hoc,I.freeC x c hc⟩ hs,by simpa using I.len⟩ ⟨c,hs,.inr hc⟩
  ·exact(hs.2 b (Nat.ne_of_lt (Nat.lt_of_lt_of_le (Heap.lt_size e) (I.ok.cab x c hfn hc)))).trans (I.base.keep b o e n hb hx)
  ·obtain⟨sl,e1⟩:=I.base.slot b o e n hb hx
   exact⟨sl,(hs.2 b (Nat.ne_of_lt (Nat.lt_of_lt_of_le (Heap.lt_size e) (I.ok.cab x c hfn hc)))).trans e1⟩
  ·obtain⟨o',e1⟩:=I.base.there b o e hx
   exact⟨o',(hs.2 b (Nat.ne_of_lt (Nat.lt_of_lt_of_le (Heap.lt_size e) (I.ok.cab x c hfn hc)))).trans e1⟩
  ·by_cases hj:j=i
   ·subst hj
    rw[hi] at e1; cases e1
    rw[List.getElem?_set_self hiσ] at e2
    cases e2
    exact⟨u,r,.inr ⟨.inl hk,c,hc,hc'⟩⟩
   ·rw[List.getElem?_set_ne (Ne.symm hj)] at e2
    obtain⟨u',r',q⟩:=hl j y v' e1 e2 e3
    refine⟨u',r',?_⟩
    rcases q with q | ⟨k,c',e,z'⟩
    ·exact .inl q
    ·refine .inr ⟨k,c',e,z'.sameBut hs ?_⟩
     rintro rfl
     exact hj (jU hN e1 (I.ok.inj _ _ _ e hc ▸ hi))
  ·by_cases hcc:c'=c
   ·subst hcc; exact⟨_,hc'⟩
   ·obtain⟨w2,z2⟩:=I.cell y c' e
    exact⟨w2,z2.sameBut hs hcc⟩
  ·obtain⟨e,n,ne,nf,d⟩:=I.pin p hp
   refine⟨(hs.2 p.1 ?_).trans e,n,ne,nf,d⟩
   intro q
   rw[q,hoc] at e
   have q':oc=p.2:=Option.some.inj e
   exact d w' (by rw[<- q']; exact hocd)
theorem gq {M:Model}{i:Nat}{x:Str}{v:V}{Q:Unit->Shared->Prop} (I:Inv X pins σ H s) (hN:X.N.Nodup) (hi:X.N[i]?=some x) (hx:Loc X.env.scope x) (r:RelV v u)
  (h:∀ s',Inv X pins (σ.set i (some v)) H s'->Q () s') (hf:X.fn x=true∨X.env.scope.names.lookup x=some .local:=by first | exact .inl rfl | exact .inr rfl | assumption):wpAny M A (storeName X.env x u) Q E s :=
 mM I hN hi hx r (fun s' I' _=>h s' I') hf
theorem Inv.call' {s':Shared}{ch:List Addr} (I:Inv X pins σ H s) (ho:s'.os=s.os) (u:Un (frs X.stack) ch H H' s.heap s'.heap) (hok:HOk X.prog X.w H' s'.heap) (hg:AllBare s'.gens)
  (hch:∀ b ∈ ch,(b ∈ X.ex∨X.s₀.heap.objs.size<=b)/\b≠X.env.locals/\(∀ x c,X.env.cells.lookup x=some c->c≠b)/\∀ p ∈ X.pn++pins,p.1≠b):Inv X pins σ H' s':=by
 obtain⟨h',g',d',t',o'⟩:=s'
 have e:o'=s.os:=ho
 subst e
 exact I.call (g':=g') (t':=t') (d':=d') u hok hg hch
end
noncomputable abbrev XK:=Value->Option Addr->Hp->Prop
noncomputable abbrev St:=List (Option V)
noncomputable abbrev VK:=V->Hp->Prop
noncomputable abbrev TE:=St->Hp->VK->Prop
noncomputable abbrev TT:=St->Hp->(Bool->Hp->Prop)->Prop
noncomputable abbrev TA:=St->Hp->(List V->Hp->Prop)->Prop
structure Ends where
 nx:St->Hp->Prop
 rt:VK
 bk:St->Hp->Prop:=fun _ _=>False
 ct:St->Hp->Prop:=fun _ _=>False
noncomputable abbrev TS:=Ends->St->Hp->Prop
noncomputable def EP (X:Cx) (pins:List (Addr×Obj)) (σ:St) (Q:VK) (u:Value) (s':Shared):Prop:=∃ v H',Inv X pins σ H' s'/\RelV v u/\Q v H'
noncomputable def TP (X:Cx) (pins:List (Addr×Obj)) (σ:St) (Q:Bool->Hp->Prop) (b:Bool) (s':Shared):Prop:=∃ H',Inv X pins σ H' s'/\Q b H'
noncomputable def AP (X:Cx) (pins:List (Addr×Obj)) (σ:St) (Q:List V->Hp->Prop) (us:List Value) (s':Shared):Prop:=∃ vs H',Inv X pins σ H' s'/\Vals vs us/\Q vs H'
noncomputable def SP (X:Cx) (pins:List (Addr×Obj)) (D:Ends) (f:Flow) (s':Shared):Prop :=
 match f with
 | .next=>∃ σ' H',Inv X pins σ' H' s'/\D.nx σ' H'
 | .brk=>∃ σ' H',Inv X pins σ' H' s'/\D.bk σ' H'
 | .cont=>∃ σ' H',Inv X pins σ' H' s'/\D.ct σ' H'
 | .ret u=>∃ v σ' H',Inv X pins σ' H' s'/\RelV v u/\D.rt v H'
noncomputable def PE (X:Cx) (e:Expr) (t:TE):Prop :=
 ∀ (pins:List (Addr×Obj)) (s:Shared) (σ:St) (H:Hp) (Q:VK),Inv X pins σ H s->t σ H Q->wpAny (model X.prog X.w) X.A (eval e X.env) (EP X pins σ Q) X.xe s
noncomputable def PT (X:Cx) (e:Expr) (t:TT):Prop :=
 ∀ (pins:List (Addr×Obj)) (s:Shared) (σ:St) (H:Hp) (Q:Bool->Hp->Prop),Inv X pins σ H s->t σ H Q->wpAny (model X.prog X.w) X.A (isTrue e X.env (eval e X.env)) (TP X pins σ Q) X.xe s
noncomputable def PW (X:Cx) (e:Expr) (t:TT):Prop :=
 ∀ (whole:Sem Value) (pins:List (Addr×Obj)) (s:Shared) (σ:St) (H:Hp) (Q:Bool->Hp->Prop),Inv X pins σ H s->t σ H Q->wpAny (model X.prog X.w) X.A (isTrue e X.env whole) (TP X pins σ Q) X.xe s
variable{e:Expr}
theorem PW.pt {X:Cx}{t:TT} (h:PW X e t):PT X e t:=h _
noncomputable def PA (X:Cx) (es:List Expr) (t:TA):Prop :=
 ∀ (pos:Pos) (pins:List (Addr×Obj)) (s:Shared) (σ:St) (H:Hp) (Q:List V->Hp->Prop),Inv X pins σ H s->t σ H Q->wpAny (model X.prog X.w) X.A (spliced (backTo pos (starEach es X.env))) (AP X pins σ Q) X.xe s
noncomputable def PS (X:Cx) (st:Stmt) (t:TS):Prop :=
 ∀ (pins:List (Addr×Obj)) (s:Shared) (σ:St) (H:Hp) (D:Ends),Inv X pins σ H s->t D σ H->wpAny (model X.prog X.w) X.A (exec st X.env) (SP X pins D) X.xe s
noncomputable def PSs (X:Cx) (st:List Stmt) (t:TS):Prop :=
 ∀ (pins:List (Addr×Obj)) (s:Shared) (σ:St) (H:Hp) (D:Ends),Inv X pins σ H s->t D σ H->wpAny (model X.prog X.w) X.A (execs st X.env) (SP X pins D) X.xe s
variable{s:Shared}
theorem thn {α:Type}{t:Sem α}{Q Q':α->Shared->Prop}{M:Model} (h:wpAny M A t Q E s) (hQ:∀ a s,Q a s->Q' a s):wpAny M A t Q' E s:=wpAny_mono h hQ fun _ _ x=>x
variable{pins:List (Addr×Obj)}{Q:Value->Shared->Prop}{σ:St}{pos:Pos}
section
variable {X:Cx}
inductive TV_ (i:Nat) (σ:St) (H:Hp) (Q:VK):Prop
 | mk (v:V) (h:σ[i]?=some (some v)) (q:Q v H):TV_ i σ H Q
noncomputable def qr (i:Nat):TE:=fun σ H Q=>TV_ i σ H Q
noncomputable def tC (v:V):TE:=fun _ H Q=>Q v H
theorem tX {i:Nat}{x:Str} (hN:X.N[i]?=some x) (hv:Vis X.env.scope x) (hd:(x == ("__debug__" : Str))=false:=by decide) (hcd:(x == ("__classdict__" : Str))=false:=by decide):PE X (.Name x pos) (qr i):=by
 intro pins s σ H Q I h
 obtain⟨v,e,h⟩:=h
 obtain⟨m,hn,hl⟩:=I.loc
 obtain⟨u,r,l⟩:=hl i x v hN e hv
 have fin:EP X pins σ Q u s:=⟨v,H,I,r,h⟩
 rcases l with ⟨hk,hm⟩ | ⟨hk,c,hc,hcell⟩
 ·exact wpAny_Name (wpAny_loadName_local I.ok.kind hk hn hm fin) hd
 ·rcases hk with hk | hk
  ·exact wpAny_Name (wpAny_loadName_cell I.ok.kind hk hc hcell fin) hd
  ·exact wpAny_Name (wpAny_loadName_free I.ok.kind hk hc hcell fin hcd) hd
theorem ag {i j pos}:PE X (.Constant (.int i) j pos) (tC (.int i)):=fun _ _ _ H _ I h=>wpAny_Constant_int ⟨.int i,H,I.tok _,⟨_,U⟩,h⟩
theorem cT {b j pos}:PE X (.Constant (.bool b) j pos) (tC (.bl b)):=fun _ _ _ H _ I h=>Constant_bool ⟨.bl b,H,I,U,h⟩
theorem aY {j pos}:PE X (.Constant .none j pos) (tC .non):=fun _ _ _ H _ I h=>Constant_none ⟨.non,H,I,U,h⟩
theorem az {x j pos}:PE X (.Constant (.str x) j pos) (tC (.str x)):=fun _ _ _ H _ I h=>Calls.Constant_str ⟨.str x,H,I.tok _,⟨_,U⟩,h⟩
noncomputable def Gl (X:Cx) (x:Str):Prop:=X.env.kindOf x=some .globalImplicit
theorem fY {x:Str} (I:Inv X pins σ H s) (hg:Gl X x) (hm:X.mg x=some u) (h:Q u s)
  (hd:(x == ("__debug__" : Str))=false:=by decide):wpAny (model X.prog X.w) X.A (eval (.Name x pos) X.env) Q E s :=
 Calls.Name_function_global I.ok.kind hg (Calls.loadGlobal_global (by rw[I.ok.glob]; exact I.mod.glob.keeps I.bk) hm h) hd
theorem d6 {x:Str} (I:Inv X pins σ H s) (hg:Gl X x) (hm:X.mg x=none) (hv:bootBuiltins x=some u) (h:Q u s)
  (hn:x ≠ "__name__":=by decide) (hd:(x == ("__debug__" : Str))=false:=by decide):wpAny (model X.prog X.w) X.A (eval (.Name x pos) X.env) Q E s:=by
 obtain⟨mb,h1,h2⟩:=I.mod.blt
 exact Calls.Name_function_global I.ok.kind hg (Calls.loadGlobal_builtin (by rw[I.ok.glob]; exact I.mod.glob.keeps I.bk) hm (by rw[I.ok.blt]; exact h1.keeps I.bk) ((h2 x hn).trans hv) h) hd
theorem bX {x:Str}{v:V} (hg:Gl X x) (hm:X.mg x=some u) (r:RelV v u) (hd:(x == ("__debug__" : Str))=false:=by decide):PE X (.Name x pos) (tC v) :=
 fun _ _ _ H _ I h=>fY I hg hm ⟨v,H,I,r,h⟩ hd
theorem fT {x:Str}{v:V} (hg:Gl X x) (hm:X.mg x=none) (hv:bootBuiltins x=some u) (r:RelV v u) (hn:x ≠ "__name__":=by decide) (hd:(x == ("__debug__" : Str))=false:=by decide):PE X (.Name x pos) (tC v) :=
 fun _ _ _ H _ I h=>d6 I hg hm hv ⟨v,H,I,r,h⟩ hn hd
variable {a b:Expr}{ta tb:TE}{pos:Pos}
noncomputable def PC (X:Cx) (op:CmpOp) (a b:Expr) (t:TE):Prop :=
 ∀ (pins:List (Addr×Obj)) (s:Shared) (σ:St) (H:Hp) (Q:VK),Inv X pins σ H s->t σ H Q ->
  wpAny (model X.prog X.w) X.A (eval a X.env) (fun v s₁=>wpAny (model X.prog X.w) X.A (eval b X.env) (fun u s₂=>wpAny (model X.prog X.w) X.A (compareOp op v u) (EP X pins σ Q) X.xe s₂) X.xe s₁) X.xe s
inductive TB_ (Q:Bool->Hp->Prop) (x:V) (H:Hp):Prop
 | mk (k:Bool) (h:x=.bl k) (q:Q k H):TB_ Q x H
noncomputable def tB (t:TE):TT:=fun σ H Q=>t σ H (TB_ Q)
theorem df {op:CmpOp}{t:TE} (h:PC X op a b t) (h1:behindInMarks op b=false:=by first | exact nobehind _ (by decide) (by decide) | rfl):PT X (.Compare a [op] [b] pos) (tB t):=by
 intro pins s σ H Q I hw
 refine wpAny_isTrue_Compare1 (thn (h pins s σ H _ I hw) fun v s1 h1=>thn h1 fun u s2 h2=>thn h2 fun c s3 ⟨x,H1,I1,r1,q1⟩=>?_) h1
 obtain⟨d,rfl,q⟩:=q1
 cases r1
 exact wpAny_truthy_bool ⟨H1,I1,q⟩
theorem bp {t:TE} (h:PE X e t) (he:∀ whole,isTrue e X.env whole=(do let v <- whole; standAt e.pos; holding [v] (truthy v)):=by intro _; rfl):PT X e (tB t):=by
 intro pins s σ H Q I hw
 refine isTrue_plain (thn (h pins s σ H _ I hw) fun v s1 ⟨x,H1,I1,r1,q1⟩=>?_) (he _)
 obtain⟨d,rfl,q⟩:=q1
 cases r1
 exact wpAny_truthy_bool ⟨H1,I1,q⟩
variable {tA tB':TT}{rest:List Expr}
noncomputable def tAnd (t u:TT):TT:=fun σ H Q=>t σ H fun c H1=>if c=true then u σ H1 Q else Q false H1
noncomputable def tOr (t u:TT):TT:=fun σ H Q=>t σ H fun c H1=>if c=true then Q true H1 else u σ H1 Q
noncomputable def tNot (t:TT):TT:=fun σ H Q=>t σ H fun c H1=>Q (!c) H1
theorem cG (ha:PT X a tA):PW X (.BoolOp .And [a] pos) tA:=by
 intro wh pins s σ H Q I h
 refine isTrue_and (thn (ha pins s σ H Q I h) fun c s1 e=>?_)
 cases c with
 | true=>exact isTrue_and_nil e
 | false=>exact e
theorem cc (ha:PT X a tA):PW X (.BoolOp .Or [a] pos) tA:=by
 intro wh pins s σ H Q I h
 refine isTrue_or (thn (ha pins s σ H Q I h) fun c s1 e=>?_)
 cases c with
 | false=>exact isTrue_or_nil e
 | true=>exact e
theorem de (ha:PT X a tA) (hb:PW X (.BoolOp .And (b::rest) pos) tB'):PW X (.BoolOp .And (a::b::rest) pos) (tAnd tA tB'):=by
 intro wh pins s σ H Q I h
 refine isTrue_and (thn (ha pins s σ H _ I h) fun c s1 ⟨H1,I1,q1⟩=>?_)
 cases c with
 | true=>exact hb wh pins s1 σ H1 Q I1 q1
 | false=>exact⟨H1,I1,q1⟩
theorem cY (ha:PT X a tA) (hb:PW X (.BoolOp .Or (b::rest) pos) tB'):PW X (.BoolOp .Or (a::b::rest) pos) (tOr tA tB'):=by
 intro wh pins s σ H Q I h
 refine isTrue_or (thn (ha pins s σ H _ I h) fun c s1 ⟨H1,I1,q1⟩=>?_)
 cases c with
 | true=>exact⟨H1,I1,q1⟩
 | false=>exact hb wh pins s1 σ H1 Q I1 q1
theorem bG (ha:PT X a tA):PT X (.UnaryOp .Not a pos) (tNot tA):=by
 intro pins s σ H Q I h
 exact isTrue_not (ha pins s σ H (fun c H1=>Q (!c) H1) I h)
noncomputable def tAndV (ta tb:TE):TE:=fun σ H Q=>ta σ H fun x H1=>∃ c,x=.bl c/\if c=true then tb σ H1 Q else Q (.bl false) H1
noncomputable def tOrV (ta tb:TE):TE:=fun σ H Q=>ta σ H fun x H1=>∃ c,x=.bl c/\if c=true then Q (.bl true) H1 else tb σ H1 Q
noncomputable def tNotV (ta:TE):TE:=fun σ H Q=>ta σ H fun x H1=>∃ c,x=.bl c/\Q (.bl (!c)) H1
theorem ft {op} {t:TE} (h:PE X a t):PE X (.BoolOp op [a] pos) t:=fun pins s σ H Q I hw=>BoolOp_one (h pins s σ H Q I hw)
theorem gF (ha:PE X a ta) (hb:PE X (.BoolOp .And (b::rest) pos) tb):PE X (.BoolOp .And (a::b::rest) pos) (tAndV ta tb):=by
 intro pins s σ H Q I h
 refine BoolOp_and (thn (ha pins s σ H _ I h) fun v s1 ⟨x,H1,I1,r1,q1⟩=>?_)
 obtain⟨c,rfl,q1⟩:=q1
 cases r1
 refine wpAny_truthy_bool ?_
 cases c with
 | true=>exact hb pins s1 σ H1 Q I1 q1
 | false=>exact⟨.bl false,H1,I1,U,q1⟩
theorem pe_or (ha:PE X a ta) (hb:PE X (.BoolOp .Or (b::rest) pos) tb):PE X (.BoolOp .Or (a::b::rest) pos) (tOrV ta tb):=by
 intro pins s σ H Q I h
 refine BoolOp_or (thn (ha pins s σ H _ I h) fun v s1 ⟨x,H1,I1,r1,q1⟩=>?_)
 obtain⟨c,rfl,q1⟩:=q1
 cases r1
 refine wpAny_truthy_bool ?_
 cases c with
 | false=>exact hb pins s1 σ H1 Q I1 q1
 | true=>exact⟨.bl true,H1,I1,U,q1⟩
theorem tY (ha:PE X a ta):PE X (.UnaryOp .Not a pos) (tNotV ta):=by
 intro pins s σ H Q I h
 refine UnaryOp_ (thn (ha pins s σ H _ I h) fun v s1 ⟨x,H1,I1,r1,q1⟩=>?_)
 obtain⟨c,rfl,q1⟩:=q1
 cases r1
 exact not_of (wpAny_truthy_bool ⟨.bl (!c),H1,I1,U,q1⟩)
noncomputable def tIf (t:TT) (ta tb:TE):TE:=fun σ H Q=>t σ H fun c H1=>if c=true then ta σ H1 Q else tb σ H1 Q
theorem dA {c:Expr} (hc:PT X c tA) (ha:PE X a ta) (hb:PE X b tb):PE X (.IfExp c a b pos) (tIf tA ta tb):=by
 intro pins s σ H Q I h
 refine wpAny_IfExp (thn (hc pins s σ H _ I h) fun d s1 ⟨H1,I1,q1⟩=>?_)
 cases d with
 | true=>exact ha pins s1 σ H1 Q I1 q1
 | false=>exact hb pins s1 σ H1 Q I1 q1
end
noncomputable def SqL (K:PySem.W.Frag) (H:Hp) (a:Addr) (xs:List V):Prop :=
 Rd H a (.lst xs) ∨
  ∃ (o:Obj) (its:Array Value) (n:Nat),K.lookup a=some o/\o.cls=.type "list" /\ o.dict=none/\o.data=.seq its n/\its.size<=sizeLine/\Vals xs its.toList
noncomputable def SqT (K:PySem.W.Frag) (H:Hp) (a:Addr) (xs:List V):Prop :=
 Rd H a (.tup xs) ∨
  ∃ (o:Obj) (its:Array Value) (n:Nat),K.lookup a=some o/\o.cls=.type "tuple" /\ o.data=.seq its n/\its.size<=sizeLine/\Vals xs its.toList
noncomputable def absV:Value->Option V
 | .none=>some .non
 | .bool b=>some (.bl b)
 | .int i _=>some (.int i)
 | .str x _=>some (.str x)
 | .bytes b _=>some (.byt b)
 | .float b _=>some (.flt b)
 | .ref a=>some (.ref a)
 | .type n=>some (.ty n)
 | _=>none
theorem RelV.abs {x:V} (r:RelV x u):absV u=some x:=by
 cases x with
 | non=>cases r; rfl
 | bl _=>cases r; rfl
 | int _=>obtain⟨t,rfl⟩:=r; rfl
 | str _=>obtain⟨t,rfl⟩:=r; rfl
 | byt _=>obtain⟨t,rfl⟩:=r; rfl
 | flt _=>obtain⟨t,rfl⟩:=r; rfl
 | ref _=>cases r; rfl
 | ty _=>cases r; rfl
theorem RelV.inj {x y:V} (r:RelV x u) (q:RelV y u):x=y:=Option.some.inj (r.abs.symm.trans q.abs)
theorem Vals.inj {xs ys:List V} (a:Vals xs us) (b:Vals ys us):xs=ys:=by
 induction a generalizing ys with
 | nil=>cases b; rfl
 | cons r t ih=>
  cases b with
  | cons r' t'=>rw[r.inj r',ih t']
variable{K:PySem.W.Frag}
section
variable {X:Cx}{pins:List (Addr×Obj)}{σ:St}{H:Hp}{s:Shared}{a:Addr}{xs ys:List V}
theorem SqL.of (h:H a=some (.lst xs)):SqL K H a xs:=.inl (.inl h)
theorem SqT.of (h:H a=some (.tup xs)):SqT K H a xs:=.inl (.inl h)
theorem Inv.list (I:Inv X pins σ H s) (h:SqL X.K H a xs):∃ its:List Value,Vals xs its/\PlainL s.heap a its.toArray/\xs.length<=sizeLine:=by
 rcases h with h | ⟨o,its,n,hk,hc,hd,hs,hz,r⟩
 ·obtain⟨z,its,n,r,e⟩:=h.ok I.hok
  exact⟨its,r,⟨_,n,e,U,U,U⟩,z⟩
 ·refine⟨its.toList,r,⟨o,n,I.kIn a o hk,hc,hd,by simpa using hs⟩,?_⟩
  have e:=r.length
  simp only[Array.length_toList] at e
  omega
theorem Inv.tuple (I:Inv X pins σ H s) (h:SqT X.K H a xs):∃ its:List Value,Vals xs its/\IsTup s.heap a its.toArray/\xs.length<=sizeLine:=by
 rcases h with h | ⟨o,its,n,hk,hc,hs,hz,r⟩
 ·obtain⟨z,its,r,p⟩:=h.ok I.hok
  exact⟨its,r,p,z⟩
 ·refine⟨its.toList,r,⟨o,I.kIn a o hk,hc,n,by simpa using hs⟩,?_⟩
  have e:=r.length
  simp only[Array.length_toList] at e
  omega
theorem Inv.list_inj (I:Inv X pins σ H s) (h:SqL X.K H a xs) (h':SqL X.K H a ys):xs=ys:=by
 obtain⟨its,r,⟨o,n,e,_,_,d⟩,_⟩:=I.list h
 obtain⟨its',r',⟨o',n',e',_,_,d'⟩,_⟩:=I.list h'
 rw[e] at e'; cases e'
 rw[d] at d'
 injection d' with d1 _
 have:its=its':=by simpa using congrArg Array.toList d1
 subst this
 exact r.inj r'
theorem Inv.tuple_inj (I:Inv X pins σ H s) (h:SqT X.K H a xs) (h':SqT X.K H a ys):xs=ys:=by
 obtain⟨its,r,⟨o,e,_,n,d⟩,_⟩:=I.tuple h
 obtain⟨its',r',⟨o',e',_,n',d'⟩,_⟩:=I.tuple h'
 rw[e] at e'; cases e'
 rw[d] at d'
 injection d' with d1 _
 have:its=its':=by simpa using congrArg Array.toList d1
 subst this
 exact r.inj r'
end
noncomputable abbrev Cx.wish (X:Cx) (E:Value->Shared->Prop):Cx:={ X with xe:=E }
noncomputable abbrev Cx.nox (X:Cx):Cx:=X.wish fun _ _=>False
theorem Cx.Ok.wish {X:Cx} (ok:X.Ok) (E:Value->Shared->Prop):(X.wish E).Ok :=
 ⟨ok.mod,ok.kind,ok.glob,ok.blt,ok.above,ok.inj,ok.has,ok.cab,ok.hd,ok.frames,ok.stk,ok.exf,ok.bs,ok.bsz,ok.noex,ok.exfs,ok.funs,ok.frf⟩
theorem Cx.Ok.unwish {X:Cx} (ok:(X.wish E).Ok):X.Ok :=
 ⟨ok.mod,ok.kind,ok.glob,ok.blt,ok.above,ok.inj,ok.has,ok.cab,ok.hd,ok.frames,ok.stk,ok.exf,ok.bs,ok.bsz,ok.noex,ok.exfs,ok.funs,ok.frf⟩
section
variable {X:Cx}{pins:List (Addr×Obj)}{σ:St}{H:Hp}{s:Shared}{E:Value->Shared->Prop}
theorem Inv.wish (I:Inv X pins σ H s) (E:Value->Shared->Prop):Inv (X.wish E) pins σ H s:=⟨I.ok.wish E,I.os,I.bare,I.base,I.loc,I.cell,I.free,I.freeC,I.pin,I.hok,I.len⟩
theorem Inv.unwish (I:Inv (X.wish E) pins σ H s):Inv X pins σ H s:=⟨I.ok.unwish,I.os,I.bare,I.base,I.loc,I.cell,I.free,I.freeC,I.pin,I.hok,I.len⟩
theorem SP.unwish {D:Ends}{f:Flow}{s':Shared} (h:SP (X.wish E) pins D f s'):SP X pins D f s':=by
 cases f with
 | next=>obtain⟨σ',H',I,q⟩:=h; exact⟨σ',H',I.unwish,q⟩
 | brk=>obtain⟨σ',H',I,q⟩:=h; exact⟨σ',H',I.unwish,q⟩
 | cont=>obtain⟨σ',H',I,q⟩:=h; exact⟨σ',H',I.unwish,q⟩
 | ret u=>obtain⟨v,σ',H',I,r,q⟩:=h; exact⟨v,σ',H',I.unwish,r,q⟩
theorem PSs.nox {st:List Stmt}{t:TS} (h:PSs X.nox st t):PSs X st t:=fun pins s σ H D I hw=>
 wpAny_mono (h pins s σ H D (I.wish _) hw) (fun _ _ q=>q.unwish) fun _ _ z=>False.elim z
end
section
variable {X:Cx}{st:Stmt}{rest:List Stmt}{t u:TS}{e:Expr}{te:TE}{pos:Pos}
noncomputable def tNext:TS:=fun D σ H=>D.nx σ H
noncomputable def vc (t u:TS):TS:=fun D σ H=>t { D with nx:=u D } σ H
theorem ak:PSs X [] tNext:=fun _ _ σ H _ I h=>wpAny_execs_nil ⟨σ,H,I,h⟩
theorem ab (h1:PS X st t) (h2:PSs X rest u):PSs X (st::rest) (vc t u):=by
 intro pins s σ H D I h
 refine wpAny_execs_cons (thn (h1 pins s σ H { D with nx:=u D } I h) fun f s1 q=>?_)
 cases f with
 | next=>
  obtain⟨σ',H',I',q⟩:=q
  exact h2 pins s1 σ' H' D I' q
 | ret v=>exact q
 | brk=>exact q
 | cont=>exact q
theorem af (h1:PS X st t):PSs X [st] t:=by
 intro pins s σ H D I h
 refine wpAny_execs_cons (thn (h1 pins s σ H D I h) fun f s1 q=>?_)
 cases f with
 | next=>exact wpAny_execs_nil q
 | ret v=>exact q
 | brk=>exact q
 | cont=>exact q
noncomputable def tF:TS:=fun D σ H=>D.bk σ H
theorem oT:PS X (.Break pos) tF:=fun _ _ σ H _ I h=>wpAny_Break ⟨σ,H,I,h⟩
theorem Inv.quiet (I:Inv X pins σ H s):interactive X.env=false:=by simp[interactive,I.ok.kind]
noncomputable def r6 (te:TE):TS:=fun D σ H=>te σ H fun _ H1=>D.nx σ H1
theorem al (he:PE X e te) (hs:swapsWith e none pos.line X.env=pure false:=by rfl):PS X (.Expr e pos) (r6 te):=by
 intro pins s σ H D I h
 exact wpAny_Expr_any (thn (he pins s σ H _ I h) fun v s1 ⟨x,H1,I1,r1,q1⟩=>⟨σ,H1,I1,q1⟩) I.quiet hs
noncomputable def vd (te:TE):TS:=fun D σ H=>te σ H D.rt
theorem ao (he:PE X e te):PS X (.Return (some e) pos) (vd te):=by
 intro pins s σ H D I h
 exact wpAny_Return_some (thn (he pins s σ H _ I h) fun v s1 ⟨x,H1,I1,r1,q1⟩=>⟨x,σ,H1,I1,r1,q1⟩)
noncomputable def tIfS (c:TT) (t u:TS):TS:=fun D σ H=>c σ H fun b H1=>if b=true then t D σ H1 else u D σ H1
theorem av {c:Expr}{a b:List Stmt}{tc:TT} (hc:PT X c tc) (ha:PSs X a t) (hb:PSs X b u):PS X (.If c a b pos) (tIfS tc t u):=by
 intro pins s σ H D I h
 refine wpAny_If (thn (hc pins s σ H _ I h) fun d s1 ⟨H1,I1,q1⟩=>?_)
 cases d with
 | true=>exact ha pins s1 σ H1 D I1 q1
 | false=>exact hb pins s1 σ H1 D I1 q1
noncomputable def tt:TS:=fun _ _ _=>False
theorem aX:PS X st tt:=fun _ _ _ _ _ _ h=>h.elim
end
noncomputable abbrev TG:=V->St->Hp->(St->Hp->Prop)->Prop
noncomputable abbrev TGs:=List V->St->Hp->(St->Hp->Prop)->Prop
noncomputable def PG (X:Cx) (target:Expr) (t:TG):Prop :=
 ∀ (pins:List (Addr×Obj)) (s:Shared) (σ:St) (H:Hp) (v:V) (u:Value) (Q:St->Hp->Prop),Inv X pins σ H s->RelV v u->t v σ H Q ->
  wpAny (model X.prog X.w) X.A (assign target X.env u) (fun _ s'=>∃ σ' H',Inv X pins σ' H' s'/\Q σ' H') X.xe s
noncomputable def PGs (X:Cx) (ts:List Expr) (t:TGs):Prop :=
 ∀ (pins:List (Addr×Obj)) (s:Shared) (σ:St) (H:Hp) (vs:List V) (us:List Value) (Q:St->Hp->Prop),Inv X pins σ H s->Vals vs us->t vs σ H Q ->
  wpAny (model X.prog X.w) X.A (assignInOrder ((assignEach ts X.env).map (·.2)) us) (fun _ s'=>∃ σ' H',Inv X pins σ' H' s'/\Q σ' H') X.xe s
noncomputable abbrev u8:=V->V->V->Hp->(Hp->Prop)->Prop
noncomputable def v6 (X:Cx) (t:u8):Prop :=
 ∀ (pins:List (Addr×Obj)) (s:Shared) (σ:St) (H:Hp) (o i v:V) (ov iv u:Value) (Q:Hp->Prop),Inv X pins σ H s->RelV o ov->RelV i iv->RelV v u->t o i v H Q ->
  wpAny (model X.prog X.w) X.A (setItem ov iv u) (fun _ s'=>∃ H',Inv X pins σ H' s'/\Q H') X.xe s
noncomputable abbrev TIp:=V->V->Hp->VK->Prop
noncomputable def PIp (X:Cx) (op:Operator) (t:TIp):Prop :=
 ∀ (pins:List (Addr×Obj)) (s:Shared) (σ:St) (H:Hp) (x y:V) (v u:Value) (Q:VK),Inv X pins σ H s->RelV x v->RelV y u->t x y H Q ->
  wpAny (model X.prog X.w) X.A (inplaceOp op v u) (EP X pins σ Q) X.xe s
section
variable {X:Cx}{pos:Pos}
noncomputable def pX (i:Nat):TG:=fun v σ H Q=>Q (σ.set i (some v)) H
theorem aj {i:Nat}{x:Str} (hN:X.N.Nodup) (hi:X.N[i]?=some x) (hx:Loc X.env.scope x) (hf:X.fn x=true∨X.env.scope.names.lookup x=some .local:=by first | exact .inl rfl | exact .inr rfl | assumption):PG X (.Name x pos) (pX i):=by
 intro pins s σ H v u Q I r h
 exact wpAny_assign_Name (gq I hN hi hx r (fun s' I'=>⟨_,H,I',h⟩) hf)
noncomputable def gNil:TGs:=fun vs σ H Q=>vs=[]/\Q σ H
inductive GC_ (t:TG) (u:TGs) (vs:List V) (σ:St) (H:Hp) (Q:St->Hp->Prop):Prop
 | mk (v:V) (r:List V) (h:vs=v::r) (q:t v σ H fun σ' H'=>u r σ' H' Q):GC_ t u vs σ H Q
noncomputable def gCons (t:TG) (u:TGs):TGs:=fun vs σ H Q=>GC_ t u vs σ H Q
theorem ba:PGs X [] gNil:=by
 intro pins s σ H vs us Q I r h
 obtain⟨e,h⟩:=h
 subst e
 cases r
 exact assignInOrder_nil ⟨σ,H,I,h⟩
theorem ap {es:List Expr}{t:TG}{u:TGs} (h1:PG X e t) (h2:PGs X es u)
  (hs:(assignEach (e::es) X.env).map (·.2)=assign e X.env::(assignEach es X.env).map (·.2):=by rfl):PGs X (e::es) (gCons t u):=by
 intro pins s σ H vs us Q I r h
 obtain⟨v,vr,e1,h⟩:=h
 subst e1
 cases r with
 | cons r rr=>
  rw[hs]
  refine assignInOrder_cons (thn (h1 pins s σ H _ _ _ I r h) fun _ s1 ⟨σ1,H1,I1,q1⟩=>?_)
  exact h2 pins s1 σ1 H1 _ _ Q I1 rr q1
noncomputable def vW (K:PySem.W.Frag) (n:Nat) (t:TGs):TG:=fun v σ H Q=>∃ a xs,v=.ref a/\SqT K H a xs/\xs.length=n/\t xs σ H Q
theorem bB {es:List Expr}{k:Nat}{t:TGs}{n:Nat} (hc:X.calm=true) (h:PGs X es t)
  (hn:(assignEach es X.env).length=n:=by rfl) (hst:(assignEach es X.env).findIdx? (·.1)=none:=by rfl):PG X (.Tuple es k pos) (vW X.K n t):=by
 intro pins s σ H v u Q I r hw
 obtain⟨a,xs,e1,hq,hl,hw⟩:=hw
 subst e1
 cases r
 obtain⟨its,rv,ht,hz⟩:=I.tuple hq
 refine assign_Tuple_tuple (I.ok.hd hc) ht (by simp[hn,<- hl,rv.length]) hst fun h' hx=>?_
 have I1:Inv X pins σ H { s with heap:=h' }:=I.kept (t':=s.toks) fun b o e=>hx b o (Nat.ne_of_lt (Heap.lt_size e)) e
 exact h pins _ σ H xs _ Q I1 (by simpa using rv) hw
noncomputable def gSub (to ti:TE) (t:u8):TG:=fun v σ H Q=>to σ H fun o H1=>ti σ H1 fun i H2=>t o i v H2 fun H3=>Q σ H3
theorem gB {o i:Expr}{to ti:TE}{t:u8} (ho:PE X o to) (hi:PE X i ti) (hs:v6 X t)
  (ha:∀ v,assign (.Subscript o i pos) X.env v=(do
   let ov <- holding [v] (eval o X.env)
   let iv <- holding [v,ov] (eval i X.env)
   standAt pos
   holding [v,ov,iv] (setItem ov iv v)
   release [v,ov,iv] []):=by intro _; rfl):PG X (.Subscript o i pos) (gSub to ti t):=by
 intro pins s σ H v u Q I r h
 rw[ha]
 refine wpAny_bind (wpAny_holding (thn (ho pins s σ H _ I h) fun ov s1 ⟨x,H1,I1,r1,q1⟩=>?_))
 refine wpAny_bind (wpAny_holding (thn (hi pins s1 σ H1 _ I1 q1) fun iv s2 ⟨y,H2,I2,r2,q2⟩=>?_))
 refine wpAny_bind (wpAny_standAt (wpAny_bind (wpAny_holding (thn (hs pins s2 σ H2 x y v ov iv u _ I2 r1 r2 r q2) fun _ s3 ⟨H3,I3,q3⟩=>?_))))
 exact wpAny_release ⟨σ,H3,I3,q3⟩
noncomputable def tG (te:TE) (g:TG):TS:=fun D σ H=>te σ H fun x H1=>g x σ H1 D.nx
theorem bA {tg e:Expr}{te:TE}{g:TG} (he:PE X e te) (hg:PG X tg g) (hs:swapsWithSole [tg] e pos.line X.env=pure false:=by rfl) (hw:swappedStores [tg] e X.env=pure none:=by rfl)
  (h1:(assignEach [tg] X.env).map (·.2)=[assign tg X.env]:=by rfl):PS X (.Assign [tg] e pos) (tG te g):=by
 intro pins s σ H D I h
 refine wpAny_Assign_stores (thn (he pins s σ H _ I h) fun v s1 ⟨x,H1,I1,r1,q1⟩=>?_) hs hw
 rw[h1]
 exact thn (hg pins s1 σ H1 x v _ I1 r1 q1) fun _ s2 q=>q
theorem aB {i:Nat}{x:Str}{te:TE}{pos':Pos} (hN:X.N.Nodup) (hi:X.N[i]?=some x) (hx:Loc X.env.scope x) (he:PE X e te) (hs:swapsWith e (some (.Name x pos')) pos.line X.env=pure false:=by rfl) (hf:X.fn x=true∨X.env.scope.names.lookup x=some .local:=by first | exact .inl rfl | exact .inr rfl | assumption) :
  PS X (.Assign [.Name x pos'] e pos) (tG te (pX i)):=by
 intro pins s σ H D I h
 refine wpAny_Assign_Name (thn (he pins s σ H _ I h) fun v s1 ⟨y,H1,I1,r1,q1⟩=>?_) hs
 exact gq I1 hN hi hx r1 (fun s2 I2=>⟨_,H1,I2,q1⟩) hf
noncomputable def tAug (i:Nat) (te:TE) (ti:TIp):TS:=fun D σ H=>∃ x,σ[i]?=some (some x)/\te σ H fun y H1=>ti x y H1 fun z H2=>D.nx (σ.set i (some z)) H2
theorem tR {i:Nat}{x:Str}{te:TE}{op:Operator}{ti:TIp}{pos':Pos} (hN:X.N.Nodup) (hi:X.N[i]?=some x) (hx:Loc X.env.scope x) (he:PE X e te) (ho:PIp X op ti) (hf:X.fn x=true∨X.env.scope.names.lookup x=some .local:=by first | exact .inl rfl | exact .inr rfl | assumption) :
  PS X (.AugAssign (.Name x pos') op e pos) (tAug i te ti):=by
 intro pins s σ H D I h
 obtain⟨v,e1,h⟩:=h
 obtain⟨m,hn,hl⟩:=I.loc
 have vis:Vis X.env.scope x:=by rcases hx with k | k; exact .inl k; exact .inr (.inl k)
 obtain⟨u,r,l⟩:=hl i x v hi e1 vis
 refine wpAny_AugAssign_Name ?_
 have go:wpAny (model X.prog X.w) X.A (eval e X.env) (fun w s₂=>wpAny (model X.prog X.w) X.A (inplaceOp op u w) (fun r s₃=>wpAny (model X.prog X.w) X.A (storeName X.env x r) (fun _=>SP X pins D .next) X.xe s₃) X.xe s₂) X.xe s:=by
  refine thn (he pins s σ H _ I h) fun w s1 ⟨y,H1,I1,r1,q1⟩=>?_
  refine thn (ho pins s1 σ H1 v y u w _ I1 r r1 q1) fun z s2 ⟨zv,H2,I2,r2,q2⟩=>?_
  exact gq I2 hN hi hx r2 (fun s3 I3=>⟨_,H2,I3,q2⟩) hf
 rcases l with ⟨hk,hm⟩ | ⟨hk,c,hc,hcell⟩
 ·exact wpAny_loadName_local I.ok.kind hk hn hm go
 ·rcases hk with hk | hk
  ·exact wpAny_loadName_cell I.ok.kind hk hc hcell go
  ·rcases hx with k | k
   ·have:X.env.scope.names.lookup x=some .free:=hk
    rw[k] at this; cases this
   ·have:X.env.scope.names.lookup x=some .free:=hk
    rw[k] at this; cases this
noncomputable def ipI (f:Int->Int->Int):TIp:=fun x y H Q=>∃ i j,x=.int i/\y=.int j/\Q (.int (f i j)) H
theorem uF:PIp X .Add (ipI fun i j=>i+j):=by
 intro pins s σ H x y v u Q I r1 r2 h
 obtain⟨i,j,e1,e2,q⟩:=h
 subst e1; subst e2
 obtain⟨t,rfl⟩:=r1
 obtain⟨t',rfl⟩:=r2
 exact iadd_int ⟨.int _,H,I.tok _,⟨_,U⟩,q⟩
end
variable{tb:TS}
section
variable {X:Cx}{pos:Pos}
noncomputable def n6 (c:TT) (tb:TS):TS:=fun D σ H=>∃ W:Nat->St->Hp->Prop,(∃ m,W m σ H)/\∀ m σ H,W m σ H ->
 c σ H fun b H1=>if b=true then ∃ N:St->Hp->Prop,(∀ σ' H',N σ' H'->∃ m',m'<m/\W m' σ' H')/\tb { D with nx:=N,ct:=N,bk:=D.nx } σ H1 else D.nx σ H1
theorem gA {c:Expr}{body:List Stmt}{tc:TT} (hp:PassesOwn (model X.prog X.w) X.A X.env X.xe) (hc:PT X c tc) (hb:PSs X body tb):PS X (.While c body [] pos) (n6 tc tb):=by
 intro pins s σ H D I h
 obtain⟨W,⟨m0,w0⟩,turn⟩:=h
 refine wpAny_While (codeAny_whileLoop (fun n s'=>∃ σ' H',Inv X pins σ' H' s'/\W n σ' H') ?_ m0 ⟨σ,H,I,w0⟩)
 rintro n s1 ⟨σ1,H1,I1,w1⟩
 refine wpAny_passesOwn hp (thn (hc pins s1 σ1 H1 _ I1 (turn n σ1 H1 w1)) fun b s2 ⟨H2,I2,q2⟩=>?_)
 cases b with
 | true=>
  obtain⟨N,hN,q2⟩:=q2
  rw[if_pos rfl]
  refine wpAny_passesOwn hp (thn (hb pins s2 σ1 H2 _ I2 q2) fun f s3 q3=>?_)
  cases f with
  | next=>
   obtain⟨σ3,H3,I3,n3⟩:=q3
   obtain⟨m',hm,w3⟩:=hN σ3 H3 n3
   exact⟨m',hm,σ3,H3,I3,w3⟩
  | cont=>
   obtain⟨σ3,H3,I3,n3⟩:=q3
   obtain⟨m',hm,w3⟩:=hN σ3 H3 n3
   exact⟨m',hm,σ3,H3,I3,w3⟩
  | brk=>exact q3
  | ret v=>exact q3
 | false=>
  rw[if_neg Bool.false_ne_true]
  exact wpAny_execs_nil ⟨σ1,H2,I2,q2⟩
end
structure It where
 go:Nat->Hp->Prop
 yld:Nat->Hp->V->Hp->Prop
 stop:Nat->Hp->Prop
noncomputable def fg (X:Cx) (pins:List (Addr×Obj)) (H:Hp) (b:Addr):Prop :=
 H b=none/\b≠X.env.locals/\b ∉ X.fs/\(b ∈ X.ex∨X.s₀.heap.objs.size<=b)/\(∀ x c,X.env.cells.lookup x=some c->c≠b)/\∀ p ∈ X.pn++pins,p.1≠b
theorem Inv.fpOk {X:Cx}{H H':Hp}{b:Addr} (I:Inv X pins σ H s) (hb:s.heap.objs.size<=b) (hn:H' b=none):fg X pins H' b:=by
 refine⟨hn,Nat.ne_of_gt (Nat.lt_of_lt_of_le I.lt hb),I.nofs hb,.inr (Nat.le_trans I.sz hb),fun x c e z=>?_,fun p hp z=>?_⟩
 ·obtain⟨v,q⟩:=I.cell x c e
  exact absurd (Nat.lt_of_lt_of_le q.lt (by rw[z]; exact hb)) (Nat.lt_irrefl _)
 ·exact absurd (Nat.lt_of_lt_of_le (Heap.lt_size (I.pin p hp).1) (by rw[z]; exact hb)) (Nat.lt_irrefl _)
structure Turn (P:Program) (w:World) (K:PySem.W.Frag) (tg:Expr) (J:It) (fp:List Addr) (it:Addr) (tn:Nat->Heap->Prop):Prop where
 mem:it ∈ fp
 obj:∀ i h,tn i h->∀ b ∈ fp,∃ o,h.get? b=some o/\∀ v,o.data≠.cell v
 keep:∀ i h h',tn i h->(∀ b ∈ fp,∀ o,h.get? b=some o->h'.get? b=some o)->tn i h'
 item:∀ (X:Cx),X.prog=P->X.w=w->X.K=K->X.calm=true->∀ (i:Nat) (pins:List (Addr×Obj)) (s:Shared) (σ:St) (H:Hp) (E:Value->Shared->Prop),Inv X pins σ H s->(∀ b ∈ fp,fg X pins H b)->tn i s.heap->J.go i H ->
  wpAny (model P w) X.A (pyNext (.ref it)) (fun r s1=>∃ u,r=some u /\
   wpAny (model P w) X.A (letOwnedTupleGo tg (.ref it) u) (fun _ s2=>∃ x H',Inv X pins σ H' s2/\RelV x u/\J.yld i H x H'/\tn (i+1) s2.heap/\∀ b ∈ fp,H' b=none) E s1) E s
 done:∀ (X:Cx),X.prog=P->X.w=w->X.K=K->X.calm=true->∀ (i:Nat) (pins:List (Addr×Obj)) (s:Shared) (σ:St) (H:Hp) (E:Value->Shared->Prop),Inv X pins σ H s->(∀ b ∈ fp,fg X pins H b)->tn i s.heap->J.stop i H ->
  wpAny (model P w) X.A (pyNext (.ref it)) (fun r s1=>r=none/\Inv X pins σ H s1) E s
 self:∀ (A:Around) (i:Nat) (s:Shared) (Q:Value->Shared->Prop) (E:Value->Shared->Prop),tn i s.heap->Q (.ref it) s->wpAny (model P w) A (pyIter (.ref it)) Q E s
noncomputable abbrev TI:=St->Hp->(It->Hp->Prop)->Prop
noncomputable def PIE (X:Cx) (pins:List (Addr×Obj)) (σ:St) (tg:Expr) (R:It->Hp->Prop) (itv:Value) (s2:Shared):Prop :=
 ∃ (it:Addr) (fp:List Addr) (tn:Nat->Heap->Prop) (J:It) (H':Hp),itv=.ref it/\Inv X pins σ H' s2/\Turn X.prog X.w X.K tg J fp it tn/\tn 0 s2.heap/\(∀ b ∈ fp,fg X pins H' b)/\R J H'
noncomputable def PI (X:Cx) (tg iter:Expr) (wi:TI):Prop :=
 ∀ (pins:List (Addr×Obj)) (s:Shared) (σ:St) (H:Hp) (R:It->Hp->Prop),Inv X pins σ H s->wi σ H R ->
  wpAny (model X.prog X.w) X.A (eval iter X.env) (fun v s1=>wpAny (model X.prog X.w) X.A (pyIter v) (PIE X pins σ tg R) X.xe s1) X.xe s
theorem l9 {M : Model}{A : Around}{E : Value->Shared->Prop}{s : Shared}{tg : Expr}{it : Addr}{u : Value}{o : Obj}{n : String}{vs : Array Value}{Q : Unit->Shared->Prop} (ho : s.heap.get? it=some o) (hc : o.cls=.type n) (hd : o.data=.fields vs)
    (hn : ["enumerate", "zip", "dict_itemiterator", "dict_reverseitemiterator", "odict_iterator", "itertools.zip_longest", "itertools.pairwise"].contains n=false) (hQ : Q () s) : wpAny M A (letOwnedTupleGo tg (.ref it) u) Q E s := by
  unfold letOwnedTupleGo
  cases tg <;> first
    | exact wpAny_pure hQ
    | (cases u <;> first
        | exact wpAny_pure hQ
        | (refine wpAny_bind (wpAny_load ho ?_)
           rw[hc, hd]
           show wpAny M A (if (["enumerate", "zip", "dict_itemiterator", "dict_reverseitemiterator", "odict_iterator", "itertools.zip_longest", "itertools.pairwise"].contains n && vs[0]? == some (rawInt _))=true then _ else _) Q E s
           rw[if_neg (by intro h; rw[hn, Bool.false_and] at h; cases h)]
           exact wpAny_pure hQ))
noncomputable def Itl (K:PySem.W.Frag) (a:Addr):It :=
 ⟨fun i H=>∃ xs x,SqL K H a xs/\xs[i]?=some x,fun i H x H'=>H'=H/\∀ xs,SqL K H a xs->xs[i]?=some x,fun i H=>∃ xs,SqL K H a xs/\xs.length<=i⟩
noncomputable def Itt (K:PySem.W.Frag) (a:Addr):It :=
 ⟨fun i H=>∃ xs x,SqT K H a xs/\xs[i]?=some x,fun i H x H'=>H'=H/\∀ xs,SqT K H a xs->xs[i]?=some x,fun i H=>∃ xs,SqT K H a xs/\xs.length<=i⟩
noncomputable def Itr (lo:Int) (n:Nat):It:=⟨fun i _=>i<n,fun i H x H'=>H'=H/\x=.int (lo+i),fun i _=>n<=i⟩
theorem iC {tg:Expr} (a it:Addr):Turn P w K tg (Itl K a) [it] it (fun i h=>h.IsListIter it a i) where
 mem:=by simp
 obj:=fun i h st b hb=>by
  have e:b=it:=by simpa using hb
  subst e
  obtain⟨o,e,c,d⟩:=st
  exact⟨o,e,fun v z=>by rw[d] at z; cases z⟩
 keep:=fun i h h' st k=>st.at fun o e=>k it (by simp) o e
 item:=by
  intro X hP hw hK hc i pins s σ H E I hf st hg
  subst hP hw hK
  obtain⟨xs,x,hq,hx⟩:=hg
  obtain⟨its,rv,p,hz⟩:=I.list hq
  obtain⟨u,hu,ru⟩:=rv.get hx
  obtain⟨f0,f1,f2,f3,f4,f5⟩:=hf it (by simp)
  refine wpAny_pyNext_list_item st p.isList (x:=u) (by simpa using hu) fun h' st' sb=>?_
  have I1:Inv X pins σ H { s with heap:=h' }:=I.turned (t':=s.toks) (fun b o hb e=>(sb.2 b hb).trans e) f0 f1 f3 f4 f5
  obtain⟨o,e,c,d⟩:=id st'
  exact⟨u,U,l9 (s:={ s with heap:=h' }) e c d (by decide) ⟨x,H,I1,ru,⟨U,fun ys hy=>by rw[I.list_inj hy hq]; exact hx⟩,st',fun b hb=>(hf b hb).1⟩⟩
 done:=by
  intro X hP hw hK hc i pins s σ H E I hf st hg
  subst hP hw hK
  obtain⟨xs,hq,hx⟩:=hg
  obtain⟨its,rv,p,hz⟩:=I.list hq
  obtain⟨f0,f1,f2,f3,f4,f5⟩:=hf it (by simp)
  have hl:=rv.length
  exact wpAny_pyNext_list_end (I.ok.hd hc) st p.isList (by simp; omega) fun h' eb=>⟨U,I.turned (t':=s.toks) (fun b o hb e=>eb b o hb e) f0 f1 f3 f4 f5⟩
 self:=fun _ _ _ _ _ st h=>wpAny_pyIter_listiter st h
theorem gf {tg:Expr} (a it:Addr):Turn P w K tg (Itt K a) [it] it (fun i h=>h.IsTupleIter it a i) where
 mem:=by simp
 obj:=fun i h st b hb=>by
  have e:b=it:=by simpa using hb
  subst e
  obtain⟨o,e,c,d⟩:=st
  exact⟨o,e,fun v z=>by rw[d] at z; cases z⟩
 keep:=fun i h h' st k=>st.at fun o e=>k it (by simp) o e
 item:=by
  intro X hP hw hK hc i pins s σ H E I hf st hg
  subst hP hw hK
  obtain⟨xs,x,hq,hx⟩:=hg
  obtain⟨its,rv,p,hz⟩:=I.tuple hq
  obtain⟨u,hu,ru⟩:=rv.get hx
  obtain⟨f0,f1,f2,f3,f4,f5⟩:=hf it (by simp)
  refine wpAny_pyNext_tuple_item st (show s.heap.IsTuple a its.toArray from p) (x:=u) (by simpa using hu) fun h' st' sb=>?_
  have I1:Inv X pins σ H { s with heap:=h' }:=I.turned (t':=s.toks) (fun b o hb e=>(sb.2 b hb).trans e) f0 f1 f3 f4 f5
  obtain⟨o,e,c,d⟩:=id st'
  exact⟨u,U,l9 (s:={ s with heap:=h' }) e c d (by decide) ⟨x,H,I1,ru,⟨U,fun ys hy=>by rw[I.tuple_inj hy hq]; exact hx⟩,st',fun b hb=>(hf b hb).1⟩⟩
 done:=by
  intro X hP hw hK hc i pins s σ H E I hf st hg
  subst hP hw hK
  obtain⟨xs,hq,hx⟩:=hg
  obtain⟨its,rv,p,hz⟩:=I.tuple hq
  obtain⟨f0,f1,f2,f3,f4,f5⟩:=hf it (by simp)
  have hl:=rv.length
  exact wpAny_pyNext_tuple_end (I.ok.hd hc) st (show s.heap.IsTuple a its.toArray from p) (by simp; omega) fun h' eb=>⟨U,I.turned (t':=s.toks) (fun b o hb e=>eb b o hb e) f0 f1 f3 f4 f5⟩
 self:=fun _ _ _ _ _ st h=>wpAny_pyIter_tupleiter st h
theorem kF {tg:Expr} (it:Addr) (lo:Int) (n:Nat):Turn P w K tg (Itr lo n) [it] it (fun i h=>IsRangeIter h it (lo+(i:Nat)*1) ((n:Int) - (i:Nat)) 1) where
 mem:=by simp
 obj:=fun i h st b hb=>by
  have e:b=it:=by simpa using hb
  subst e
  exact⟨_,st,fun v z=>by
   have z':Data.fields _=Data.cell v:=z
   cases z'⟩
 keep:=fun i h h' st k=>k it (by simp) _ st
 item:=by
  intro X hP hw hK hc i pins s σ H E I hf st hg
  subst hP hw hK
  obtain⟨f0,f1,f2,f3,f4,f5⟩:=hf it (by simp)
  have W:=Walks.range (prog:=X.prog) (w:=X.w) (I.ok.hd hc) it lo 1 n
  refine W.item i s _ _ hg st fun v h' tk hv st' kk=>?_
  obtain⟨t,rfl⟩:=hv
  have I1:Inv X pins σ H { s with heap:=h',toks:=tk }:=I.turned (fun b o hb e=>kk b o (by simpa using hb) e) f0 f1 f3 f4 f5
  refine⟨_,U,l9 (s:={ s with heap:=h',toks:=tk }) (n := "range_iterator") st' rfl rfl (by decide) ⟨.int (lo+i),H,I1,⟨t,?_⟩,⟨U,U⟩,st',fun b hb=>(hf b hb).1⟩⟩
  rw[Int.mul_one]
 done:=by
  intro X hP hw hK hc i pins s σ H E I hf st hg
  subst hP hw hK
  obtain⟨f0,f1,f2,f3,f4,f5⟩:=hf it (by simp)
  exact wpAny_pyNext_range_end (I.ok.hd hc) st (by have:n<=i:=hg; omega) fun h' eb=>⟨U,I.turned (t':=s.toks) (fun b o hb e=>eb b o hb e) f0 f1 f3 f4 f5⟩
 self:=fun _ _ _ _ _ st h=>wpAny_pyIter_rangeiter st h
section
variable {X:Cx}{tg:Expr}
noncomputable def iList (K:PySem.W.Frag) (tl:TE):TI:=fun σ H R=>tl σ H fun x H1=>∃ a,x=.ref a/\(∃ xs,SqL K H1 a xs)/\R (Itl K a) H1
noncomputable def iTup (K:PySem.W.Frag) (tl:TE):TI:=fun σ H R=>tl σ H fun x H1=>∃ a,x=.ref a/\(∃ xs,SqT K H1 a xs)/\R (Itt K a) H1
theorem bW {l:Expr}{tl:TE} (hl:PE X l tl):PI X tg l (iList X.K tl):=by
 intro pins s σ H R I h
 refine thn (hl pins s σ H _ I h) fun v s1 ⟨x,H1,I1,r1,q1⟩=>?_
 obtain⟨a,e,⟨xs,hq⟩,q⟩:=q1
 subst e
 cases r1
 obtain⟨its,rv,p,hz⟩:=I1.list hq
 refine wpAny_pyIter_list p.isList ?_
 refine⟨s1.heap.objs.size,[s1.heap.objs.size],_,_,H1,U,I1.kept (t':=s1.toks) fun b o e=>Heap.get?_push_of_some _ e,iC a _,⟨_,Heap.get?_push_size _ rfl,U,U⟩,fun b hb=>?_,q⟩
 have e:b=s1.heap.objs.size:=by simpa using hb
 subst e
 exact I1.fpOk (Nat.le_refl _) (I1.hok.fresh (Nat.le_refl _))
theorem tU {l:Expr}{tl:TE} (hl:PE X l tl):PI X tg l (iTup X.K tl):=by
 intro pins s σ H R I h
 refine thn (hl pins s σ H _ I h) fun v s1 ⟨x,H1,I1,r1,q1⟩=>?_
 obtain⟨a,e,⟨xs,hq⟩,q⟩:=q1
 subst e
 cases r1
 obtain⟨its,rv,p,hz⟩:=I1.tuple hq
 refine wpAny_pyIter_tuple (show s1.heap.IsTuple a its.toArray from p) ?_
 refine⟨s1.heap.objs.size,[s1.heap.objs.size],_,_,H1,U,I1.kept (t':=s1.toks) fun b o e=>Heap.get?_push_of_some _ e,gf a _,⟨_,Heap.get?_push_size _ rfl,U,U⟩,fun b hb=>?_,q⟩
 have e:b=s1.heap.objs.size:=by simpa using hb
 subst e
 exact I1.fpOk (Nat.le_refl _) (I1.hok.fresh (Nat.le_refl _))
theorem jK {R:It->Hp->Prop}{lo hi:Int}{t u v:Tok}{tk:Nat} (I:Inv X pins σ H s) (h1:-(2 ^ 62)<=lo) (h2:lo<2 ^ 62) (h3:-(2 ^ 62)<=hi) (h4:hi<2 ^ 62)
  (q:R (Itr lo (hi - lo).toNat) H):wpAny (model X.prog X.w) X.A (pyIter (.ref s.heap.objs.size)) (PIE X pins σ tg R) E { s with heap:=s.heap.push { cls:=.type "range",data:=.fields #[.int lo t,.int hi u,.int 1 v] },toks:=tk }:=by
 refine wpAny_pyIter_range (IsRange.new ..) (small_one h1 h2 h3 h4) ?_
 have I1:Inv X pins σ H { s with heap:=s.heap.push { cls:=.type "range",data:=.fields #[.int lo t,.int hi u,.int 1 v] },toks:=tk }:=I.kept fun b o e=>Heap.get?_push_of_some _ e
 refine⟨(s.heap.push { cls:=.type "range",data:=.fields #[.int lo t,.int hi u,.int 1 v] }).objs.size,[(s.heap.push { cls:=.type "range",data:=.fields #[.int lo t,.int hi u,.int 1 v] }).objs.size],_,_,H,U,
  I1.kept (t':=tk) fun b o e=>Heap.get?_push_of_some _ e,kF _ lo (hi - lo).toNat,?_,fun b hb=>?_,q⟩
 ·have e1:lo+((0:Nat):Int)*1=lo:=by simp
  have e2:(((hi - lo).toNat:Nat):Int) - ((0:Nat):Int)=Builtin.Range.rangeSize lo hi 1:=by rw[rangeSize_one]; split <;> omega
  show IsRangeIter _ _ (lo+((0:Nat):Int)*1) ((((hi - lo).toNat:Nat):Int) - ((0:Nat):Int)) 1
  rw[e1,e2]
  exact Heap.get?_push_size _ rfl
 ·have e:b=(s.heap.push { cls:=.type "range",data:=.fields #[.int lo t,.int hi u,.int 1 v] }).objs.size:=by simpa using hb
  subst e
  exact I1.fpOk (Nat.le_refl _) (I1.hok.fresh (Nat.le_refl _))
noncomputable def iRng1 (ta:TA):TI:=fun σ H R=>ta σ H fun vs H1=>∃ j:Int,vs=[.int j]/\-(2 ^ 62)<=j/\j<2 ^ 62/\R (Itr 0 j.toNat) H1
noncomputable def iRng2 (ta:TA):TI:=fun σ H R=>ta σ H fun vs H1=>∃ i j:Int,vs=[.int i,.int j]/\(-(2 ^ 62)<=i/\i<2 ^ 62/\-(2 ^ 62)<=j/\j<2 ^ 62)/\R (Itr i (j - i).toNat) H1
theorem bP {a:Expr}{ta:TA}{p pos:Pos} (hg:Gl X "range") (hm:X.mg "range" = none) (ha:PA X [a] ta) (hs:starEach [a] X.env=[(false,eval a X.env)]:=by rfl):PI X tg (.Call (.Name "range" p) [a] [] pos) (iRng1 ta):=by
 intro pins s σ H R I h
 refine Call_ (d6 I hg hm boot_range (PyProof.Rows.callWith_type1 (thn (ha pos pins s σ H _ I h) fun us s1 ⟨vs,H1,I1,r1,q1⟩=>?_) hs rfl))
 obtain⟨j,e,q1,q2,q⟩:=q1
 subst e
 cases r1 with
 | cons r rr=>
  cases rr
  obtain⟨t,rfl⟩:=r
  exact call_range_1 (jK I1 (by omega) (by omega) q1 q2 (by simpa using q))
theorem mV {a b:Expr}{ta:TA}{p pos:Pos} (hg:Gl X "range") (hm:X.mg "range" = none) (ha:PA X [a,b] ta) (hs:starEach [a,b] X.env=[(false,eval a X.env),(false,eval b X.env)]:=by rfl) (hs2:starEach [b] X.env=[(false,eval b X.env)]:=by rfl) :
  PI X tg (.Call (.Name "range" p) [a,b] [] pos) (iRng2 ta):=by
 intro pins s σ H R I h
 refine Call_ (d6 I hg hm boot_range (PyProof.Rows.callWith_type1 (thn (ha pos pins s σ H _ I h) fun us s1 ⟨vs,H1,I1,r1,q1⟩=>?_) (by rw[hs,hs2]) (by rw[hs2]; rfl)))
 obtain⟨i,j,e,⟨q1,q2,q3,q4⟩,q⟩:=q1
 subst e
 cases r1 with
 | cons r rr=>
  cases rr with
  | cons r' rr=>
   cases rr
   obtain⟨t,rfl⟩:=r
   obtain⟨t',rfl⟩:=r'
   exact call_range_2 (jK I1 q1 q2 q3 q4 q)
noncomputable def tFor (wi:TI) (g:TG) (tb:TS):TS:=fun D σ H=>wi σ H fun J H1=>∃ W:Nat->Nat->St->Hp->Prop,(∃ m,W 0 m σ H1)/\∀ i m σ H,W i m σ H ->
 (J.stop i H/\D.nx σ H)∨(J.go i H/\∃ N:St->Hp->Prop,(∀ σ' H',N σ' H'->∃ m',m'<m/\W (i+1) m' σ' H')/\∀ x H',J.yld i H x H'->g x σ H' fun σ2 H2=>tb { D with nx:=N,ct:=N,bk:=D.nx } σ2 H2)
noncomputable def fq (fp:List Addr) (h:Heap):List (Addr×Obj):=fp.filterMap fun b=>(h.get? b).map fun o=>(b,o)
theorem bV {fp:List Addr}{b:Addr}{o:Obj} (hb:b ∈ fp) (e:h.get? b=some o):(b,o) ∈ fq fp h:=List.mem_filterMap.mpr ⟨b,hb,by rw[e]; rfl⟩
theorem mW {fp:List Addr}{p:Addr×Obj} (hp:p ∈ fq fp h):p.1 ∈ fp/\h.get? p.1=some p.2:=by
 obtain⟨b,hb,e⟩:=List.mem_filterMap.mp hp
 cases q:h.get? b with
 | none=>rw[q] at e; cases e
 | some o=>
  rw[q] at e
  have e':(b,o)=p:=Option.some.inj e
  subst e'
  exact⟨hb,q⟩
theorem Inv.pinned {fp:List Addr} (I:Inv X pins σ H s) (hf:∀ b ∈ fp,fg X pins H b) (ho:∀ b ∈ fp,∃ o,s.heap.get? b=some o/\∀ v,o.data≠.cell v):Inv X (pins++fq fp s.heap) σ H s :=
 I.pins_of fun p hp=>(wq.mp hp).elim (fun z=>I.pin p (wb _ z)) fun z=>by
  obtain⟨hb,e⟩:=mW z
  obtain⟨f0,f1,f2,_⟩:=hf p.1 hb
  obtain⟨o,e',d⟩:=ho p.1 hb
  rw[e] at e'; cases e'
  exact⟨e,f0,f1,f2,d⟩
theorem Inv.unpinned {pins pl:List (Addr×Obj)} (I:Inv X (pins++pl) σ H s):Inv X pins σ H s:=I.pins_of fun p hp=>I.pin p (wb _ (wA _ hp))
theorem bm {iter:Expr}{body:List Stmt}{wi:TI}{g:TG} (hp:PassesOwn (model X.prog X.w) X.A X.env X.xe) (hc:X.calm=true) (hi:PI X tg iter wi) (hg:PG X tg g) (hb:PSs X body tb)
  (hs:∀ x,foldedSetIterable iter X.env x=pure x:=by intro _; rfl):PS X (.For tg iter body [] pos) (tFor wi g tb):=by
 intro pins s σ H D I h
 refine wpAny_For (thn (hi pins s σ H _ I h) fun v s1 h1=>thn h1 fun itv s2 h2=>?_) hs
 obtain⟨it,fp,tn,J,H2,e,I2,T,st2,f2,W,⟨m0,w0⟩,turn⟩:=h2
 subst e
 have stat:∀ {H':Hp},(∀ b ∈ fp,H' b=none)->∀ b ∈ fp,fg X pins H' b:=fun hn b hb=>⟨hn b hb,(f2 b hb).2⟩
 refine codeAny_forLoop_any (fun n s'=>∃ i σ' H',Inv X pins σ' H' s'/\tn i s'.heap/\(∀ b ∈ fp,H' b=none)/\W i n σ' H') ?_ m0 ⟨0,σ,H2,I2,st2,fun b hb=>(f2 b hb).1,w0⟩
 rintro n s3 ⟨i,σ3,H3,I3,st3,fr3,w3⟩
 rcases turn i n σ3 H3 w3 with ⟨stop,qn⟩ | ⟨go,N,hN,step⟩
 ·refine wpAny_passesOwn hp (thn (T.done X rfl rfl rfl hc i pins s3 σ3 H3 X.xe I3 (stat fr3) st3 stop) fun r s4 ⟨hr,I4⟩=>?_)
  subst hr
  exact wpAny_execs_nil ⟨σ3,H3,I4,qn⟩
 ·refine wpAny_passesOwn hp (thn (T.item X rfl rfl rfl hc i pins s3 σ3 H3 X.xe I3 (stat fr3) st3 go) fun r s4 ⟨u,hr,h4⟩=>?_)
  subst hr
  refine wpAny_passesOwn hp (thn h4 fun _ s5 ⟨x,H5,I5,r5,y5,st5,fr5⟩=>?_)
  have I5':=I5.pinned (stat fr5) (T.obj _ _ st5)
  refine wpAny_passesOwn hp (thn (hg _ s5 σ3 H5 x u _ I5' r5 (step x H5 y5)) fun _ s6 ⟨σ6,H6,I6,q6⟩=>?_)
  refine wpAny_passesOwn hp (thn (hb _ s6 σ6 H6 _ I6 q6) fun f s7 q7=>?_)
  have again:∀ {σ7:St}{H7:Hp},Inv X (pins++fq fp s5.heap) σ7 H7 s7->N σ7 H7->∃ m,m<n/\∃ i σ' H',Inv X pins σ' H' s7/\tn i s7.heap/\(∀ b ∈ fp,H' b=none)/\W i m σ' H':=fun {σ7 H7} I7 n7=>by
   obtain⟨m',hm,w7⟩:=hN σ7 H7 n7
   refine⟨m',hm,i+1,σ7,H7,I7.unpinned,T.keep _ _ _ st5 fun b hb o e=>(I7.pin (b,o) (wb _ (wb _ (bV hb e)))).1,fun b hb=>?_,w7⟩
   obtain⟨o,e,d⟩:=T.obj _ _ st5 b hb
   exact(I7.pin (b,o) (wb _ (wb _ (bV hb e)))).2.1
  cases f with
  | next=>obtain⟨σ7,H7,I7,n7⟩:=q7; exact again I7 n7
  | cont=>obtain⟨σ7,H7,I7,n7⟩:=q7; exact again I7 n7
  | brk=>obtain⟨σ7,H7,I7,q7⟩:=q7; exact⟨σ7,H7,I7.unpinned,q7⟩
  | ret v=>obtain⟨x7,σ7,H7,I7,r7,q7⟩:=q7; exact⟨x7,σ7,H7,I7.unpinned,r7,q7⟩
end
theorem cA {K:PySem.W.Frag}{a:Addr}{xs:List V}{g:TG}{D:Ends} (Pv:Nat->St->Hp->Prop) (h0:Pv 0 σ H) (hl:∀ i σ H,i<=xs.length->Pv i σ H->SqL K H a xs)
  (hs:∀ i x σ H,xs[i]?=some x->Pv i σ H->g x σ H fun σ2 H2=>tb { D with nx:=Pv (i+1),ct:=Pv (i+1),bk:=D.nx } σ2 H2) (hd:∀ σ H,Pv xs.length σ H->D.nx σ H) :
  ∃ W:Nat->Nat->St->Hp->Prop,(∃ m,W 0 m σ H)/\∀ i m σ H,W i m σ H ->
   ((Itl K a).stop i H/\D.nx σ H)∨((Itl K a).go i H/\∃ N:St->Hp->Prop,(∀ σ' H',N σ' H'->∃ m',m'<m/\W (i+1) m' σ' H')/\∀ x H',(Itl K a).yld i H x H'->g x σ H' fun σ2 H2=>tb { D with nx:=N,ct:=N,bk:=D.nx } σ2 H2):=by
 refine⟨fun i m σ H=>m=xs.length - i/\i<=xs.length/\Pv i σ H,⟨xs.length,by simp,Nat.zero_le _,h0⟩,?_⟩
 rintro i m σ H ⟨rfl,hi,p⟩
 have q:=hl i σ H hi p
 by_cases hlt:i<xs.length
 ·refine .inr ⟨⟨xs,xs[i],q,by simp[hlt]⟩,Pv (i+1),fun σ' H' p'=>⟨xs.length - (i+1),by omega,U,hlt,p'⟩,fun x H' y=>?_⟩
  obtain⟨e,y⟩:=y
  subst e
  exact hs i x σ _ (y xs q) p
 ·have e:i=xs.length:=by omega
  subst e
  exact .inl ⟨⟨xs,q,Nat.le_refl _⟩,hd σ H p⟩
theorem rh {a:Addr}{xs:List V}{g:TG}{D:Ends} (Pv:Nat->St->Hp->Prop) (h0:Pv 0 σ H) (hl:∀ i σ H,i<=xs.length->Pv i σ H->SqT K H a xs)
  (hs:∀ i x σ H,xs[i]?=some x->Pv i σ H->g x σ H fun σ2 H2=>tb { D with nx:=Pv (i+1),ct:=Pv (i+1),bk:=D.nx } σ2 H2) (hd:∀ σ H,Pv xs.length σ H->D.nx σ H) :
  ∃ W:Nat->Nat->St->Hp->Prop,(∃ m,W 0 m σ H)/\∀ i m σ H,W i m σ H ->
   ((Itt K a).stop i H/\D.nx σ H)∨((Itt K a).go i H/\∃ N:St->Hp->Prop,(∀ σ' H',N σ' H'->∃ m',m'<m/\W (i+1) m' σ' H')/\∀ x H',(Itt K a).yld i H x H'->g x σ H' fun σ2 H2=>tb { D with nx:=N,ct:=N,bk:=D.nx } σ2 H2):=by
 refine⟨fun i m σ H=>m=xs.length - i/\i<=xs.length/\Pv i σ H,⟨xs.length,by simp,Nat.zero_le _,h0⟩,?_⟩
 rintro i m σ H ⟨rfl,hi,p⟩
 have q:=hl i σ H hi p
 by_cases hlt:i<xs.length
 ·refine .inr ⟨⟨xs,xs[i],q,by simp[hlt]⟩,Pv (i+1),fun σ' H' p'=>⟨xs.length - (i+1),by omega,U,hlt,p'⟩,fun x H' y=>?_⟩
  obtain⟨e,y⟩:=y
  subst e
  exact hs i x σ _ (y xs q) p
 ·have e:i=xs.length:=by omega
  subst e
  exact .inl ⟨⟨xs,q,Nat.le_refl _⟩,hd σ H p⟩
theorem bF {lo:Int}{n:Nat}{g:TG}{D:Ends} (Pv:Nat->St->Hp->Prop) (h0:Pv 0 σ H)
  (hs:∀ i σ H,i<n->Pv i σ H->g (.int (lo+i)) σ H fun σ2 H2=>tb { D with nx:=Pv (i+1),ct:=Pv (i+1),bk:=D.nx } σ2 H2) (hd:∀ σ H,Pv n σ H->D.nx σ H) :
  ∃ W:Nat->Nat->St->Hp->Prop,(∃ m,W 0 m σ H)/\∀ i m σ H,W i m σ H ->
   ((Itr lo n).stop i H/\D.nx σ H)∨((Itr lo n).go i H/\∃ N:St->Hp->Prop,(∀ σ' H',N σ' H'->∃ m',m'<m/\W (i+1) m' σ' H')/\∀ x H',(Itr lo n).yld i H x H'->g x σ H' fun σ2 H2=>tb { D with nx:=N,ct:=N,bk:=D.nx } σ2 H2):=by
 refine⟨fun i m σ H=>m=n - i/\i<=n/\Pv i σ H,⟨n,by simp,Nat.zero_le _,h0⟩,?_⟩
 rintro i m σ H ⟨rfl,hi,p⟩
 by_cases hlt:i<n
 ·refine .inr ⟨hlt,Pv (i+1),fun σ' H' p'=>⟨n - (i+1),by omega,U,hlt,p'⟩,fun x H' y=>?_⟩
  obtain⟨e,y⟩:=y
  subst e y
  exact hs i σ _ hlt p
 ·have e:i=n:=by omega
  subst e
  exact .inl ⟨Nat.le_refl _,hd σ H p⟩
theorem nR {c:TT}{D:Ends} (Pv:St->Hp->Prop) (μ:St->Hp->Nat) (h0:Pv σ H)
  (hs:∀ σ H,Pv σ H->c σ H fun b H1=>if b=true then tb { D with nx:=fun σ' H'=>Pv σ' H'/\μ σ' H'<μ σ H,ct:=fun σ' H'=>Pv σ' H'/\μ σ' H'<μ σ H,bk:=D.nx } σ H1 else D.nx σ H1)
  (mono:∀ σ H Q Q',(∀ b H1,Q b H1->Q' b H1)->c σ H Q->c σ H Q'):n6 c tb D σ H:=by
 refine⟨fun m σ H=>m=μ σ H/\Pv σ H,⟨_,U,h0⟩,?_⟩
 rintro m σ H ⟨rfl,p⟩
 refine mono σ H _ _ (fun b H1 q=>?_) (hs σ H p)
 cases b with
 | true=>exact⟨_,fun σ' H' ⟨p',l⟩=>⟨_,l,U,p'⟩,q⟩
 | false=>exact q
noncomputable abbrev R2:=V->V->Hp->VK->Prop
noncomputable def OpR (X:Cx) (f:Value->Value->Sem Value) (r:R2):Prop :=
 ∀ (pins:List (Addr×Obj)) (s:Shared) (σ:St) (H:Hp) (x y:V) (v u:Value) (Q:VK),Inv X pins σ H s->RelV x v->RelV y u->r x y H Q ->
  wpAny (model X.prog X.w) X.A (f v u) (EP X pins σ Q) X.xe s
noncomputable def UnR (X:Cx) (f:Value->Sem Value) (r:V->Hp->VK->Prop):Prop :=
 ∀ (pins:List (Addr×Obj)) (s:Shared) (σ:St) (H:Hp) (x:V) (v:Value) (Q:VK),Inv X pins σ H s->RelV x v->r x H Q ->
  wpAny (model X.prog X.w) X.A (f v) (EP X pins σ Q) X.xe s
noncomputable def cD (X:Cx) (f:Value) (r:List V->Hp->VK->Prop):Prop :=
 ∀ (pins:List (Addr×Obj)) (s:Shared) (σ:St) (H:Hp) (xs:List V) (us:List Value) (Q:VK),Inv X pins σ H s->Vals xs us->r xs H Q ->
  wpAny (model X.prog X.w) X.A (call f us) (EP X pins σ Q) X.xe s
noncomputable def TruR (X:Cx) (r:V->Hp->(Bool->Hp->Prop)->Prop):Prop :=
 ∀ (pins:List (Addr×Obj)) (s:Shared) (σ:St) (H:Hp) (x:V) (v:Value) (Q:Bool->Hp->Prop),Inv X pins σ H s->RelV x v->r x H Q ->
  wpAny (model X.prog X.w) X.A (truthy v) (TP X pins σ Q) X.xe s
noncomputable def tOp (r:R2) (ta tb:TE):TE:=fun σ H Q=>ta σ H fun x H1=>tb σ H1 fun y H2=>r x y H2 Q
noncomputable def tUn (r:V->Hp->VK->Prop) (ta:TE):TE:=fun σ H Q=>ta σ H fun x H1=>r x H1 Q
inductive RI_ (C:Int->Int->Prop) (g:Int->Int->V) (x y:V) (H:Hp) (Q:VK):Prop
 | mk (i j:Int) (h1:x=.int i) (h2:y=.int j) (c:C i j) (q:Q (g i j) H):RI_ C g x y H Q
noncomputable def rI (C:Int->Int->Prop) (g:Int->Int->V):R2:=fun x y H Q=>RI_ C g x y H Q
inductive RJ_ (g:Int->Int->V) (x y:V) (H:Hp) (Q:VK):Prop
 | mk (i j:Int) (h1:x=.int i) (h2:y=.int j) (q:Q (g i j) H):RJ_ g x y H Q
noncomputable def rI0 (g:Int->Int->V):R2:=fun x y H Q=>RJ_ g x y H Q
noncomputable def rU (g:Int->V):V->Hp->VK->Prop:=fun x H Q=>∃ i,x=.int i/\Q (g i) H
variable{f:Value->Value->Sem Value}
section
variable {X:Cx}{a b c:Expr}{ta tb tc:TE}{pos:Pos}
theorem uP (ha:PE X a ta) (hb:PE X b tb) {R:V->V->Hp->Prop} (I:Inv X pins σ H s)
  (h:ta σ H fun x H1=>tb σ H1 fun y H2=>R x y H2) {Q:Value->Shared->Prop}{f:Value->Value->Sem Value}
  (hf:∀ v u s2 x y H2,Inv X pins σ H2 s2->RelV x v->RelV y u->R x y H2->wpAny (model X.prog X.w) X.A (f v u) Q X.xe s2) :
  wpAny (model X.prog X.w) X.A (eval a X.env) (fun v s₁=>wpAny (model X.prog X.w) X.A (eval b X.env) (fun u s₂=>wpAny (model X.prog X.w) X.A (f v u) Q X.xe s₂) X.xe s₁) X.xe s:=by
 refine thn (ha pins s σ H _ I h) fun v s1 ⟨x,H1,I1,r1,q1⟩=>?_
 refine thn (hb pins s1 σ H1 _ I1 q1) fun u s2 ⟨y,H2,I2,r2,q2⟩=>?_
 exact hf v u s2 x y H2 I2 r1 r2 q2
theorem aC {op:Operator}{r:R2} (ho:OpR X (binaryOp op) r) (ha:PE X a ta) (hb:PE X b tb):PE X (.BinOp a op b pos) (tOp r ta tb):=by
 intro pins s σ H Q I h
 exact wpAny_BinOp (uP ha hb I h fun v u s2 x y H2 I2 rx ry q=>ho pins s2 σ H2 x y v u Q I2 rx ry q)
theorem sK {op:UnaryOp}{r:V->Hp->VK->Prop} (ho:UnR X (unaryOp op) r) (ha:PE X a ta):PE X (.UnaryOp op a pos) (tUn r ta):=by
 intro pins s σ H Q I h
 exact UnaryOp_ (thn (ha pins s σ H _ I h) fun v s1 ⟨x,H1,I1,r1,q1⟩=>ho pins s1 σ H1 x v Q I1 r1 q1)
theorem opI {C:Int->Int->Prop}{g:Int->Int->Int}
  (rule:∀ (i j:Int) (t u:Tok) (s:Shared) (Q:Value->Shared->Prop) (E:Value->Shared->Prop),C i j->Q (.int (g i j) s.toks) { s with toks:=s.toks+1 }->wpAny (model X.prog X.w) X.A (f (.int i t) (.int j u)) Q E s) :
  OpR X f (rI C fun i j=>.int (g i j)):=by
 intro pins s σ H x y v u Q I rx ry h
 obtain⟨i,j,rfl,rfl,hc,q⟩:=h
 obtain⟨t,rfl⟩:=rx
 obtain⟨t',rfl⟩:=ry
 exact rule i j t t' s _ _ hc ⟨.int (g i j),H,I.tok _,⟨_,U⟩,q⟩
theorem vT {g:Int->Int->Int}
  (rule:∀ (i j:Int) (t u:Tok) (s:Shared) (Q:Value->Shared->Prop) (E:Value->Shared->Prop),Q (.int (g i j) s.toks) { s with toks:=s.toks+1 }->wpAny (model X.prog X.w) X.A (f (.int i t) (.int j u)) Q E s) :
  OpR X f (rI0 fun i j=>.int (g i j)):=by
 intro pins s σ H x y v u Q I rx ry h
 obtain⟨i,j,rfl,rfl,q⟩:=h
 obtain⟨t,rfl⟩:=rx
 obtain⟨t',rfl⟩:=ry
 exact rule i j t t' s _ _ ⟨.int (g i j),H,I.tok _,⟨_,U⟩,q⟩
theorem t9 {g:Int->Int->Bool}
  (rule:∀ (i j:Int) (t u:Tok) (s:Shared) (Q:Value->Shared->Prop) (E:Value->Shared->Prop),Q (.bool (g i j)) s->wpAny (model X.prog X.w) X.A (f (.int i t) (.int j u)) Q E s) :
  OpR X f (rI0 fun i j=>.bl (g i j)):=by
 intro pins s σ H x y v u Q I rx ry h
 obtain⟨i,j,rfl,rfl,q⟩:=h
 obtain⟨t,rfl⟩:=rx
 obtain⟨t',rfl⟩:=ry
 exact rule i j t t' s _ _ ⟨.bl (g i j),H,I,U,q⟩
noncomputable def CDiv (i j:Int):Prop:=0<j/\j<1073741824
noncomputable def CPow (i j:Int):Prop:=0<=j/\j<=1000000/\i.natAbs<2 ^ 64
noncomputable def CMul (i j:Int):Prop:=(-(2 ^ 64)<i/\i<2 ^ 64)∨(-(2 ^ 64)<j/\j<2 ^ 64)
theorem CMul.ok {i j:Int} (h:CMul i j):IntMulOk i j:=by
 rcases h with ⟨h1,h2⟩ | ⟨h1,h2⟩
 ·exact .of_left (intBits_le_64 h1 h2)
 ·exact .of_right (intBits_le_64 h1 h2)
theorem bh:OpR X (binaryOp .Add) (rI0 fun i j=>.int (i+j)):=vT fun _ _ _ _ _ _ _ q=>add_int q
theorem d4:OpR X (binaryOp .Sub) (rI0 fun i j=>.int (i - j)):=vT fun _ _ _ _ _ _ _ q=>sub_int q
theorem dj:OpR X (binaryOp .Mult) (rI CMul fun i j=>.int (i*j)):=opI fun _ _ _ _ _ _ _ hc q=>mul_int q hc.ok
theorem eJ:OpR X (binaryOp .FloorDiv) (rI CDiv fun i j=>.int (i / j)):=opI fun i j _ _ _ _ _ hc q=>by
 have h1:(0:Int)<j:=hc.1
 have h2:j<1073741824:=hc.2
 exact floordiv_int (by omega) (by rw[Int.fdiv_eq_ediv_of_nonneg i (by omega)]; exact q) (.inl (PyProof.noPylong_small (by omega)))
theorem bq:OpR X (binaryOp .Mod) (rI (fun _ j=>0<j) fun i j=>.int (i % j)):=opI fun i j _ _ _ _ _ hc q=>by
 have h1:(0:Int)<j:=hc
 exact mod_int' (by omega) (by rw[Int.fmod_eq_emod_of_nonneg i (by omega)]; exact q)
theorem tZ:OpR X (binaryOp .Pow) (rI CPow fun i j=>.int (i ^ j.toNat)):=opI fun _ _ _ _ _ _ _ hc q=>pow_int_small hc.1 hc.2.1 hc.2.2 q
theorem unI {f:Value->Sem Value}{g:Int->Int}
  (rule:∀ (i:Int) (t:Tok) (s:Shared) (Q:Value->Shared->Prop) (E:Value->Shared->Prop),Q (.int (g i) s.toks) { s with toks:=s.toks+1 }->wpAny (model X.prog X.w) X.A (f (.int i t)) Q E s) :
  UnR X f (rU fun i=>.int (g i)):=by
 intro pins s σ H x v Q I rx h
 obtain⟨i,rfl,q⟩:=h
 obtain⟨t,rfl⟩:=rx
 exact rule i t s _ _ ⟨.int (g i),H,I.tok _,⟨_,U⟩,q⟩
theorem nU:UnR X (unaryOp .USub) (rU fun i=>.int (-i)):=unI fun _ _ _ _ _ q=>neg_int q
end
noncomputable def ve:V->V->Bool
 | .non,.non=>true | .non,.int _=>true | .int _,.non=>true | .non,.bl _=>true | .bl _,.non=>true | .non,.str _=>true | .str _,.non=>true
 | .int _,.int _=>true | .bl _,.bl _=>true | .str _,.str _=>true | .byt _,.byt _=>true
 | .int _,.str _=>true | .str _,.int _=>true | .bl _,.str _=>true | .str _,.bl _=>true
 | _,_=>false
inductive RE_ (x y:V) (H:Hp) (Q:VK):Prop
 | mk (h:ve x y=true) (q:Q (.bl (decide (x=y))) H):RE_ x y H Q
inductive RN_ (x y:V) (H:Hp) (Q:VK):Prop
 | mk (h:ve x y=true) (q:Q (.bl (!decide (x=y))) H):RN_ x y H Q
noncomputable def rEq:R2:=fun x y H Q=>RE_ x y H Q
noncomputable def rNe:R2:=fun x y H Q=>RN_ x y H Q
theorem mw {i j:Int}:decide (V.int i=V.int j)=(i == j):=by
 rw[Bool.eq_iff_iff]
 simp
theorem qa {i j:Bool}:decide (V.bl i=V.bl j)=(i == j):=by
 rw[Bool.eq_iff_iff]
 simp
theorem mv {i j:Str}:decide (V.str i=V.str j)=(i == j):=by
 rw[Bool.eq_iff_iff]
 simp
theorem mB {i j:Array UInt8}:decide (V.byt i=V.byt j)=(i.toList == j.toList):=by
 rw[Bool.eq_iff_iff]
 cases i
 cases j
 simp
section
variable {X:Cx}{a b c:Expr}{ta tb tc:TE}{pos:Pos}
theorem aU {Q:VK}{k k':Bool} (I:Inv X pins σ H s) (q:Q (.bl k) H) (e:k=k'):EP X pins σ Q (.bool k') s:=by
 subst e
 exact⟨.bl k,H,I,U,q⟩
theorem bj:OpR X (compareOp .Eq) rEq:=by
 intro pins s σ H x y v u Q I rx ry h
 obtain⟨hs,q⟩:=h
 cases x with
 | non=>
  cases rx
  cases y with
  | non=>cases ry; exact PySem.EqNone.eq_none_none (aU I q (by simp))
  | bl j=>cases ry; exact PySem.EqNone.eq_none_bool (aU I q (by simp))
  | int j=>obtain⟨t',rfl⟩:=ry; exact PySem.EqNone.eq_none_int (aU I q (by simp))
  | str j=>obtain⟨t',rfl⟩:=ry; exact PySem.EqNone.eq_none_str (aU I q (by simp))
  | _=>exact absurd (show false=true from hs) Bool.false_ne_true
 | bl i=>
  cases rx
  cases y with
  | non=>cases ry; exact PySem.EqNone.eq_bool_none (aU I q (by simp))
  | bl j=>cases ry; exact eq_bool (aU I q qa)
  | str j=>obtain⟨t',rfl⟩:=ry; exact PySem.EqMixed.eq_bool_str (aU I q (by simp))
  | _=>exact absurd (show false=true from hs) Bool.false_ne_true
 | int i=>
  obtain⟨t,rfl⟩:=rx
  cases y with
  | non=>cases ry; exact PySem.EqNone.eq_int_none (aU I q (by simp))
  | int j=>obtain⟨t',rfl⟩:=ry; exact eq_int (aU I q mw)
  | str j=>obtain⟨t',rfl⟩:=ry; exact PySem.EqMixed.eq_int_str (aU I q (by simp))
  | _=>exact absurd (show false=true from hs) Bool.false_ne_true
 | str i=>
  obtain⟨t,rfl⟩:=rx
  cases y with
  | non=>cases ry; exact PySem.EqNone.eq_str_none (aU I q (by simp))
  | bl j=>cases ry; exact PySem.EqMixed.eq_str_bool (aU I q (by simp))
  | int j=>obtain⟨t',rfl⟩:=ry; exact PySem.EqMixed.eq_str_int (aU I q (by simp))
  | str j=>obtain⟨t',rfl⟩:=ry; exact eq_str (aU I q mv)
  | _=>exact absurd (show false=true from hs) Bool.false_ne_true
 | byt i=>
  obtain⟨t,rfl⟩:=rx
  cases y with
  | byt j=>obtain⟨t',rfl⟩:=ry; exact PySem.W.eq_bytes (aU I q mB)
  | _=>exact absurd (show false=true from hs) Bool.false_ne_true
 | _=>cases y <;> exact absurd (show false=true from hs) Bool.false_ne_true
theorem dB:OpR X (compareOp .NotEq) rNe:=by
 intro pins s σ H x y v u Q I rx ry h
 obtain⟨hs,q⟩:=h
 cases x with
 | non=>
  cases rx
  cases y with
  | non=>cases ry; exact PySem.EqNone.ne_none_none (aU I q (by simp))
  | bl j=>cases ry; exact PySem.EqNone.ne_none_bool (aU I q (by simp))
  | int j=>obtain⟨t',rfl⟩:=ry; exact PySem.EqNone.ne_none_int (aU I q (by simp))
  | str j=>obtain⟨t',rfl⟩:=ry; exact PySem.EqNone.ne_none_str (aU I q (by simp))
  | _=>exact absurd (show false=true from hs) Bool.false_ne_true
 | bl i=>
  cases rx
  cases y with
  | non=>cases ry; exact PySem.EqNone.ne_bool_none (aU I q (by simp))
  | bl j=>cases ry; exact ne_bool (aU I q (congrArg not qa))
  | str j=>obtain⟨t',rfl⟩:=ry; exact PySem.EqMixed.ne_bool_str (aU I q (by simp))
  | _=>exact absurd (show false=true from hs) Bool.false_ne_true
 | int i=>
  obtain⟨t,rfl⟩:=rx
  cases y with
  | non=>cases ry; exact PySem.EqNone.ne_int_none (aU I q (by simp))
  | int j=>obtain⟨t',rfl⟩:=ry; exact ne_int (aU I q (congrArg not mw))
  | str j=>obtain⟨t',rfl⟩:=ry; exact PySem.EqMixed.ne_int_str (aU I q (by simp))
  | _=>exact absurd (show false=true from hs) Bool.false_ne_true
 | str i=>
  obtain⟨t,rfl⟩:=rx
  cases y with
  | non=>cases ry; exact PySem.EqNone.ne_str_none (aU I q (by simp))
  | bl j=>cases ry; exact PySem.EqMixed.ne_str_bool (aU I q (by simp))
  | int j=>obtain⟨t',rfl⟩:=ry; exact PySem.EqMixed.ne_str_int (aU I q (by simp))
  | str j=>obtain⟨t',rfl⟩:=ry; exact ne_str (aU I q (congrArg not mv))
  | _=>exact absurd (show false=true from hs) Bool.false_ne_true
 | byt i=>
  obtain⟨t,rfl⟩:=rx
  cases y with
  | byt j=>obtain⟨t',rfl⟩:=ry; exact PySem.W.ne_bytes (aU I q (congrArg not mB))
  | _=>exact absurd (show false=true from hs) Bool.false_ne_true
 | _=>cases y <;> exact absurd (show false=true from hs) Bool.false_ne_true
theorem eF:OpR X (compareOp .Lt) (rI0 fun i j=>.bl (decide (i<j))):=t9 fun _ _ _ _ _ _ _ q=>lt_int q
theorem eG:OpR X (compareOp .Gt) (rI0 fun i j=>.bl (decide (j<i))):=t9 fun _ _ _ _ _ _ _ q=>gt_int q
theorem jR:OpR X (compareOp .GtE) (rI0 fun i j=>.bl (decide (j<=i))):=t9 fun _ _ _ _ _ _ _ q=>ge_int q
theorem d5 : OpR X (compareOp .Is) (fun x y H Q=>y=.non/\Q (.bl (decide (x=.non))) H) := by
  intro pins s σ H x y v u Q I rx ry h
  obtain⟨rfl, q⟩ := h
  cases ry
  refine is_none_gen (aU I q ?_)
  cases x <;> first
    | (cases rx; rfl)
    | (obtain ⟨t, rfl⟩ := rx; rfl)
theorem cH : OpR X (compareOp .IsNot) (fun x y H Q=>y=.non/\Q (.bl (!decide (x=.non))) H) := by
  intro pins s σ H x y v u Q I rx ry h
  obtain⟨rfl, q⟩ := h
  cases ry
  refine isnot_none_gen (aU I q ?_)
  cases x <;> first
    | (cases rx; rfl)
    | (obtain ⟨t, rfl⟩ := rx; rfl)
theorem am (b:Expr) {op:CmpOp} (h:op≠.In:=by decide) (h2:op≠.NotIn:=by decide):behindInMarks op b=false:=by
 have e1:(op == CmpOp.In)=false:=by cases op <;> first | rfl | exact absurd rfl h
 have e2:(op == CmpOp.NotIn)=false:=by cases op <;> first | rfl | exact absurd rfl h2
 cases b <;> simp[behindInMarks,e1,e2]
theorem cq {op:CmpOp}{r:R2} (ho:OpR X (compareOp op) r) (ha:PE X a ta) (hb:PE X b tb) (hm:behindInMarks op b=false):PE X (.Compare a [op] [b] pos) (tOp r ta tb):=by
 intro pins s σ H Q I h
 exact wpAny_Compare1 (uP ha hb I h fun v u s2 x y H2 I2 rx ry q=>ho pins s2 σ H2 x y v u Q I2 rx ry q) hm
noncomputable def tTest (t:TE):TT:=fun σ H Q=>t σ H (TB_ Q)
theorem ai {op:CmpOp}{r:R2} (ho:OpR X (compareOp op) r) (ha:PE X a ta) (hb:PE X b tb) (hm:behindInMarks op b=false):PT X (.Compare a [op] [b] pos) (tTest (tOp r ta tb)):=by
 intro pins s σ H Q I h
 refine wpAny_isTrue_Compare1 (thn (ha pins s σ H _ I h) fun v s1 ⟨x,H1,I1,r1,q1⟩=>thn (hb pins s1 σ H1 _ I1 q1) fun u s2 ⟨y,H2,I2,r2,q2⟩=>
  thn (ho pins s2 σ H2 x y v u _ I2 r1 r2 q2) fun c s3 ⟨z,H3,I3,r3,k,e,q3⟩=>?_) hm
 subst e
 cases r3
 exact wpAny_truthy_bool ⟨H3,I3,q3⟩
noncomputable def v5 (K:PySem.W.Frag) (x:V) (H:Hp) (k:Bool):Prop :=
 match x with
 | .non=>k=false
 | .bl b=>k=b
 | .int i=>k=(i != 0)
 | .str y=>y.length<=sizeLine/\k=((y.length:Int) != 0)
 | .byt y=>y.size<=sizeLine/\k=((y.size:Int) != 0)
 | .ref p=>(∃ xs,SqL K H p xs/\k = !xs.isEmpty)∨(∃ xs,SqT K H p xs/\k = !xs.isEmpty)∨∃ kvs,H p=some (.dK kvs)/\k = !kvs.isEmpty
 | _=>False
theorem kW {κ:Type}{kvs:List (κ×V)}{vs:List (κ×Value)} (r:KV kvs vs):(!vs.isEmpty) = !kvs.isEmpty:=by
 cases r <;> rfl
theorem gW {xs:List V}{its:List Value} (r:Vals xs its):(!its.toArray.isEmpty) = !xs.isEmpty:=by
 cases r <;> simp
theorem fz:(sizeLine:Nat)<2 ^ 63:=by rw[sizeLine_eq]; decide
theorem tq:TruR X (fun x H Q=>∃ k,v5 X.K x H k/\Q k H):=by
 intro pins s σ H x v Q I rx h
 obtain⟨k,e,q⟩:=h
 have hl:=fz
 have hs:sizeLine=16777216:=sizeLine_eq
 cases x with
 | non=>
  cases rx
  have e':k=false:=e
  subst e'
  exact truthy_none ⟨H,I,q⟩
 | bl b=>
  cases rx
  have e':k=b:=e
  subst e'
  exact wpAny_truthy_bool ⟨H,I,q⟩
 | int i=>
  obtain⟨t,rfl⟩:=rx
  have e':k=(i != 0):=e
  subst e'
  exact PySem.P.truthy_int ⟨H,I,q⟩
 | str y=>
  obtain⟨t,rfl⟩:=rx
  obtain⟨hy,e'⟩:y.length<=sizeLine/\k=((y.length:Int) != 0):=e
  subst e'
  exact PySem.P.truthy_str (by omega) ⟨H,I.tok _,q⟩
 | byt y=>
  obtain⟨t,rfl⟩:=rx
  obtain⟨hy,e'⟩:y.size<=sizeLine/\k=((y.size:Int) != 0):=e
  subst e'
  exact PySem.W.truthy_bytes (by omega) ⟨H,I.tok _,q⟩
 | ref p=>
  cases rx
  have e':(∃ xs,SqL X.K H p xs/\k = !xs.isEmpty)∨(∃ xs,SqT X.K H p xs/\k = !xs.isEmpty)∨∃ kvs,H p=some (.dK kvs)/\k = !kvs.isEmpty:=e
  rcases e' with ⟨xs,hx,e'⟩ | ⟨xs,hx,e'⟩ | ⟨kvs,hx,e'⟩
  ·subst e'
   obtain⟨its,r,pl,hz⟩:=I.list hx
   have hlen:=r.length
   exact wpAny_truthy_list pl.isList (by simp only[wp]; omega) ⟨H,I.tok _,by rw[gW r]; exact q⟩
  ·subst e'
   obtain⟨its,r,pl,hz⟩:=I.tuple hx
   have hlen:=r.length
   exact truthy_tuple pl (by simp only[wp]; omega) ⟨H,I.tok _,by rw[gW r]; exact q⟩
  ·subst e'
   obtain⟨hz,hS,vs,r,m⟩:kvs.length<=sizeLine/\(p == sysModules)=false/\∃ vs,KV kvs vs/\s.heap.DictOf (aS X.prog X.w) p vs:=I.hok p _ hx
   have hlen:kvs.length=vs.length:=Paired.length r
   exact wpAny_truthy_dict hS m (by omega) ⟨H,I.tok _,by rw[kW r]; exact q⟩
 | _=>exact(show False from e).elim
theorem oS (ha:PE X a ta) (he:∀ whole,isTrue a X.env whole=(do let v <- whole; standAt a.pos; holding [v] (truthy v))) :
  PT X a (fun σ H Q=>ta σ H fun x H'=>∃ k,v5 X.K x H' k/\Q k H'):=by
 intro pins s σ H Q I h
 exact isTrue_plain (thn (ha pins s σ H _ I h) fun v s1 ⟨x,H1,I1,r1,q1⟩=>tq pins s1 σ H1 x v Q I1 r1 q1) (he _)
theorem cS {x:V} (r:Vals [x] us):∃ u,us=[u]/\RelV x u:=by
 cases r with
 | cons r1 r2=>cases r2; exact⟨_,U,r1⟩
theorem lm {x y:V} (r:Vals [x,y] us):∃ u w',us=[u,w']/\RelV x u/\RelV y w':=by
 cases r with
 | cons r1 r2=>
  cases r2 with
  | cons r3 r4=>cases r4; exact⟨_,_,U,r1,r3⟩
theorem qc:cD X (.builtin "abs") (fun xs H Q=>∃ i,xs=[.int i]/\Q (.int (if i<0 then -i else i)) H):=by
 intro pins s σ H xs us Q I r h
 obtain⟨i,rfl,q⟩:=h
 obtain⟨u,rfl,t,rfl⟩:=cS r
 exact call_abs_int fun u tk=>⟨.int (if i<0 then -i else i),H,I.tok _,⟨_,U⟩,q⟩
theorem nJ (hc:X.calm=true):cD X (.builtin "max") (fun xs H Q=>∃ i j,xs=[.int i,.int j]/\Q (.int (if j > i then j else i)) H):=by
 intro pins s σ H xs us Q I r h
 obtain⟨i,j,rfl,q⟩:=h
 obtain⟨u,w',rfl,⟨t,rfl⟩,⟨t',rfl⟩⟩:=lm r
 refine max_two_ints (I.ok.hd hc) fun h' tk k=>⟨_,H,I.kept k,?_,q⟩
 by_cases hj:j > i
 ·rw[if_pos hj,if_pos hj]; exact⟨_,U⟩
 ·rw[if_neg hj,if_neg hj]; exact⟨_,U⟩
theorem nI (hc:X.calm=true):cD X (.builtin "min") (fun xs H Q=>∃ i j,xs=[.int i,.int j]/\Q (.int (if j<i then j else i)) H):=by
 intro pins s σ H xs us Q I r h
 obtain⟨i,j,rfl,q⟩:=h
 obtain⟨u,w',rfl,⟨t,rfl⟩,⟨t',rfl⟩⟩:=lm r
 refine min_two_ints (I.ok.hd hc) fun h' tk k=>⟨_,H,I.kept k,?_,q⟩
 by_cases hj:j<i
 ·rw[if_pos hj,if_pos hj]; exact⟨_,U⟩
 ·rw[if_neg hj,if_neg hj]; exact⟨_,U⟩
theorem nK:cD X (.type "int") (fun xs H Q=>(∃ i,xs=[.int i]/\Q (.int i) H)∨∃ k,xs=[.bl k]/\Q (.int (if k then 1 else 0)) H):=by
 intro pins s σ H xs us Q I r h
 rcases h with ⟨i,rfl,q⟩ | ⟨k,rfl,q⟩
 ·obtain⟨u,rfl,t,rfl⟩:=cS r
  exact call_int_int ⟨.int i,H,I,⟨_,U⟩,q⟩
 ·obtain⟨u,rfl,r1⟩:=cS r
  cases r1
  exact call_int_bool ⟨.int (if k then 1 else 0),H,I.tok _,⟨_,U⟩,q⟩
theorem fc:cD X (.type "str") (fun xs H Q=>∃ i,xs=[.int i]/\i.natAbs.log2<1920/\Q (.str (toString i)) H):=by
 intro pins s σ H xs us Q I r h
 obtain⟨i,rfl,hz,q⟩:=h
 obtain⟨u,rfl,t,rfl⟩:=cS r
 exact PySem.P.str_of_int hz ⟨.str _,H,I.tok _,⟨_,U⟩,q⟩
end
structure ObjM (h:Heap) (x dx C:Addr) (mA:Str->Option Value):Prop where
 obj:h.get? x=some (PySem.W.instObj C dx)
 ns:h.Ns1 dx mA
 ne:dx≠x
theorem m5 {dx:Addr}{mA:Str->Option Value} (n:h.Ns1 dx mA):∃ od,h.get? dx=some od/\∀ name,PySem.W.lookIn name od=some (mA name):=by
 obtain⟨o,es,ep,ho,hd,hk,_,hm⟩:=n
 refine⟨o,ho,fun name=>?_⟩
 have e:=hm name
 unfold nsFind findBy at e
 rw[<- Array.find?_toList] at e
 unfold PySem.W.lookIn
 rw[hd]
 dsimp only
 split
 ·rename_i y q
  rw[q] at e
  exact congrArg some e
 ·rename_i q
  rw[q] at e
  have a:es.toList.any (·.refKey)=false:=by
   rw[List.any_eq_false]
   intro y hy
   obtain⟨z,t,hkey⟩:=hk y (Array.mem_toList_iff.mp hy)
   simp[DictEntry.refKey,hkey]
  have a':¬ es.toList.any (·.refKey)=true:=by rw[a]; exact Bool.false_ne_true
  rw[if_neg a']
  exact congrArg some e
theorem ObjM.look {x dx C:Addr}{mA:Str->Option Value} (I:ObjM h x dx C mA):∃ od,PySem.W.InstAt h x (PySem.W.instObj C dx) C (some od)/\∀ name,PySem.W.lookIn name od=some (mA name) :=
 let ⟨od,ho,hl⟩:=m5 I.ns
 ⟨od,⟨I.obj,U,U,ho⟩,hl⟩
variable{kw:List (Str×Value)}{pl:Sem Bool}
section
variable {prog:Program}{w:World}{A:Around}{E:Value->Shared->Prop}{s:Shared}{K:PySem.W.Frag}{x dx C f:Addr}{mA:Str->Option Value}{name:Str}{v:Value}
theorem rc {expr:Bool} (X:K.In s.heap) (I:ObjM s.heap x dx C mA) (hg:W.plainGet K C name=true) (hh:W.hasDictIn K C=true)
  (ha:W.findIn K (.ref C) name=some none) (hv:mA name=some v) (hv':PySem.W.handedIn v=true) (h:Q v { s with toks:=s.toks+1 }) :
  wpAny (model prog w) A (getAttr (.ref x) name expr) Q E s:=by
 obtain⟨od,J,hl⟩:=I.look
 exact PySem.W.get_value X J (PySem.W.plainGet_of hg).1 (PySem.W.findObj_own hh ha rfl (by rw[hl,hv])) hv' h
theorem pW {Q:Value×List Value->Shared->Prop} (X:K.In s.heap) (I:ObjM s.heap x dx C mA) (hg:W.plainGet K C name=true)
  (hf:W.findIn K (.ref C) name=some (some (.ref f))) (ht:W.isFn K (.ref f)=true) (hv:mA name=none) (h:Q (.ref f,[.ref x]) s) :
  wpAny (model prog w) A (getMethod (.ref x) name pl) Q E s:=by
 obtain⟨od,J,hl⟩:=I.look
 exact PySem.W.method_fn X J (PySem.W.plainGet_of hg).1 (PySem.W.plainGet_of hg).2 hf (beq_iff_eq.mp ht) (by show(PySem.W.lookIn name od).map (·.isSome)=some false; rw[hl,hv]; rfl) h
theorem qA {ns:List Str}{Q:Unit->Shared->Prop} (X:K.In s.heap) (I:ObjM s.heap x dx C mA)
  (hs:W.findIn K (.ref C) "__setattr__" = some (some (.builtin "object.__setattr__"))) (hp:W.plainOver K C=true) (ht:PySem.W.takerIn K C name=some none) (hh:W.hasDictIn K C=true)
  (hw:PySem.Within mA ns) (hsz:ns.length<=sizeLine)
  (h:∀ h',ObjM h' x dx C (fun y=>if y=name then some v else mA y)->Heap.SameBut dx s.heap h'->Q () { s with heap:=h',toks:=s.toks+2 }) :
  wpAny (model prog w) A (setAttr (.ref x) name v) Q E s:=by
 obtain⟨od,J,hl⟩:=I.look
 refine PySem.W.set_plain X J hs (PySem.W.osa_open (s:={ s with toks:=s.toks+1 }) (r:=none) X J hp ht fun b=>?_)
 obtain⟨cd,hc,hd'⟩:=PySem.W.any_some hh
 have hx:s.heap.get? x=some ⟨.ref C,some dx,.plain,#[]⟩:=I.obj
 refine wpAny_bind (wpAny_pure (wpAny_bind (wpAny_bind (wpAny_loadPart hx (wpAny_bind (PySem.W.Looks.here (s:={ s with toks:=s.toks+1 }) (PySem.W.looks_clsIn X hc) ?_))))))
 rw[hd']
 refine wpAny_pure (a:=some dx) (wpAny_bind (wpAny_pure (wpAny_bind ?_)))
 refine wpAny_nsSet1 (s:={ s with toks:=s.toks+1 }) I.ns fun h' hn2 hs2=>?_
 obtain⟨oD,esD,epD,hoD,hdD,hcD⟩:=hn2.count (PySem.Within.cons name v hw)
 refine wpAny_bind (wpAny_lookBehind hoD (by rw[hdD]; exact pastItsLine_dict (Nat.le_trans hcD (by rw[wl]; omega))) ?_)
 exact wpAny_pure (h _ ⟨(hs2.2 _ (Ne.symm I.ne)).trans I.obj,hn2,I.ne⟩ hs2)
theorem pK {R:Result->Shared->Prop}{vs:List Value} (X:K.In s.heap) (hm:W.makesIn K C=true)
  (hi:W.findIn K (.ref C) "__init__" = some (some (.ref f))) (hf:PySem.W.typeIn K (.ref f)=some (.type "function"))
  (h:codeAny (model prog w) (A.under (.builtin "type.__call__" ⟨.ref C::vs,kw⟩)) (.call (.ref f) ⟨.ref (s.heap.objs.size+1)::vs,kw⟩) (PySem.W.InitBack (s.heap.objs.size+1) R)
   { s with heap:=(s.heap.push PySem.W.emptyDict).push (PySem.W.instObj C s.heap.objs.size) }) :
  codeAny (model prog w) A (.call (.ref C) ⟨vs,kw⟩) R s:=by
 obtain⟨hh,g,d,t,os⟩:=s
 exact PySem.W.make_core (PySem.W.makes_of X hm) (PySem.W.looks_findIn X hi) (fun self=>PySem.W.bind_fn X self hf) (.inl rfl) h
end
noncomputable def bE (f : Str) (v : V) : List (Str×V)->List (Str×V)
  | []=>[(f, v)]
  | (g, x) :: r => if g = f then (g, v) :: r else (g, x) :: bE f v r
theorem fG (f g : Str) (v : V) : ∀ fs : List (Str×V), (bE f v fs).lookup g=if g=f then some v else fs.lookup g
  | []=>by
    show List.lookup g [(f, v)]=_
    by_cases h : g=f
    · have hb : (g == f)=true := beq_iff_eq.mpr h
      simp only[List.lookup, hb, if_pos h]
    · have hb : (g == f)=false := beq_eq_false_iff_ne.mpr h
      simp only[List.lookup, hb, if_neg h]
  | (k, x) :: r => by
    have ih := fG f g v r
    rw[show bE f v ((k, x)::r)=(if k=f then(k, v)::r else(k, x)::bE f v r) from rfl]
    by_cases hk : k=f
    · rw[if_pos hk]
      by_cases h : g=k
      · have hb : (g == k)=true := beq_iff_eq.mpr h
        simp only[List.lookup, hb, if_pos (h.trans hk)]
      · have hb : (g == k)=false := beq_eq_false_iff_ne.mpr h
        simp only[List.lookup, hb, if_neg (fun e : g=f=>h (e.trans hk.symm))]
    · rw[if_neg hk]
      by_cases h : g=k
      · have hb : (g == k)=true := beq_iff_eq.mpr h
        simp only[List.lookup, hb, if_neg (fun e : g=f=>hk (h.symm.trans e))]
      · have hb : (g == k)=false := beq_eq_false_iff_ne.mpr h
        simp only[List.lookup, hb]
        exact ih
theorem fA (f : Str) (v : V) : ∀ fs : List (Str×V), f ∈ (bE f v fs).map (·.1)/\∀ g, g ∈ fs.map (·.1)->g ∈ (bE f v fs).map (·.1)
  | []=>⟨by simp[bE], fun g h=>by simp at h⟩
  | (k, x) :: r => by
    obtain⟨i1, i2⟩ := fA f v r
    rw[show bE f v ((k, x)::r)=(if k=f then(k, v)::r else(k, x)::bE f v r) from rfl]
    by_cases hk : k=f
    · rw[if_pos hk]
      subst hk
      exact⟨by simp, fun g h=>by simpa using h⟩
    · rw[if_neg hk]
      refine⟨?_, fun g h=>?_⟩
      · rw[wu]
        exact wc _ i1
      · rw[wu] at h ⊢
        rcases wt.mp h with e | e
        · exact wt.mpr (.inl e)
        · exact wc _ (i2 g e)
theorem fH (f : Str) (v : V) : ∀ fs : List (Str×V), (bE f v fs).length<=fs.length+1
  | []=>by simp[bE]
  | (k, x) :: r => by
    have ih := fH f v r
    rw[show bE f v ((k, x)::r)=(if k=f then(k, v)::r else(k, x)::bE f v r) from rfl]
    by_cases hk : k=f
    · rw[if_pos hk, wl, wl]; omega
    · rw[if_neg hk, wl, wl]; omega
theorem RelO.some_of {v:V}{o:Option Value} (r:RelO (some v) o):∃ u,o=some u/\RelV v u:=by
 cases o with
 | none=>exact(show False from r).elim
 | some u=>exact⟨u,U,r⟩
theorem RelO.none_of {o:Option Value} (r:RelO none o):o=none:=by
 cases o with
 | none=>rfl
 | some u=>exact(show False from r).elim
theorem nz {v:V} (r:RelV v u):PySem.W.handedIn u=true:=by
 cases v with
 | non=>cases (show u=Value.none from r); rfl
 | bl b=>cases (show u=Value.bool b from r); rfl
 | int i=>obtain⟨t,e⟩:=(show ∃ t,u=Value.int i t from r); cases e; rfl
 | str x=>obtain⟨t,e⟩:=(show ∃ t,u=Value.str x t from r); cases e; rfl
 | byt b=>obtain⟨t,e⟩:=(show ∃ t,u=Value.bytes b t from r); cases e; rfl
 | flt b=>obtain⟨t,e⟩:=(show ∃ t,u=Value.float b t from r); cases e; rfl
 | ref a=>cases (show u=Value.ref a from r); rfl
 | ty n=>cases (show u=Value.type n from r); rfl
section
variable {P:Program}{w:World}{H H':Hp}{h h':Heap}{a C dx:Addr}{fs fs':List (Str×V)}
theorem f6 (hok:HOk P w H h) (e:H a=some (.ins C dx fs)):∃ mA,ObjM h a dx C mA/\(∀ f,RelO (fs.lookup f) (mA f))/\PySem.Within mA (fs.map (·.1))/\fs.length<=1000/\H dx=some (.own a):=by
 obtain⟨d,z,ne,ob,mA,n,r,q⟩:=(show ObjOk P w H h a (.ins C dx fs) from hok a _ e)
 exact⟨mA,⟨ob,n,ne⟩,r,q,z,d⟩
end
structure Cls (K:PySem.W.Frag) (C:Addr):Prop where
 pg:W.plainGet K C Str.empty=true
 hd:W.hasDictIn K C=true
 po:W.plainOver K C=true
 sa:W.findIn K (.ref C) "__setattr__" = some (some (.builtin "object.__setattr__"))
theorem Cls.get {C:Addr} (c:Cls K C) (f:Str):W.plainGet K C f=true:=c.pg
noncomputable def NoAttr (K:PySem.W.Frag) (C:Addr) (f:Str):Prop:=W.findIn K (.ref C) f=some none
theorem NoAttr.taker {C:Addr}{f:Str} (n:NoAttr K C f):PySem.W.takerIn K C f=some none:=by
 unfold PySem.W.takerIn
 rw[show W.findIn K (.ref C) f=some none from n]
 rfl
structure Con (K:PySem.W.Frag) (C:Addr) (f:Str) (v:V) (u:Value):Prop where
 at_:W.findIn K (.ref C) f=some (some u)
 rel:RelV v u
 get:PySem.W.specialIn K u "__get__" = some none
 cp:PySem.W.copiedNames.contains f=false
structure Meth (K:PySem.W.Frag) (C:Addr) (m:Str) (f:Addr):Prop where
 at_:W.findIn K (.ref C) m=some (some (.ref f))
 fn:W.isFn K (.ref f)=true
 kp:W.keepIn K (.ref f)=true
section
variable {X:Cx}{pins:List (Addr×Obj)}{σ:St}{H:Hp}{s:Shared}{a C dx:Addr}{fs:List (Str×V)}{f:Str}{v:V}{A:Around}{E:Value->Shared->Prop}
theorem gX {b:Bool} (I:Inv X pins σ H s) (e:H a=some (.ins C dx fs)) (c:Cls X.K C) (n:NoAttr X.K C f) (l:fs.lookup f=some v)
  (h:∀ u s',Inv X pins σ H s'->RelV v u->Q u s'):wpAny (model X.prog X.w) A (getAttr (.ref a) f b) Q E s:=by
 obtain⟨mA,O,r,_,_,_⟩:=f6 I.hok e
 obtain⟨u,hu,ru⟩:=RelO.some_of (v:=v) (o:=mA f) (by rw[<- l]; exact r f)
 exact rc I.kIn O (c.get f) c.hd n hu (nz ru) (h u _ (I.tok _) ru)
theorem d9 {m:Str}{g:Addr}{Q:Value×List Value->Shared->Prop} (I:Inv X pins σ H s) (e:H a=some (.ins C dx fs)) (c:Cls X.K C) (k:Meth X.K C m g) (l:fs.lookup m=none)
  (h:Q (.ref g,[.ref a]) s):wpAny (model X.prog X.w) A (getMethod (.ref a) m pl) Q E s:=by
 obtain⟨mA,O,r,_,_,_⟩:=f6 I.hok e
 have hn:mA m=none:=RelO.none_of (by rw[<- l]; exact r m)
 exact pW I.kIn O (c.get m) k.at_ k.fn hn h
theorem gy {y:V}{Q:Unit->Shared->Prop} (I:Inv X pins σ H s) (e:H a=some (.ins C dx fs)) (c:Cls X.K C) (n:NoAttr X.K C f) (hl:fs.length<1000) (ry:RelV y u)
  (h:∀ s',Inv X pins σ (upd H a (.ins C dx (bE f y fs))) s'->Q () s'):wpAny (model X.prog X.w) A (setAttr (.ref a) f u) Q E s:=by
 obtain⟨mA,O,r,wi,_,ho⟩:=f6 I.hok e
 have hz:(fs.map (·.1)).length<=sizeLine:=by rw[v9,sizeLine_eq]; omega
 refine qA I.kIn O c.sa c.po n.taker c.hd wi hz fun h' O' sb=>h _ ?_
 have hd:∃ o,h'.get? dx=some o:=let ⟨o,_,_,e',_⟩:=O'.ns; ⟨o,e'⟩
 refine I.write (x:=a) (e:=dx) (by rw[e]; exact True.intro) (.inr ho) (fun b q hb z=>(sb.2 b hb).trans z) hd ?_
 refine⟨by rw[aQ O.ne]; exact ho,?_,O.ne,O'.obj,_,O'.ns,fun g=>?_,fun g hg=>?_⟩
 ·have:=fH f y fs; omega
 ·show RelO ((bE f y fs).lookup g) (if g=f then some u else mA g)
  rw[fG]
  by_cases q:g=f
  ·rw[if_pos q,if_pos q]; exact ry
  ·rw[if_neg q,if_neg q]; exact r g
 ·by_cases q:g=f
  ·rw[q]; exact(fA f y fs).1
  ·refine(fA f y fs).2 g (wi g fun z=>hg ?_)
   show(if g=f then some u else mA g)=none
   rw[if_neg q]; exact z
theorem Inv.made (I:Inv X pins σ H s):Inv X pins σ (upd (upd H s.heap.objs.size (.own (s.heap.objs.size+1))) (s.heap.objs.size+1) (.ins C s.heap.objs.size []))
  { s with heap:=(s.heap.push PySem.W.emptyDict).push (PySem.W.instObj C s.heap.objs.size) }:=by
 have e1:(s.heap.push PySem.W.emptyDict).get? s.heap.objs.size=some PySem.W.emptyDict:=Heap.get?_push_size s.heap rfl
 have e2:((s.heap.push PySem.W.emptyDict).push (PySem.W.instObj C s.heap.objs.size)).get? (s.heap.objs.size+1)=some (PySem.W.instObj C s.heap.objs.size):=by
  have:=Heap.get?_push_size (s.heap.push PySem.W.emptyDict) (o:=PySem.W.instObj C s.heap.objs.size) rfl
  rwa [Heap.size_push] at this
 have e3:(s.heap.push PySem.W.emptyDict).Ns s.heap.objs.size (fun _=>none):=⟨PySem.W.emptyDict,#[],_,e1,U,(fun e he=>absurd he (by simp)),fun _=>rfl⟩
 have I1:=I.laid (a:=s.heap.objs.size) (o:=.own (s.heap.objs.size+1)) (h':=s.heap.push PySem.W.emptyDict) (t':=s.toks) (fun b u q=>Heap.get?_push_of_some _ q) (Nat.le_refl _) ⟨_,e1⟩
 refine I1.laid (a:=s.heap.objs.size+1) (o:=.ins C s.heap.objs.size []) (t':=s.toks) (fun b u q=>Heap.get?_push_of_some _ q) (Nat.le_of_eq (Heap.size_push _ _)) ?_
 have ne:s.heap.objs.size≠s.heap.objs.size+1:=Nat.ne_of_lt (Nat.lt_succ_self _)
 refine⟨by rw[aQ ne,bJ],Nat.zero_le _,ne,e2,fun _=>none,(Heap.Ns1.of_empty e3).at fun o q=>Heap.get?_push_of_some _ q,fun _=>True.intro,fun y hy=>absurd rfl hy⟩
theorem rQ {prog:Program}{env:Env}{f:Str}{s:Shared} (hb:attributeBase e f env (eval e env)=eval e env)
  (h:wpAny (model prog w) A (eval e env) (fun o s₁=>wpAny (model prog w) A (getAttr o f true) Q E s₁) E s):wpAny (model prog w) A (eval (.Attribute e f pos) env) Q E s :=
 Attribute_any_ h (by rw[arm_eval_Attribute,hb])
end
inductive TF_ (K:PySem.W.Frag) (f:Str) (Q:VK) (x:V) (H:Hp):Prop
 | mk (a C dx:Addr) (fs:List (Str×V)) (v:V) (h1:x=.ref a) (h2:H a=some (.ins C dx fs)) (h3:Cls K C) (h4:NoAttr K C f) (h5:fs.lookup f=some v) (q:Q v H):TF_ K f Q x H
noncomputable def tFld (K:PySem.W.Frag) (ta:TE) (f:Str):TE:=fun σ H Q=>ta σ H (TF_ K f Q)
noncomputable def sFld (K:PySem.W.Frag) (ta tv:TE) (f:Str):TS:=fun D σ H=>tv σ H fun y H1=>ta σ H1 fun x H2=>∃ a C dx fs,x=.ref a/\H2 a=some (.ins C dx fs)/\Cls K C/\NoAttr K C f/\fs.length<1000 /\
 D.nx σ (upd H2 a (.ins C dx (bE f y fs)))
noncomputable def v8 (X:Cx) (op:Operator) (rd:V->V->Hp->VK->Prop):Prop :=
 ∀ (pins:List (Addr×Obj)) (s:Shared) (σ:St) (H:Hp) (x y:V) (u v:Value) (Q:VK),Inv X pins σ H s->RelV x u->RelV y v->rd x y H Q->wpAny (model X.prog X.w) X.A (inplaceOp op u v) (EP X pins σ Q) X.xe s
noncomputable def qB (K:PySem.W.Frag) (ta tv:TE) (rd:V->V->Hp->VK->Prop) (f:Str):TS:=fun D σ H=>ta σ H fun x H1=>∃ a C dx fs v,x=.ref a/\H1 a=some (.ins C dx fs)/\Cls K C/\NoAttr K C f/\fs.lookup f=some v /\
 tv σ H1 fun y H2=>rd v y H2 fun z H3=>∃ dx' fs',H3 a=some (.ins C dx' fs')/\fs'.length<1000/\D.nx σ (upd H3 a (.ins C dx' (bE f z fs')))
section
variable {X:Cx}{o e value:Expr}{f:Str}{pos pos' tpos:Pos}{ta tv:TE}
theorem aJ (he:PE X e ta) (hb:attributeBase e f X.env (eval e X.env)=eval e X.env):PE X (.Attribute e f pos) (tFld X.K ta f):=by
 intro pins s σ H Q I h
 refine rQ hb (thn (he pins s σ H _ I h) fun u s1 ⟨x,H1,I1,rx,a,C,dx,fs,v,ex,ea,c,n,l,q⟩=>?_)
 subst ex
 obtain rfl:u=Value.ref a:=rx
 exact gX I1 ea c n l fun u' s2 I2 ru=>⟨v,H1,I2,ru,q⟩
theorem bK (ha:PE X o ta) (hv:PE X value tv) (hs:swapsWith value (some (.Attribute o f pos')) pos.line X.env=pure false):PS X (.Assign [.Attribute o f pos'] value pos) (sFld X.K ta tv f):=by
 intro pins s σ H D I h
 refine plainObj_wpAny_Assign_Attribute (thn (hv pins s σ H _ I h) fun u s1 ⟨y,H1,I1,ry,q⟩=>thn (ha pins s1 σ H1 _ I1 q) fun ov s2 ⟨x,H2,I2,rx,a,C,dx,fs,ex,ea,c,n,l,q2⟩=>?_) hs
 subst ex
 obtain rfl:ov=Value.ref a:=rx
 exact gy I2 ea c n l ry fun s3 I3=>⟨σ,_,I3,q2⟩
theorem mQ {op:Operator}{rd:V->V->Hp->VK->Prop} (ha:PE X o ta) (hv:PE X value tv) (hop:v8 X op rd):PS X (.AugAssign (.Attribute o f tpos) op value pos) (qB X.K ta tv rd f):=by
 intro pins s σ H D I h
 refine wpAny_AugAssign_AttributeAny (thn (ha pins s σ H _ I h) fun ov s1 ⟨x,H1,I1,rx,a,C,dx,fs,v,ex,ea,c,n,l,q⟩=>?_)
 subst ex
 obtain rfl:ov=Value.ref a:=rx
 refine gX I1 ea c n l fun u s2 I2 ru=>thn (hv pins s2 σ H1 _ I2 q) fun w3 s3 ⟨y,H2,I3,ry,q3⟩=>thn (hop pins s3 σ H2 v y u w3 _ I3 ru ry q3) fun w4 s4 ⟨z,H3,I4,rz,dx',fs',ea',l',q4⟩=>?_
 exact gy I4 ea' c n l' rz fun s5 I5=>⟨σ,_,I5,q4⟩
noncomputable def rAdd:V->V->Hp->VK->Prop:=fun x y H Q=>∃ i j,x=.int i/\y=.int j/\Q (.int (i+j)) H
theorem uG:v8 X .Add rAdd:=by
 rintro pins s σ H x y u v Q I rx ry ⟨i,j,rfl,rfl,q⟩
 obtain⟨t,rfl⟩:=(show ∃ t,u=Value.int i t from rx)
 obtain⟨t',rfl⟩:=(show ∃ t',v=Value.int j t' from ry)
 exact PyProof.Rows.iadd_int ⟨.int (i+j),H,I.tok _,⟨_,U⟩,q⟩
end
section
variable {X:Cx}{pins:List (Addr×Obj)}{σ:St}{H:Hp}{s:Shared}{A:Around}{E:Value->Shared->Prop}{Q:Value->Shared->Prop}{c:Value}{b:Bool}
inductive TyOf (K:PySem.W.Frag) (H:Hp):V->Value->Prop where
 | non:TyOf K H .non (.type "NoneType")
 | bl (x:Bool):TyOf K H (.bl x) (.type "bool")
 | int (i:Int):TyOf K H (.int i) (.type "int")
 | str (x:Str):TyOf K H (.str x) (.type "str")
 | flt (x:UInt64):TyOf K H (.flt x) (.type "float")
 | lst {a:Addr}{xs:List V} (e:H a=some (.lst xs)):TyOf K H (.ref a) (.type "list")
 | frz {a:Addr}{o:Obj}{xs:List V} (e:H a=some (.frz o (.lst xs))):TyOf K H (.ref a) (.type "list")
 | tup {a:Addr}{xs:List V} (e:H a=some (.tup xs)):TyOf K H (.ref a) (.type "tuple")
 | dK {a:Addr}{kvs:List (Key×V)} (e:H a=some (.dK kvs)):TyOf K H (.ref a) (.type "dict")
 | dT {a:Addr}{kvs:List (List Key×V)} (e:H a=some (.dT kvs)):TyOf K H (.ref a) (.type "dict")
 | ins {a C dx:Addr}{fs:List (Str×V)} (e:H a=some (.ins C dx fs)) (cl:Cls K C) (ha:W.findIn K (.ref C) "__class__" = some (some (.builtin "object.__class__")))
   (hn:PySem.W.specialIn K (.builtin "object.__class__") "__get__" = some (some (.builtin "getset_descriptor.__get__"))) (htk:PySem.W.takesIn K (.builtin "object.__class__")=some true)
   (hm:PySem.W.mroIn K C (.type "object")=some true):TyOf K H (.ref a) (.ref C)
theorem nh {x:V}{u t:Value} (I:Inv X pins σ H s) (rx:RelV x u) (ty:TyOf X.K H x t) (e:PySem.W.kitOne X.K t c=some b) (h:∀ tk,Q (.bool b) { s with toks:=tk }) :
  wpAny (model X.prog X.w) A (call (.builtin "isinstance") [u,c]) Q E s:=by
 cases ty with
 | non=>cases (show u=Value.none from rx); exact PySem.W.kia_one PySem.W.kitx_none I.kIn True.intro e (fun z=>nomatch z) h
 | bl y=>cases (show u=Value.bool y from rx); exact PySem.W.kia_one PySem.W.kitx_bool I.kIn True.intro e (fun z=>nomatch z) h
 | int i=>obtain⟨t,q⟩:=(show ∃ t,u=Value.int i t from rx); cases q; exact PySem.W.kia_one PySem.W.kitx_int I.kIn True.intro e (fun z=>nomatch z) h
 | str y=>obtain⟨t,q⟩:=(show ∃ t,u=Value.str y t from rx); cases q; exact PySem.W.kia_one PySem.W.kitx_str I.kIn True.intro e (fun z=>nomatch z) h
 | flt y=>obtain⟨t,q⟩:=(show ∃ t,u=Value.float y t from rx); cases q; exact PySem.W.kia_one PySem.W.kitx_float I.kIn True.intro e (fun z=>nomatch z) h
 | @lst a xs ea=>
  cases (show u=Value.ref a from rx)
  obtain⟨_,_,n,_,h1⟩:=(show ObjOk X.prog X.w H s.heap a (.lst xs) from I.hok a _ ea)
  exact PySem.W.kia_one PySem.W.kitx_list I.kIn ⟨_,h1,U⟩ e (fun z=>nomatch z) h
 | @frz a ob xs ea=>
  cases (show u=Value.ref a from rx)
  obtain⟨_,_,_,n,_,h1⟩:=(show ObjOk X.prog X.w H s.heap a (.frz ob (.lst xs)) from I.hok a _ ea)
  exact PySem.W.kia_one PySem.W.kitx_list I.kIn ⟨_,h1,U⟩ e (fun z=>nomatch z) h
 | @tup a xs ea=>
  cases (show u=Value.ref a from rx)
  obtain⟨_,_,_,p⟩:=(show ObjOk X.prog X.w H s.heap a (.tup xs) from I.hok a _ ea)
  obtain⟨o,h1,h2,_⟩:=p
  exact PySem.W.kia_one PySem.W.kitx_tuple I.kIn ⟨o,h1,h2⟩ e (fun z=>nomatch z) h
 | @dK a kvs ea=>
  cases (show u=Value.ref a from rx)
  obtain⟨_,_,vs,_,p⟩:=(show ObjOk X.prog X.w H s.heap a (.dK kvs) from I.hok a _ ea)
  obtain⟨o,es,ep,h1,h2,_⟩:=p
  exact PySem.W.kia_one PySem.W.kitx_dict I.kIn ⟨o,h1,h2.1⟩ e (fun z=>nomatch z) h
 | @dT a kvs ea=>
  cases (show u=Value.ref a from rx)
  obtain⟨_,_,xs,_,o,es,ep,h1,h2,_⟩:=(show ObjOk X.prog X.w H s.heap a (.dT kvs) from I.hok a _ ea)
  exact PySem.W.kia_one PySem.W.kitx_dict I.kIn ⟨o,h1,h2.1⟩ e (fun z=>nomatch z) h
 | @ins a C dx fs ea cl ha hn htk hm=>
  cases (show u=Value.ref a from rx)
  obtain⟨mA,O,_⟩:=f6 I.hok ea
  obtain⟨od,J,_⟩:=O.look
  exact PySem.W.kia_one (PySem.W.kitx_own (cl.get _) cl.hd ha hn htk hm) I.kIn J e (fun z=>nomatch z) h
end
structure Room (k:Nat) (A:Around):Prop where
 hd:A.handled=none
 dp:A.depth+3*k+5<recursionLimit
 un:A.units+16*k+200<cLine
 gd:A.guards=some []
theorem Room.mono {j k:Nat} (r:Room k A) (h:j<=k):Room j A:=⟨r.hd,by have:=r.dp; omega,by have:=r.un; omega,r.gd⟩
theorem Room.deeper {k:Nat} (r:Room (k+1) A) (env:Env):Room k (A.deeper env) :=
 ⟨r.hd,by have:=r.dp; show A.depth+1+3*k+5<_; omega,by have:=r.un; show A.units+3+16*k+200<_; omega,r.gd⟩
theorem kR {C:Addr}:(A.under (.builtin "type.__call__" ⟨.ref C::us,kw⟩)).depth=A.depth+1:=by
 first | rfl | simp[Around.under,Code.weight,Code.isCreation,Code.isGuard,Code.isCaller,Code.frames,Code.isFrame,guardIds]
theorem kQ {C:Addr}:(A.under (.builtin "type.__call__" ⟨.ref C::us,kw⟩)).units=A.units+1:=by
 first | rfl | simp[Around.under,Code.cUnits,Code.frames,Code.isFrame]
theorem j4 {C:Addr}:(A.under (.builtin "type.__call__" ⟨.ref C::us,kw⟩)).guards=A.guards:=by
 cases h:A.guards with
 | none=>simp[Around.under,Code.guards,Code.isGuard,guardIds,pushGuards,h]
 | some l=>simp[Around.under,Code.guards,Code.isGuard,guardIds,pushGuards,h]
theorem Room.make {k:Nat} (r:Room (k+1) A) (C:Addr) (us:List Value) (kw:List (Str×Value)):Room k (A.under (.builtin "type.__call__" ⟨.ref C::us,kw⟩)) :=
 ⟨r.hd,by have:=r.dp; rw[kR]; omega,by have:=r.un; rw[kQ]; omega,by rw[j4]; exact r.gd⟩
theorem Room.depth {k:Nat} (r:Room k A):A.depth<recursionLimit:=by have:=r.dp; omega
theorem Room.units {k:Nat} (r:Room k A):A.units+64<cLine:=by have:=r.un; omega
noncomputable def mK:TA:=fun _ H Q=>Q [] H
noncomputable def r8 (ta:TE) (tr:TA):TA:=fun σ H Q=>ta σ H fun x H1=>tr σ H1 fun xs H2=>Q (x::xs) H2
section
variable {X:Cx}{e:Expr}{es:List Expr}{te:TE}{t:TA}{pos:Pos}
theorem ae:PA X [] mK:=fun _ _ _ _ H Q I h=>Calls.spliced_nil ⟨[],H,I,.nil,h⟩
theorem aa (ha:PE X e te) (hr:PA X es t) (hs:starEach (e::es) X.env=(false,eval e X.env)::starEach es X.env:=by rfl):PA X (e::es) (r8 te t):=by
 intro pos pins s σ H Q I h
 rw[hs]
 show wpAny _ _ (spliced ((false,eval e X.env)::backTo pos (starEach es X.env))) _ _ s
 refine Calls.spliced_cons (thn (ha pins s σ H _ I h) fun u s1 ⟨x,H1,I1,r1,q1⟩=>?_)
 exact thn (hr pos pins s1 σ H1 _ I1 q1) fun us s2 ⟨xs,H2,I2,r2,q2⟩=>⟨x::xs,H2,I2,.cons r1 r2,q2⟩
noncomputable def tTup (t:TA):TE:=fun σ H Q=>t σ H fun xs H1=>xs.length<=sizeLine/\∀ p,H1 p=none->Q (.ref p) (upd H1 p (.tup xs))
noncomputable def tLst (t:TA):TE:=fun σ H Q=>t σ H fun xs H1=>xs.length<=sizeLine/\∀ p,H1 p=none->Q (.ref p) (upd H1 p (.lst xs))
theorem aR {x1} (h:PA X es t):PE X (.Tuple es x1 pos) (tTup t):=by
 intro pins s σ H Q I hq
 refine wpAny_Tuple_spliced (thn (h pos pins s σ H _ I hq) fun us s1 ⟨xs,H1,I1,r,z,q⟩=>⟨by rw[<- r.length]; exact z,?_⟩)
 have hf:H1 s1.heap.objs.size=none:=I1.hok.fresh (Nat.le_refl _)
 refine⟨.ref s1.heap.objs.size,upd H1 s1.heap.objs.size (.tup xs),I1.laid (t':=s1.toks) (fun b u e=>Heap.get?_push_of_some _ e) (Nat.le_refl _) ?_,U,q _ hf⟩
 exact⟨z,us,r,⟨_,Heap.get?_push_size _ rfl,U,_,U⟩⟩
theorem a9 (h:PA X es t):PE X (.List es pos) (tLst t):=by
 intro pins s σ H Q I hq
 refine wpAny_List_spliced (thn (h pos pins s σ H _ I hq) fun us s1 ⟨xs,H1,I1,r,z,q⟩=>⟨by rw[<- r.length]; exact z,?_⟩)
 have hf:H1 s1.heap.objs.size=none:=I1.hok.fresh (Nat.le_refl _)
 refine⟨.ref s1.heap.objs.size,upd H1 s1.heap.objs.size (.lst xs),I1.laid (t':=s1.toks) (fun b u e=>Heap.get?_push_of_some _ e) (Nat.le_refl _) ?_,U,q _ hf⟩
 exact⟨z,us,0,r,Heap.get?_push_size _ rfl⟩
end
noncomputable abbrev Sp:=List V->Hp->VK->XK->Prop
noncomputable abbrev CXT:=List Env->Hp->Shared->XK->Value->Shared->Prop
structure Env0 (P:Program) (w:World) (K:PySem.W.Frag) (mg:Str->Option Value) (base:Heap) (A:Around) (outer:List Env) (s:Shared) (H:Hp):Prop where
 frames:A.frames=some outer
 mod:Mod K mg base
 bs:∀ b o,base.get? b=some o->s.heap.get? b=some o/\H b=none
 bsz:base.objs.size<=s.heap.objs.size
 funs:s.heap.FunFrames base outer
 frf:∀ b ∈ frs outer,H b=none
 hok:HOk P w H s.heap
 bare:AllBare s.gens
noncomputable def CE (outer:List Env) (P:Program) (w:World) (H:Hp) (s:Shared) (Q:VK) (u:Value) (s':Shared):Prop :=
 ∃ v H',s'.os=s.os/\AllBare s'.gens/\Un (frs outer) [] H H' s.heap s'.heap/\HOk P w H' s'.heap/\RelV v u/\Q v H'
noncomputable def CR (CX:CXT) (outer:List Env) (P:Program) (w:World) (H:Hp) (s:Shared) (Q:VK) (E:XK) (r:Result) (s':Shared):Prop :=
 match r with
 | .ok (.ret u)=>CE outer P w H s Q u s'
 | .ok _=>False
 | .error e=>CX outer H s E e s'
structure FnOk (P:Program) (w:World) (K:PySem.W.Frag) (mg:Str->Option Value) (base:Heap) (CX:CXT) (k:Nat) (f:Addr) (fd:FuncData) (ps:List Str) (sp:Sp):Prop where
 len:∀ vs H Q E,sp vs H Q E->vs.length=ps.length
 run:∀ (A:Around) (outer:List Env) (s:Shared) (H:Hp) (args:Args) (us:List Value) (vs:List V) (Q:VK) (E:XK),Room k A->Env0 P w K mg base A outer s H->BindsTo s fd args (ps.zip us)->Vals vs us->sp vs H Q E ->
  codeAny (model P w) A (.call (.ref f) args) (CR CX outer P w H s Q E) s
variable{mg:Str->Option Value}
theorem Env0.make {base:Heap}{outer:List Env} (e:Env0 P w K mg base A outer s H) (C:Addr) (us:List Value) (kw:List (Str×Value)) :
  Env0 P w K mg base (A.under (.builtin "type.__call__" ⟨.ref C :: us,kw⟩)) outer s H:=⟨by first | exact e.frames | (simpa [Around.under,Code.envs,Code.isFrame,pushEnvs] using e.frames),e.mod,e.bs,e.bsz,e.funs,e.frf,e.hok,e.bare⟩
section
variable {X:Cx}{pins:List (Addr×Obj)}{σ:St}{H:Hp}{s s':Shared}
theorem Inv.env0 (I:Inv X pins σ H s):Env0 X.prog X.w X.K X.mg X.base X.A X.stack s H :=
 ⟨I.ok.frames,I.ok.mod,I.bs,Nat.le_trans I.ok.bsz I.sz,I.stack,I.stkFree,I.hok,I.bare⟩
theorem Inv.after {Q:VK} (I:Inv X pins σ H s) (h:CE X.stack X.prog X.w H s Q u s'):EP X pins σ Q u s':=by
 obtain⟨v,H',os,bare,un,hok,r,q⟩:=h
 obtain⟨hh,g,d,t,os'⟩:=s'
 obtain rfl:os'=s.os:=os
 exact⟨v,H',I.call (h':=hh) (g':=g) (d':=d) (t':=t) (ch:=[]) un hok bare (fun b z=>absurd z (by simp)),r,q⟩
end
noncomputable def og (sp:Sp) (dvs:List V) (E:XK) (t:TA):TE:=fun σ H Q=>t σ H fun vs H1=>sp (vs++dvs) H1 Q E
inductive TM_ (C:Addr) (m:Str) (x:V) (H:Hp) (R:Prop):Prop
 | mk (a dx:Addr) (fs:List (Str×V)) (h1:x=.ref a) (h2:H a=some (.ins C dx fs)) (h3:fs.lookup m=none) (q:R):TM_ C m x H R
noncomputable def n9 (C:Addr) (m:Str) (sp:Sp) (dvs:List V) (E:XK) (ta:TE) (t:TA):TE:=fun σ H Q=>ta σ H fun x H1=>TM_ C m x H1 (t σ H1 fun vs H2=>sp (x::(vs++dvs)) H2 Q E)
noncomputable def tMake (C:Addr) (sp:Sp) (dvs:List V) (E:XK) (t:TA):TE:=fun σ H Q=>t σ H fun vs H1=>∀ x dx,H1 x=none->H1 dx=none->dx≠x ->
 sp (.ref x::(vs++dvs)) (upd (upd H1 dx (.own x)) x (.ins C dx [])) (fun v H2=>v=.non/\Q (.ref x) H2) E
noncomputable def Binds (K:PySem.W.Frag) (fd:FuncData) (ps:List Str) (ds:List Value):Prop :=
 ∀ (s:Shared) (us:List Value),K.In s.heap->(us++ds).length=ps.length->BindsTo s fd ⟨us,[]⟩ (ps.zip (us++ds))
theorem Binds.all {fd:FuncData}{ps:List Str} (h:∀ us:List Value,us.length=ps.length->bindArgs fd ⟨us,[]⟩=pure (ps.zip us)):Binds K fd ps []:=fun s us _ hl=>by
 rw[wx] at hl ⊢
 exact .of_eq (h us hl)
noncomputable def cW (CX:CXT) (X:Cx) (E:XK):Prop:=∀ (pins:List (Addr×Obj)) (σ:St) (H:Hp) (s:Shared) (e:Value) (s':Shared),Inv X pins σ H s->CX X.stack H s E e s'->X.xe e s'
section
variable {X:Cx}{CX:CXT}{k:Nat}{f C:Addr}{fd:FuncData}{ps:List Str}{sp:Sp}{dvs:List V}{ds:List Value}{E:XK}{x m:Str}{p pos apos:Pos}{e o:Expr}{es:List Expr}{ta:TE}{t:TA}
theorem iY {Q:VK}{us:List Value}{vs:List V} (F:FnOk X.prog X.w X.K X.mg X.base CX k f fd ps sp) (hr:Room k X.A) (hb:Binds X.K fd ps ds) (hd:Vals dvs ds) (hx:cW CX X E)
  (I:Inv X pins σ H s) (r:Vals vs us) (h:sp (vs++dvs) H Q E):wpAny (model X.prog X.w) X.A (call (.ref f) us) (EP X pins σ Q) X.xe s:=by
 have r2:Vals (vs++dvs) (us++ds):=r.append hd
 have hl:(us++ds).length=ps.length:=by rw[<- r2.length]; exact F.len _ _ _ _ h
 refine wpAny_call (codeAny_mono (F.run X.A X.stack s H ⟨us,[]⟩ (us++ds) (vs++dvs) Q E hr I.env0 (hb s us I.kIn hl) r2 h) fun r s' hq=>?_)
 cases r with
 | error e=>exact hx pins σ H s e s' I hq
 | ok fl=>
  cases fl with
  | ret u=>exact I.after hq
  | next=>exact False.elim hq
  | brk=>exact False.elim hq
  | cont=>exact False.elim hq
theorem qK (F:FnOk X.prog X.w X.K X.mg X.base CX k f fd ps sp) (hr:Room k X.A) (hg:Gl X x) (hm:X.mg x=some (.ref f)) (hk:W.keepIn X.K (.ref f)=true) (hb:Binds X.K fd ps ds) (hd:Vals dvs ds) (hx:cW CX X E)
  (ha:PA X (e::es) t) (hdb:(x == ("__debug__" : Str))=false:=by decide) (he:starEach (e::es) X.env=(false,eval e X.env)::starEach es X.env:=by rfl) (hpl:(backTo pos (starEach es X.env)).any (·.1)=false:=by rfl) :
  PE X (.Call (.Name x p) (e::es) [] pos) (og sp dvs E t):=by
 intro pins s σ H Q I h
 refine wpAny_Call_Name_kw (fY I hg hm ?_ hdb)
 refine PySem.W.callWith_K (h₀:=X.base) I.ok.mod.kin hk (thn (ha pos pins s σ H _ I h) fun us s1 ⟨vs,H1,I1,r,q⟩=>⟨I1.kIn,?_⟩) he hpl
 exact iY F hr hb hd hx I1 r q
theorem o0 (F:FnOk X.prog X.w X.K X.mg X.base CX k f fd ps sp) (hr:Room k X.A) (hg:Gl X x) (hm:X.mg x=some (.ref f)) (hk:W.keepIn X.K (.ref f)=true) (hb:Binds X.K fd ps ds) (hd:Vals dvs ds) (hx:cW CX X E)
  (hdb:(x == ("__debug__" : Str))=false:=by decide):PE X (.Call (.Name x p) [] [] pos) (og sp dvs E mK):=by
 intro pins s σ H Q I h
 refine wpAny_Call_Name_kw (fY I hg hm ?_ hdb)
 exact PySem.W.callWith_K0 I.kIn hk (iY (us:=[]) F hr hb hd hx I .nil h)
theorem aF {nr:Nat} (he:PE X o ta) (c:Cls X.K C) (hm:Meth X.K C m f) (F:FnOk X.prog X.w X.K X.mg X.base CX k f fd ps sp) (hr:Room nr X.A) (hb:Binds X.K fd ps ds) (hd:Vals dvs ds) (hx:cW CX X E) (ha:PA X (e::es) t)
  (hst:starEach (e::es) X.env=(false,eval e X.env)::starEach es X.env:=by rfl) (hpl:(backTo pos (starEach es X.env)).any (·.1)=false:=by rfl)
  (ht:eval (.Call (.Attribute o m apos) (e::es) [] pos) X.env=(do
   let ov <- eval o X.env
   standAt apos.atName
   let (f,first) <- holding [ov] (getMethod ov m pl)
   callWith pos f first (backTo pos (starEach (e::es) X.env)) (backToKw pos (keywordEach [] X.env))):=by rfl) (hj:k<=nr:=by decide) :
  PE X (.Call (.Attribute o m apos) (e::es) [] pos) (n9 C m sp dvs E ta t):=by
 intro pins s σ H Q I h
 refine PySem.W.methodCall_KW (pl:=pl) (thn (he pins s σ H _ I h) fun u s1 ⟨x,H1,I1,rx,a,dx,fs,ex,ea,l,q⟩=>?_) ht
 subst ex
 obtain rfl:u=Value.ref a:=rx
 refine d9 I1 ea c hm l ?_
 refine PySem.W.callWith_K (first:=[.ref a]) (h₀:=X.base) I.ok.mod.kin hm.kp (thn (ha pos pins s1 σ H1 _ I1 q) fun us s2 ⟨vs,H2,I2,r,q2⟩=>⟨I2.kIn,?_⟩) hst hpl
 exact iY (us:=.ref a::us) (vs:=.ref a::vs) F (hr.mono hj) hb hd hx I2 (.cons rfl r) q2
theorem aT {nr:Nat} (he:PE X o ta) (c:Cls X.K C) (hm:Meth X.K C m f) (F:FnOk X.prog X.w X.K X.mg X.base CX k f fd ps sp) (hr:Room nr X.A) (hb:Binds X.K fd ps ds) (hd:Vals dvs ds) (hx:cW CX X E)
  (ht:eval (.Call (.Attribute o m apos) [] [] pos) X.env=(do
   let ov <- eval o X.env
   standAt apos.atName
   let (f,first) <- holding [ov] (getMethod ov m pl)
   callWith pos f first (backTo pos (starEach [] X.env)) (backToKw pos (keywordEach [] X.env))):=by rfl) (hj:k<=nr:=by decide) :
  PE X (.Call (.Attribute o m apos) [] [] pos) (n9 C m sp dvs E ta mK):=by
 intro pins s σ H Q I h
 refine PySem.W.methodCall_KW (pl:=pl) (thn (he pins s σ H _ I h) fun u s1 ⟨x,H1,I1,rx,a,dx,fs,ex,ea,l,q⟩=>?_) ht
 subst ex
 obtain rfl:u=Value.ref a:=rx
 refine d9 I1 ea c hm l ?_
 exact PySem.W.callWith_K0 (first:=[.ref a]) I1.kIn hm.kp (iY (us:=[.ref a]) (vs:=[.ref a]) F (hr.mono hj) hb hd hx I1 (.cons rfl .nil) q)
structure Mk (K:PySem.W.Frag) (C f:Addr):Prop where
 makes:W.makesIn K C=true
 init:W.findIn K (.ref C) "__init__" = some (some (.ref f))
 fn:W.isFn K (.ref f)=true
 kp:W.keepIn K (.ref C)=true
theorem oO {Q:VK}{us:List Value}{vs:List V} (M:Mk X.K C f) (F:FnOk X.prog X.w X.K X.mg X.base CX k f fd ps sp) (hr:Room (k+1) X.A) (hb:Binds X.K fd ps ds) (hd:Vals dvs ds)
  (hx:cW CX X E) (I:Inv X pins σ H s) (r:Vals vs us)
  (h:∀ x dx,H x=none->H dx=none->dx≠x->sp (.ref x::(vs++dvs)) (upd (upd H dx (.own x)) x (.ins C dx [])) (fun v H2=>v=.non/\Q (.ref x) H2) E) :
  wpAny (model X.prog X.w) X.A (call (.ref C) us) (EP X pins σ Q) X.xe s:=by
 have hq:=h (s.heap.objs.size+1) s.heap.objs.size (I.hok.fresh (Nat.le_succ _)) (I.hok.fresh (Nat.le_refl _)) (Nat.ne_of_lt (Nat.lt_succ_self _))
 have I2:=Inv.made (C:=C) I
 have r2:Vals (V.ref (s.heap.objs.size+1)::(vs++dvs)) (Value.ref (s.heap.objs.size+1)::(us++ds)):=.cons rfl (r.append hd)
 have hl:(Value.ref (s.heap.objs.size+1)::us++ds).length=ps.length:=by
  have e:=r2.length
  rw[F.len _ _ _ _ hq] at e
  exact e.symm
 refine wpAny_call (pK (f:=f) I.kIn M.makes M.init (beq_iff_eq.mp M.fn) (codeAny_mono (F.run _ X.stack _ _ ⟨Value.ref (s.heap.objs.size+1)::us,[]⟩ (Value.ref (s.heap.objs.size+1)::(us++ds)) _ _ E (hr.make C us [])
  (I2.env0.make C us []) (hb _ (Value.ref (s.heap.objs.size+1)::us) I2.kIn hl) r2 hq) fun r s' hq'=>?_))
 cases r with
 | error e=>exact hx pins σ _ _ e s' I2 hq'
 | ok fl=>
  cases fl with
  | ret u=>
   obtain⟨v,H',I3,rv,ev,q3⟩:=I2.after hq'
   subst ev
   exact⟨rv,⟨V.ref (s.heap.objs.size+1),H',I3,U,q3⟩⟩
  | next=>exact False.elim hq'
  | brk=>exact False.elim hq'
  | cont=>exact False.elim hq'
theorem jM (M:Mk X.K C f) (F:FnOk X.prog X.w X.K X.mg X.base CX k f fd ps sp) (hr:Room (k+1) X.A) (hg:Gl X x) (hm:X.mg x=some (.ref C)) (hb:Binds X.K fd ps ds) (hd:Vals dvs ds) (hx:cW CX X E)
  (hdb:(x == ("__debug__" : Str))=false:=by decide):PE X (.Call (.Name x p) [] [] pos) (tMake C sp dvs E mK):=by
 intro pins s σ H Q I h
 refine wpAny_Call_Name_kw (fY I hg hm ?_ hdb)
 exact PySem.W.callWith_K0 I.kIn M.kp (oO (us:=[]) M F hr hb hd hx I .nil h)
end
noncomputable def PK (X:Cx) (kws:List Keyword) (t:TA):Prop :=
 ∀ (pos:Pos) (pins:List (Addr×Obj)) (s:Shared) (σ:St) (H:Hp) (Q:List V->Hp->Prop),Inv X pins σ H s->t σ H Q->wpAny (model X.prog X.w) X.A (evalAll ((backToKw pos (keywordEach kws X.env)).map (·.2))) (AP X pins σ Q) X.xe s
section
variable {X:Cx}{CX:CXT}{k:Nat}{f C:Addr}{fd:FuncData}{ps ks:List Str}{sp:Sp}{E:XK}{x m:Str}{p pos apos kpos:Pos}{e o:Expr}{es:List Expr}{kws:List Keyword}{te ta:TE}{t tk:TA}{nm:Option Str}
theorem tS:PK X [] mK:=fun _ _ _ _ H Q I h=>wpAny_evalAll_nil ⟨[],H,I,.nil,h⟩
theorem lM (ha:PE X e te) (hr:PK X kws t):PK X (⟨nm,e,kpos⟩::kws) (r8 te t):=by
 intro pos pins s σ H Q I h
 show wpAny _ _ (evalAll ((do let v <- eval e X.env; standAt pos; pure v)::(backToKw pos (keywordEach kws X.env)).map (·.2))) _ _ s
 refine wpAny_evalAll_cons (wpAny_bind (thn (ha pins s σ H _ I h) fun u s1 ⟨x,H1,I1,r1,q1⟩=>wpAny_bind (wpAny_standAt (wpAny_pure ?_))))
 exact thn (hr pos pins s1 σ H1 _ I1 q1) fun us s2 ⟨xs,H2,I2,r2,q2⟩=>⟨x::xs,H2,I2,.cons r1 r2,q2⟩
structure KBinds (K:PySem.W.Frag) (fd:FuncData) (ps ks:List Str) (g:List Value->List Value->List Value) (gV:List V->List V->List V):Prop where
 to:∀ (s:Shared) (us ws:List Value),K.In s.heap->(g us ws).length=ps.length->BindsTo s fd ⟨us,ks.zip ws⟩ (ps.zip (g us ws))
 rel:∀ {vs:List V}{us:List Value}{zs:List V}{ws:List Value},Vals vs us->Vals zs ws->Vals (gV vs zs) (g us ws)
variable {g:List Value->List Value->List Value}{gV:List V->List V->List V}
theorem qC {Q:VK}{us ws:List Value}{vs zs:List V} (F:FnOk X.prog X.w X.K X.mg X.base CX k f fd ps sp) (hr:Room k X.A) (hb:KBinds X.K fd ps ks g gV) (hx:cW CX X E)
  (I:Inv X pins σ H s) (r:Vals vs us) (rz:Vals zs ws) (h:sp (gV vs zs) H Q E):wpAny (model X.prog X.w) X.A (call (.ref f) us (ks.zip ws)) (EP X pins σ Q) X.xe s:=by
 have r2:=hb.rel r rz
 have hl:(g us ws).length=ps.length:=by rw[<- r2.length]; exact F.len _ _ _ _ h
 refine wpAny_call (codeAny_mono (F.run X.A X.stack s H ⟨us,ks.zip ws⟩ (g us ws) (gV vs zs) Q E hr I.env0 (hb.to s us ws I.kIn hl) r2 h) fun r s' hq=>?_)
 cases r with
 | error e=>exact hx pins σ H s e s' I hq
 | ok fl=>
  cases fl with
  | ret u=>exact I.after hq
  | next=>exact False.elim hq
  | brk=>exact False.elim hq
  | cont=>exact False.elim hq
end
structure FnScope (N P:List Str) (sc:Scope):Prop where
 kind:sc.kind=.function:=by rfl
 co:sc.isCoroutine=false:=by rfl
 gen:sc.isGenerator=false:=by rfl
 nd:N.Nodup:=by decide +kernel
 pre:N.take P.length=P:=by rfl
 par:∀ x ∈ P,sc.names.lookup x=some .local∨sc.names.lookup x=some .cell:=by decide +kernel
 nofree:∀ y ∈ sc.names,y.2≠.free:=by decide +kernel
theorem iQ {kindOf : Str->Option NameKind}{x : Str} : ∀ {binds : List (Str×Value)}{m : Str->Option Value}, (∀ v, (x, v) ∉ binds)->bindL kindOf binds m x=m x
  | [], _, _=>rfl
  | (n, v) :: r, m, h => by
    unfold bindL
    rw[iQ fun w hw=>h w (wc _ hw)]
    split
    · have : x≠n := by rintro rfl; exact h v we
      simp[this]
    · rfl
theorem iS {kindOf : Str->Option NameKind}{x : Str} : ∀ {binds : List (Str×Value)}{m : Str->Option Value}, (∀ v, (x, v) ∉ binds)->bindC kindOf binds m x=m x
  | [], _, _=>rfl
  | (n, v) :: r, m, h => by
    unfold bindC
    rw[iS fun w hw=>h w (wc _ hw)]
    split
    · rfl
    · have : x≠n := by rintro rfl; exact h v we
      simp[this]
theorem iR {kindOf:Str->Option NameKind}{x:Str}{v:Value}:∀ {P:List Str}{vs:List Value}{i:Nat}{m:Str->Option Value},P.Nodup->P[i]?=some x->vs[i]?=some v->kindOf x=some .local ->
  bindL kindOf (P.zip vs) m x=some v
 | [],_,_,_,_,h,_,_=>by simp at h
 | _::_,[],_,_,_,_,h,_=>by simp at h
 | p::P,w::vs,0,m,nd,h1,h2,hk=>by
  simp at h1 h2; subst h1; subst h2
  show bindL kindOf ((p,w)::P.zip vs) m p=_
  unfold bindL
  rw[iQ fun v hv=>(List.nodup_cons.mp nd).1 (List.of_mem_zip hv).1,if_pos hk]
  simp
 | p::P,w::vs,i+1,m,nd,h1,h2,hk=>by
  show bindL kindOf ((p,w)::P.zip vs) m x=_
  unfold bindL
  exact iR (i:=i) (List.nodup_cons.mp nd).2 (by simpa using h1) (by simpa using h2) hk
theorem iT {kindOf:Str->Option NameKind}{x:Str}{v:Value}:∀ {P:List Str}{vs:List Value}{i:Nat}{m:Str->Option Value},P.Nodup->P[i]?=some x->vs[i]?=some v->kindOf x≠some .local ->
  bindC kindOf (P.zip vs) m x=some v
 | [],_,_,_,_,h,_,_=>by simp at h
 | _::_,[],_,_,_,_,h,_=>by simp at h
 | p::P,w::vs,0,m,nd,h1,h2,hk=>by
  simp at h1 h2; subst h1; subst h2
  show bindC kindOf ((p,w)::P.zip vs) m p=_
  unfold bindC
  rw[iS fun v hv=>(List.nodup_cons.mp nd).1 (List.of_mem_zip hv).1,if_neg hk]
  simp
 | p::P,w::vs,i+1,m,nd,h1,h2,hk=>by
  show bindC kindOf ((p,w)::P.zip vs) m x=_
  unfold bindC
  exact iT (i:=i) (List.nodup_cons.mp nd).2 (by simpa using h1) (by simpa using h2) hk
noncomputable def start (N:List Str) (vs:List V):St:=vs.map some++List.replicate (N.length - vs.length) none
noncomputable def nG (CX:CXT) (P:Program) (w:World) (K:PySem.W.Frag) (mg:Str->Option Value) (base:Heap) (N:List Str) (qual:Str) (scope:Scope) (f:Addr) (cd:Value) (A:Around) (outer:List Env) (s:Shared) (H:Hp) (E:XK):Cx where
 prog:=P
 w:=w
 K:=K
 mg:=mg
 base:=base
 A:=A.deeper (envOfC qual scope s.heap.objs.size f cd)
 N:=N
 s₀:=s
 H₀:=H
 env:=envOfC qual scope s.heap.objs.size f cd
 outer:=outer
 stack:=envOfC qual scope s.heap.objs.size f cd::outer
 ex:=[]
 calm:=true
 fn:=fun _=>true
 pn:=[]
 xe:=fun e s'=>wpAny (model P w) (A.deeper (envOfC qual scope s.heap.objs.size f cd)) (leaving (envOfC qual scope s.heap.objs.size f cd) e) (fun _ s''=>CX outer H s E e s'') (fun e' s''=>CX outer H s E e' s'') s'
theorem kx {sc:Scope}{n:Nat}{x:Str} (h:sc.names.lookup x=some .cell):∃ c,(cellsFrom n sc.names []).lookup x=some c:=by
 have q:=PySem.W.cellsFrom_some sc.names n [] (.inl h)
 exact Option.isSome_iff_exists.mp q
theorem ni {CX:CXT}{base:Heap}{N ps:List Str}{qual:Str}{scope:Scope}{f:Addr}{cd:Value}{outer:List Env}{s s1:Shared}{E:XK}{vs:List V}
  (S:FnScope N ps scope) (hd:A.handled=none) (e0:Env0 P w K mg base A outer s H) (hl:vs.length=ps.length) (r:Vals vs us)
  (x:InCallC s s.heap.objs.size (bindL (envOfC qual scope s.heap.objs.size f cd).kindOf (ps.zip us) fun _=>none) (cellsFrom (s.heap.objs.size+1) scope.names []) (bindC (envOfC qual scope s.heap.objs.size f cd).kindOf (ps.zip us) fun _=>none) s1) :
  Inv (nG CX P w K mg base N qual scope f cd A outer s H E) [] (start N vs) H s1:=by
 have hpl:ps.length<=N.length:=by have:=congrArg List.length S.pre; rw[wy] at this; omega
 obtain⟨h1,tk,rfl,hk⟩:=x.done
 have noA:∀ b:Addr,b ∉ (nG CX P w K mg base N qual scope f cd A outer s H E).ex:=fun b z=>absurd (show b ∈ ([]:List Addr) from z) (by simp)
 refine⟨⟨e0.mod,S.kind,U,U,Nat.le_refl _,fun y z c h1 h2=>?_,fun y hy=>?_,fun y c _ h=>?_,fun _=>hd,Around.frames_deeper e0.frames,.inr ⟨U,U⟩,fun b z=>absurd z (noA b),e0.bs,e0.bsz,fun b _ _=>noA b,fun b z=>absurd z (noA b),e0.funs,e0.frf⟩,
  rfl,e0.bare,Un.kept hk,⟨_,x.toInCall.ns,fun i y v h1 h2 h3=>?_⟩,fun y c h=>⟨_,x.cell y c h⟩,e0.hok.fresh (Nat.le_refl _),fun y c h=>?_,fun p hp=>absurd (show p ∈ ([]:List (Addr×Obj)) from hp) (by simp),e0.hok.kept hk,?_⟩
 ·exact name_of_addr x.apart (PySem.mem_of_lookup h1) (PySem.mem_of_lookup h2)
 ·have hy:scope.names.lookup y=some .cell∨scope.names.lookup y=some .free:=hy
  rcases hy with hy | hy
  ·exact kx hy
  ·exact absurd rfl (S.nofree _ (PySem.mem_of_lookup hy))
 ·exact Nat.le_of_lt (x.above y c (PySem.mem_of_lookup h))
 ·have hi:i<vs.length:=by
   unfold start at h2
   by_cases hi:i<vs.length
   ·exact hi
   ·rw[wn (by simpa using hi)] at h2
    rw[List.getElem?_replicate] at h2
    split at h2 <;> cases h2
  have ha:vs[i]?=some v:=by
   unfold start at h2
   rw[wr (by simpa using hi),wd] at h2
   cases e:vs[i]? with
   | none=>rw[e] at h2; cases h2
   | some a=>rw[e] at h2; cases h2; rfl
  obtain⟨u,hu,rv⟩:=r.get ha
  have hp:ps[i]?=some y:=by
   rw[<- S.pre,List.getElem?_take_of_lt (by omega)]; exact h1
  have ndP:ps.Nodup:=by rw[<- S.pre]; exact S.nd.sublist (List.take_sublist _ _)
  refine⟨u,rv,?_⟩
  rcases S.par y (wj hp) with k | k
  ·exact .inl ⟨k,iR ndP hp hu k⟩
  ·obtain⟨c,e⟩:=kx (n:=s.heap.objs.size+1) k
   refine .inr ⟨.inl k,c,e,?_⟩
   have q:=x.cell y c e
   rw[iT ndP hp hu (by show scope.names.lookup y≠_; rw[k]; decide)] at q
   exact q
 ·exact e0.hok.fresh (Nat.le_of_lt (x.above y c (PySem.mem_of_lookup h)))
 ·unfold start
  show _=N.length
  rw[wf,v9,ww]
  omega
theorem fn_of {CX:CXT}{base:Heap}{k:Nat}{f:Addr}{name qual:Str}{params:Arguments}{body:List Stmt}{scope:Scope}{dV kV doc pm cdv ct oc:Value}{an od:Option Addr}
  {osl:Array (Option Value)}{N ps:List Str}{sp:Sp} (lk:K.lookup f=some ⟨oc,od,.func (W.fnOf name qual params body scope dV kV doc pm an cdv ct),osl⟩) (hcd:W.codeIn K cdv qual=true) (S:FnScope N ps scope)
  (len:∀ vs H Q E,sp vs H Q E->vs.length=ps.length)
  (hbody:∀ (A:Around) (outer:List Env) (s:Shared) (H:Hp) (vs:List V) (Q:VK) (E:XK),Room k (A.deeper (envOfC qual scope s.heap.objs.size f cdv))->sp vs H Q E ->
   ∃ t,PSs (nG CX P w K mg base N qual scope f cdv A outer s H E) body t/\t { nx:=fun _ H'=>Q .non H',rt:=Q } (start N vs) H) :
  FnOk P w K mg base CX (k+1) f (W.fnOf name qual params body scope dV kV doc pm an cdv ct) ps sp:=by
 refine⟨len,fun A outer s H args us vs Q E hr e0 hb r hsp=>?_⟩
 have hl:=len _ _ _ _ hsp
 have KX:K.In s.heap:=e0.mod.kin.keeps fun b o e=>(e0.bs b o e).1
 have lim:s.heap.NoLimit:=e0.mod.nolimit.keeps fun b o e=>(e0.bs b o e).1
 have hkind:∀ y ∈ ps.zip us,scope.names.lookup y.1=some .local∨(scope.names.lookup y.1=some .cell/\((cellsFrom (s.heap.objs.size+1) scope.names []).lookup y.1).isSome=true):=fun⟨n,v⟩ hy=>by
  rcases S.par n (List.of_mem_zip hy).1 with q | q
  ·exact .inl q
  ·exact .inr ⟨q,PySem.W.cellsFrom_some _ _ _ (.inl q)⟩
 refine codeAny_call_function hr.depth (KX _ _ lk) rfl S.co S.gen rfl (PySem.W.codeRec_of KX hcd) (hb _ _ _ _ ?_)
 refine wpAny_newFunctionEnv_cells S.kind hkind fun env he s1 x=>?_
 subst he
 refine⟨lim.keeps x.toInCall.keep,codeAny_func ?_⟩
 obtain⟨t,ht,hq⟩:=hbody A outer s H vs Q E (hr.deeper _) hsp
 have I:Inv (nG CX P w K mg base N qual scope f cdv A outer s H E) [] (start N vs) H s1:=ni S hr.hd e0 hl r x
 refine wpAny_mono (ht [] s1 (start N vs) H _ I hq) (fun fl s' hs=>?_) fun e s' hs=>hs
 have fin:∀ {σ':St}{H':Hp}{v:V}{u:Value},Inv (nG CX P w K mg base N qual scope f cdv A outer s H E) [] σ' H' s'->RelV v u->Q v H'->CE outer P w H s Q u s' :=
  fun {σ' H' v u} J rv q=>⟨v,H',J.os,J.bare,J.base,J.hok,rv,q⟩
 cases fl with
 | ret u=>
  obtain⟨v,σ',H',J,rv,q⟩:=hs
  exact fin J rv q
 | next=>
  obtain⟨σ',H',J,q⟩:=hs
  exact fin (v:=V.non) (u:=Value.none) J rfl q
 | brk=>
  obtain⟨_,_,_,q⟩:=hs
  exact False.elim q
 | cont=>
  obtain⟨_,_,_,q⟩:=hs
  exact False.elim q
section
variable {X:Cx}{x:Str}{p pos:Pos}{e:Expr}{es:List Expr}{t:TA}{id T:String}{r:List V->Hp->VK->Prop}
noncomputable def tCB (r:List V->Hp->VK->Prop) (t:TA):TE:=fun σ H Q=>t σ H fun vs H1=>r vs H1 Q
theorem aG (hc:cD X (.builtin id) r) (hg:Gl X x) (hm:X.mg x=none) (hv:bootBuiltins x=some (.builtin id)) (ha:PA X (e::es) t) (hn:x ≠ "__name__":=by decide) (hdb:(x == ("__debug__" : Str))=false:=by decide)
  (he:starEach (e::es) X.env=(false,eval e X.env)::starEach es X.env:=by rfl) (hpl:(backTo pos (starEach es X.env)).any (·.1)=false:=by rfl):PE X (.Call (.Name x p) (e::es) [] pos) (tCB r t):=by
 intro pins s σ H Q I h
 refine wpAny_Call_Name_kw (d6 I hg hm hv ?_ hn hdb)
 exact PyProof.Rows.callWith_builtin1 (thn (ha pos pins s σ H _ I h) fun us s1 ⟨vs,H1,I1,r1,q1⟩=>hc pins s1 σ H1 vs us Q I1 r1 q1) he hpl
theorem bb (hc:cD X (.type T) r) (hg:Gl X x) (hm:X.mg x=none) (hv:bootBuiltins x=some (.type T)) (ha:PA X (e::es) t) (hn:x ≠ "__name__":=by decide) (hdb:(x == ("__debug__" : Str))=false:=by decide)
  (he:starEach (e::es) X.env=(false,eval e X.env)::starEach es X.env:=by rfl) (hpl:(backTo pos (starEach es X.env)).any (·.1)=false:=by rfl):PE X (.Call (.Name x p) (e::es) [] pos) (tCB r t):=by
 intro pins s σ H Q I h
 refine wpAny_Call_Name_kw (d6 I hg hm hv ?_ hn hdb)
 exact PyProof.Rows.callWith_type1 (thn (ha pos pins s σ H _ I h) fun us s1 ⟨vs,H1,I1,r1,q1⟩=>hc pins s1 σ H1 vs us Q I1 r1 q1) he hpl
end
end L2
namespace L2
open PySem PySem.Spec PyProof.Rows
variable{u:Value}
section
variable {κ:Type} [DecidableEq κ]
noncomputable def aq (kvs:List (κ×V)) (k:κ):Option V:=(kvs.find? fun kv=>decide (kv.1=k)).map (·.2)
noncomputable def aO (kvs:List (κ×V)) (k:κ) (v:V):List (κ×V) :=
 if (kvs.any fun kv=>decide (kv.1=k))=true then kvs.map (fun kv=>if kv.1=k then(kv.1,v) else kv) else kvs++[(k,v)]
noncomputable def aD (kvs:List (κ×V)) (k:κ):List (κ×V):=kvs.filter fun kv=>decide (kv.1≠k)
theorem jH {k:κ}:aq ([]:List (κ×V)) k=none:=rfl
theorem bt {p:κ×V}{r:List (κ×V)}{k:κ} (e:p.1=k):aq (p::r) k=some p.2:=by simp[aq,wH,e]
theorem bo {p:κ×V}{r:List (κ×V)}{k:κ} (e:¬ p.1=k):aq (p::r) k=aq r k:=by simp[aq,wH,e]
theorem dv (k:κ):∀ kvs:List (κ×V),(kvs.any fun kv=>decide (kv.1=k))=(aq kvs k).isSome
 | []=>rfl
 | p::r=>by
  rw[List.any_cons]
  by_cases e:p.1=k
  ·simp only[bt e,decide_eq_true e,Bool.true_or,Option.isSome_some]
  ·rw[bo e,decide_eq_false e,Bool.false_or]; exact dv k r
theorem jI (k j:κ) (y:V):∀ kvs:List (κ×V),aq (kvs.map fun kv=>if kv.1=k then(kv.1,y) else kv) j=(aq kvs j).map fun x=>if j=k then y else x
 | []=>rfl
 | p::r=>by
  have ih:=jI k j y r
  rw[wu]
  by_cases h:p.1=k
  ·rw[if_pos h]
   by_cases e:p.1=j
   ·rw[bt (p:=(p.1,y)) e,bt e,Option.map_some,if_pos (e.symm.trans h)]
   ·rw[bo (p:=(p.1,y)) e,bo e,ih]
  ·rw[if_neg h]
   by_cases e:p.1=j
   ·rw[bt (p:=p) e,bt e,Option.map_some,if_neg (fun z=>h (e.trans z))]
   ·rw[bo (p:=p) e,bo e,ih]
theorem iB (k j:κ) (y:V):∀ kvs:List (κ×V),aq kvs k=none->aq (kvs++[(k,y)]) j=if j=k then some y else aq kvs j
 | [],_=>by
  by_cases e:k=j
  ·rw[if_pos e.symm]; exact bt (p:=(k,y)) e
  ·rw[if_neg (fun z=>e z.symm)]; exact bo (p:=(k,y)) e
 | p::r,hn=>by
  rw[List.cons_append]
  have hk:¬ p.1=k:=fun z=>by rw[bt z] at hn; cases hn
  rw[bo hk] at hn
  have ih:=iB k j y r hn
  by_cases e:p.1=j
  ·rw[bt e,bt e,if_neg (fun z=>hk (e.trans z))]
  ·rw[bo e,bo e,ih]
theorem aN (kvs:List (κ×V)) (k j:κ) (y:V):aq (aO kvs k y) j=if j=k then some y else aq kvs j:=by
 unfold aO
 by_cases a:(kvs.any fun kv=>decide (kv.1=k))=true
 ·rw[if_pos a,jI]
  rw[dv] at a
  by_cases e:j=k
  ·obtain⟨x,hx⟩:=Option.isSome_iff_exists.mp a
   rw[if_pos e,e,hx,Option.map_some,if_pos rfl]
  ·rw[if_neg e]
   cases aq kvs j with
   | none=>rfl
   | some x=>rw[Option.map_some,if_neg e]
 ·rw[if_neg a]
  refine iB k j y kvs ?_
  rw[dv] at a
  cases q:aq kvs k with
  | none=>rfl
  | some x=>rw[q] at a; exact(a rfl).elim
theorem bD (kvs:List (κ×V)) (k:κ) (v:V):(aO kvs k v).length<=kvs.length+1:=by
 unfold aO
 split
 ·rw[v9]; omega
 ·rw[wf,wl,List.length_nil]; omega
theorem cM {kvs:List (κ×V)}{k:κ} (v:V) (h:aq kvs k=none):aO kvs k v=kvs++[(k,v)]:=by
 unfold aO
 rw[dv,h]
 exact if_neg (by decide)
theorem RelO.isSome_eq {o:Option V}{u:Option Value} (r:RelO o u):o.isSome=u.isSome:=by
 cases o with
 | none=>cases u with
  | none=>rfl
  | some _=>exact(show False from r).elim
 | some _=>cases u with
  | none=>exact(show False from r).elim
  | some _=>rfl
theorem RelO.getD {o:Option V}{u:Option Value}{d:V}{d':Value} (r:RelO o u) (rd:RelV d d'):RelV (o.getD d) (u.getD d'):=by
 cases o with
 | none=>cases u with
  | none=>exact rd
  | some _=>exact(show False from r).elim
 | some _=>cases u with
  | none=>exact(show False from r).elim
  | some _=>exact r
theorem KV.val {kvs:List (κ×V)}{vs:List (κ×Value)} (r:KV kvs vs) (k:κ):RelO (aq kvs k) (valueAt vs k):=by
 unfold KV at r
 induction r with
 | nil=>exact True.intro
 | @cons p q ps qs h t ih=>
  obtain⟨h1,h2⟩:=h
  by_cases e:p.1=k
  ·have e':q.1=k:=h1.symm.trans e
   have b:valueAt (q::qs) k=some q.2:=by simp[valueAt,wH,e']
   rw[bt e,b]; exact h2
  ·have e':¬ q.1=k:=fun z=>e (h1.trans z)
   have b:valueAt (q::qs) k=valueAt qs k:=by simp[valueAt,wH,e']
   rw[bo e,b]; exact ih
theorem KV.any {kvs:List (κ×V)}{vs:List (κ×Value)} (r:KV kvs vs) (k:κ):(kvs.any fun kv=>decide (kv.1=k))=vs.any fun kv=>decide (kv.1=k):=by
 unfold KV at r
 induction r with
 | nil=>rfl
 | cons h t ih=>rw[List.any_cons,List.any_cons,ih,h.1]
theorem KV.repl {kvs:List (κ×V)}{vs:List (κ×Value)} (r:KV kvs vs) (k:κ) {y:V} (ry:RelV y u) :
  KV (kvs.map fun kv=>if kv.1=k then(kv.1,y) else kv) (vs.map fun kv=>if kv.1=k then(kv.1,u) else kv):=by
 unfold KV at r ⊢
 induction r with
 | nil=>exact .nil
 | @cons p q ps qs h t ih=>
  rw[wu,wu]
  refine .cons ?_ ih
  obtain⟨h1,h2⟩:=h
  by_cases e:p.1=k
  ·rw[if_pos e,if_pos (h1.symm.trans e)]; exact⟨h1,ry⟩
  ·rw[if_neg e,if_neg (fun z=>e (h1.trans z))]; exact⟨h1,h2⟩
theorem KV.put {kvs:List (κ×V)}{vs:List (κ×Value)} (r:KV kvs vs) (k:κ) {y:V} (ry:RelV y u):KV (aO kvs k y) (stored vs k u):=by
 unfold aO stored
 rw[r.any k]
 by_cases e:(vs.any fun kv=>decide (kv.1=k))=true
 ·rw[if_pos e,if_pos e]; exact r.repl k ry
 ·rw[if_neg e,if_neg e]; exact Paired.snoc r ⟨U,ry⟩
theorem KV.drop {kvs:List (κ×V)}{vs:List (κ×Value)} (r:KV kvs vs) (k:κ):KV (aD kvs k) (without vs k):=by
 unfold KV at r ⊢
 unfold aD without
 induction r with
 | nil=>exact .nil
 | @cons p q ps qs h t ih=>
  obtain⟨h1,h2⟩:=h
  rw[List.filter_cons,List.filter_cons]
  by_cases e:p.1=k
  ·have a:¬ decide (p.1≠k)=true:=by simp[e]
   have b:¬ decide (q.1≠k)=true:=by simp[h1.symm.trans e]
   rw[if_neg a,if_neg b]; exact ih
  ·have e':¬ q.1=k:=fun z=>e (h1.trans z)
   have a:decide (p.1≠k)=true:=by simp[e]
   have b:decide (q.1≠k)=true:=by simp[e']
   rw[if_pos a,if_pos b]; exact .cons ⟨h1,h2⟩ ih
theorem KV.keys {kvs:List (κ×V)}{vs:List (κ×Value)} (r:KV kvs vs):kvs.map (·.1)=vs.map (·.1):=by
 unfold KV at r
 induction r with
 | nil=>rfl
 | cons h t ih=>rw[wu,wu,ih,h.1]
theorem KV.length {kvs:List (κ×V)}{vs:List (κ×Value)} (r:KV kvs vs):kvs.length=vs.length:=Paired.length r
theorem ko (kvs:List (κ×V)) (k:κ):(aD kvs k).length<=kvs.length:=List.length_filter_le _ _
end
variable{P:Program}{w:World}
theorem eQ {k:Key} (r:RelV (kV k) u):(aS P w).is k u=true:=by
 cases k with
 | inl i=>obtain⟨t,e⟩:=(show ∃ t,u=Value.int i t from r); subst e; exact jY P w i t
 | inr x=>obtain⟨t,e⟩:=(show ∃ t,u=Value.str x t from r); subst e; exact jX P w x t
theorem iO :∀ {ks:List Key}{us:List Value},Vals (ks.map kV) us->ItemsAre (aS P w) ks us
 | [],_,r=>by rw[List.map_nil] at r; cases r; exact .nil
 | k::ks,_,r=>by
  rw[wu] at r
  cases r with
  | cons h t=>exact .cons (eQ h) (iO t)
noncomputable abbrev KT (H:Hp):List (List Key×V)->List (List Key×Addr×Value)->Prop:=Paired fun p q=>p.1=q.1/\H q.2.1=some (.tup (p.1.map kV))/\RelV p.2 q.2.2
variable{kvs:List (List Key×V)}{xs:List (List Key×Addr×Value)}{H:Hp}
theorem KT.val (r:KT H kvs xs) (k:List Key):RelO (aq kvs k) ((atKey xs k).map (·.2)):=by
 induction r with
 | nil=>exact True.intro
 | @cons p q ps qs h t ih=>
  obtain⟨h1,_,h2⟩:=h
  by_cases e:p.1=k
  ·have e':q.1=k:=h1.symm.trans e
   have b:atKey (q::qs) k=some q.2:=by simp[atKey,wH,e']
   rw[bt e,b]; exact h2
  ·have e':¬ q.1=k:=fun z=>e (h1.trans z)
   have b:atKey (q::qs) k=atKey qs k:=by simp[atKey,wH,e']
   rw[bo e,b]; exact ih
theorem KT.repl (r:KT H kvs xs) (k:List Key) {y:V} (ry:RelV y u) :
  KT H (kvs.map fun kv=>if kv.1=k then(kv.1,y) else kv) (xs.map (putAt k u)):=by
 induction r with
 | nil=>exact .nil
 | @cons p q ps qs h t ih=>
  rw[wu,wu]
  refine .cons ?_ ih
  obtain⟨h1,h2,h3⟩:=h
  unfold putAt
  by_cases e:p.1=k
  ·rw[if_pos e,if_pos (h1.symm.trans e)]; exact⟨h1,h2,ry⟩
  ·rw[if_neg e,if_neg (fun z=>e (h1.trans z))]; exact⟨h1,h2,h3⟩
theorem KT.put (r:KT H kvs xs) (k:List Key) {b:Addr}{y:V} (hb:H b=some (.tup (k.map kV))) (ry:RelV y u) :
  KT H (aO kvs k y) (storedH xs k b u):=by
 have e:(kvs.any fun kv=>decide (kv.1=k))=(atKey xs k).isSome:=by
  rw[dv,(r.val k).isSome_eq,Option.isSome_map]
 unfold aO storedH
 rw[e]
 by_cases q:(atKey xs k).isSome=true
 ·rw[if_pos q,if_pos q]; exact r.repl k ry
 ·rw[if_neg q,if_neg q]; exact Paired.snoc r ⟨U,hb,ry⟩
theorem KT.keeps {H H':Hp} (r:KT H kvs xs) (ht:∀ b ys,H b=some (.tup ys)->H' b=some (.tup ys)):KT H' kvs xs :=
 Paired.mapP r fun _ _ z=>⟨z.1,ht _ _ z.2.1,z.2.2⟩
section
variable {P:Program}{w:World}{H:Hp}{h:Heap}{a:Addr}
theorem sJ {u:HO} (ok:HOk P w H h) (e:Rd H a u):ObjOk P w H h a u:=e.ok ok
theorem fL {kvs:List (Key×V)} (ok:HOk P w H h) (e:Rd H a (.dK kvs)):kvs.length<=sizeLine/\(a == sysModules)=false/\∃ vs,KV kvs vs/\h.DictOf (aS P w) a vs :=
 show ObjOk P w H h a (.dK kvs) from sJ ok e
theorem mj {kvs:List (Key×V)} (ok:HOk P w H h) (e:H a=some (.dK kvs)):kvs.length<=sizeLine/\(a == sysModules)=false/\∃ vs,KV kvs vs/\h.DictOf (aS P w) a vs:=fL ok (.inl e)
theorem fB {ks:List Key} (ok:HOk P w H h) (e:H a=some (.tup (ks.map kV))):(tupleKind (aS P w)).is h ks a:=by
 obtain⟨_,its,r,o,h1,h2,n,h3⟩:=(show ObjOk P w H h a (.tup (ks.map kV)) from ok a _ e)
 exact⟨o,its.toArray,n,h1,h2,h3,by simpa using iO r⟩
theorem fK (ok:HOk P w H h) (e:Rd H a (.dT kvs)):kvs.length<=sizeLine/\(a == sysModules)=false /\
  ∃ xs,KT H kvs xs/\h.DictOfH (tupleKind (aS P w)) a xs:=by
 obtain⟨z,y,xs,r,o,es,ep,h1,h2,h3,h4,h5⟩:=(show ObjOk P w H h a (.dT kvs) from sJ ok e)
 refine⟨z,y,xs,r,o,es,ep,h1,h2,h3,h4,fun x hx=>?_,h5⟩
 have all:∀ {l:List (List Key×V)}{m:List (List Key×Addr×Value)},KT H l m->∀ x ∈ m,(tupleKind (aS P w)).is h x.1 x.2.1:=by
  intro l m q
  induction q with
  | nil=>intro x hx; exact nomatch hx
  | @cons p q ps qs hq t ih=>
   intro x hx
   rcases wt.mp hx with e | hx
   ·subst e
    exact fB ok (by rw[<- hq.1]; exact hq.2.1)
   ·exact ih x hx
 exact all r x hx
theorem dt_of (ok:HOk P w H h) (e:H a=some (.dT kvs)):kvs.length<=sizeLine/\(a == sysModules)=false /\
  ∃ xs,KT H kvs xs/\h.DictOfH (tupleKind (aS P w)) a xs:=fK ok (.inl e)
end
noncomputable def DGet (H:Hp) (a:Addr) (y:V) (r:Option V):Prop :=
 (∃ kvs k,Rd H a (.dK kvs)/\y=kV k/\r=aq kvs k)∨∃ kvs k b,Rd H a (.dT kvs)/\y=.ref b/\H b=some (.tup (k.map kV))/\r=aq kvs k
noncomputable def DPut (H:Hp) (a:Addr) (y v:V) (H':Hp):Prop :=
 (∃ kvs k,H a=some (.dK kvs)/\y=kV k/\kvs.length<sizeLine/\H'=upd H a (.dK (aO kvs k v))) ∨
 ∃ kvs k b,H a=some (.dT kvs)/\y=.ref b/\H b=some (.tup (k.map kV))/\kvs.length<sizeLine/\H'=upd H a (.dT (aO kvs k v))
theorem DGet.k {a:Addr}{kvs:List (Key×V)}{k:Key} (e:H a=some (.dK kvs)):DGet H a (kV k) (aq kvs k):=.inl ⟨kvs,k,.inl e,U,U⟩
theorem DGet.t {a b:Addr}{k:List Key} (e:H a=some (.dT kvs)) (eb:H b=some (.tup (k.map kV))):DGet H a (.ref b) (aq kvs k):=.inr ⟨kvs,k,b,.inl e,U,eb,U⟩
theorem DPut.k {a:Addr}{kvs:List (Key×V)}{k:Key}{v:V} (e:H a=some (.dK kvs)) (hl:kvs.length<sizeLine):DPut H a (kV k) v (upd H a (.dK (aO kvs k v))):=.inl ⟨kvs,k,e,U,hl,U⟩
theorem DPut.t {a b:Addr}{k:List Key}{v:V} (e:H a=some (.dT kvs)) (eb:H b=some (.tup (k.map kV))) (hl:kvs.length<sizeLine) :
  DPut H a (.ref b) v (upd H a (.dT (aO kvs k v))):=.inr ⟨kvs,k,b,e,U,eb,hl,U⟩
variable{Q:Value->Shared->Prop}
section
variable {X:Cx}{pins:List (Addr×Obj)}{σ:St}{H:Hp}{s:Shared}{a:Addr}{y v:V}{u r:Value}{o:Option V}{A:Around}{E:Value->Shared->Prop}
theorem Inv.big (I:Inv X pins σ H s):sysModules<s.heap.objs.size:=by
 have h:mainGlobals<s.heap.objs.size:=(I.mod.glob.keeps I.bk).lt
 exact Nat.lt_trans (by decide) h
theorem nE (hu:A.units+1<cLine) (I:Inv X pins σ H s) (g:DGet H a y (some v)) (ry:RelV y u) (h:∀ w' s',Inv X pins σ H s'->RelV v w'->Q w' s') :
  wpAny (model X.prog X.w) A (getItem (.ref a) u) Q E s:=by
 rcases g with ⟨kvs,k,e,ey,l⟩ | ⟨kvs,k,b,e,ey,eb,l⟩
 ·subst ey
  obtain⟨z,hd,vs,rel,dd⟩:=fL I.hok e
  obtain⟨w',hw,rw'⟩:=RelO.some_of (v:=v) (o:=valueAt vs k) (by rw[l]; exact rel.val k)
  exact wpAny_getItem_of (eQ ry) dd.mapOf hw (h w' _ (I.tok _) rw')
 ·subst ey
  cases (show u=Value.ref b from ry)
  obtain⟨z,hd,xs,rel,dd⟩:=fK I.hok e
  obtain⟨w',hw,rw'⟩:=RelO.some_of (v:=v) (o:=(atKey xs k).map (·.2)) (by rw[l]; exact rel.val k)
  obtain⟨p,hp,hp2⟩:=Option.map_eq_some_iff.mp hw
  refine wpAny_getItem_heap (tupleKind_room_in1 hu) (fB I.hok eb) dd hp ?_
  rw[hp2]
  exact h w' _ (I.tok _) rw'
theorem d_in (hu:A.units+1<cLine) (I:Inv X pins σ H s) (g:DGet H a y o) (ry:RelV y u) (h:∀ s',Inv X pins σ H s'->Q (.bool o.isSome) s') :
  wpAny (model X.prog X.w) A (compareOp .In u (.ref a)) Q E s:=by
 rcases g with ⟨kvs,k,e,ey,l⟩ | ⟨kvs,k,b,e,ey,eb,l⟩
 ·subst ey
  obtain⟨z,hd,vs,rel,dd⟩:=fL I.hok e
  refine wpAny_in_of (eQ ry) hd dd.mapOf ?_
  rw[<- (rel.val k).isSome_eq,<- l]
  exact h _ (I.tok _)
 ·subst ey
  cases (show u=Value.ref b from ry)
  obtain⟨z,hd,xs,rel,dd⟩:=fK I.hok e
  refine wpAny_in_heap (tupleKind_room_in1 hu) (fB I.hok eb) hd dd ?_
  have q:=(rel.val k).isSome_eq
  rw[Option.isSome_map] at q
  rw[<- q,<- l]
  exact h _ (I.tok _)
theorem mC (hu:A.units+1<cLine) (I:Inv X pins σ H s) (g:DGet H a y o) (ry:RelV y u) (h:∀ s',Inv X pins σ H s'->Q (.bool (!o.isSome)) s') :
  wpAny (model X.prog X.w) A (compareOp .NotIn u (.ref a)) Q E s:=by
 rcases g with ⟨kvs,k,e,ey,l⟩ | ⟨kvs,k,b,e,ey,eb,l⟩
 ·subst ey
  obtain⟨z,hd,vs,rel,dd⟩:=fL I.hok e
  refine wpAny_notIn_of (eQ ry) hd dd.mapOf ?_
  rw[<- (rel.val k).isSome_eq,<- l]
  exact h _ (I.tok _)
 ·subst ey
  cases (show u=Value.ref b from ry)
  obtain⟨z,hd,xs,rel,dd⟩:=fK I.hok e
  refine wpAny_notIn_heap (tupleKind_room_in1 hu) (fB I.hok eb) hd dd ?_
  have q:=(rel.val k).isSome_eq
  rw[Option.isSome_map] at q
  rw[<- q,<- l]
  exact h _ (I.tok _)
theorem f9 {h':Heap}{t':Nat}{ob:HO} (I:Inv X pins σ H s) (mu:Mut (H a)) (hs:Heap.SameBut a s.heap h') (he:∃ q,h'.get? a=some q) (new:ObjOk X.prog X.w (upd H a ob) h' a ob) :
  Inv X pins σ (upd H a ob) { s with heap:=h',toks:=t' } :=
 I.write (x:=a) (e:=a) mu (.inl rfl) (fun b q hb z=>(hs.2 b hb).trans z) he new
theorem k4 {H':Hp}{h':Heap}{kvs:List (Key×V)}{vs:List (Key×Value)} (z:kvs.length<=sizeLine) (hd:(a == sysModules)=false) (rel:KV kvs vs) (dd:h'.DictOf (aS P w) a vs) :
  ObjOk P w H' h' a (.dK kvs):=⟨z,hd,vs,rel,dd⟩
theorem nD {H':Hp}{Q:Unit->Shared->Prop} (hu:A.units+1<cLine) (I:Inv X pins σ H s) (g:DPut H a y v H') (ry:RelV y u) (rv:RelV v r) (h:∀ s',Inv X pins σ H' s'->Q () s') :
  wpAny (model X.prog X.w) A (setItem (.ref a) u r) Q E s:=by
 rcases g with ⟨kvs,k,e,ey,l,eH⟩ | ⟨kvs,k,b,e,ey,eb,l,eH⟩
 ·subst ey eH
  obtain⟨z,hd,vs,rel,dd⟩:=mj I.hok e
  have hz:vs.length<=sizeLine:=by rw[<- rel.length]; exact z
  have hl:(aO kvs k v).length<=sizeLine:=by have:=bD kvs k v; omega
  refine wpAny_setItem_pairs (hsz:=hz) (eQ ry) dd fun h' dd' hs=>h _ ?_
  have he:∃ q,h'.get? a=some q:=let ⟨q,_,_,hq,_⟩:=dd'; ⟨q,hq⟩
  exact f9 I (by rw[e]; exact True.intro) hs he (k4 hl hd (rel.put k rv) dd')
 ·subst ey eH
  cases (show u=Value.ref b from ry)
  obtain⟨z,hd,xs,rel,dd⟩:=dt_of I.hok e
  have hz:xs.length<=sizeLine:=by rw[<- Paired.length rel]; exact z
  have hl:(aO kvs k v).length<=sizeLine:=by have:=bD kvs k v; omega
  refine wpAny_setItem_heap (hsz:=hz) (tupleKind_room_in1 hu) (fB I.hok eb) dd fun h' dd' hs=>h _ ?_
  obtain⟨q,es,ep,hq,h2,h3,h4,_,h5⟩:=dd'
  refine f9 I (by rw[e]; exact True.intro) hs ⟨q,hq⟩ ⟨hl,hd,_,(rel.put k eb rv).keeps fun c ys ec=>?_,q,es,ep,hq,h2,h3,h4,h5⟩
  rw[aQ (ne_of ec e (fun z=>nomatch z))]
  exact ec
end
section
variable {X:Cx}{pins:List (Addr×Obj)}{σ:St}{H:Hp}{s:Shared}{a:Addr}{kvs:List (Key×V)}{k:Key}{u:Value}{A:Around}{E:Value->Shared->Prop}
theorem nF {Q:Unit->Shared->Prop} (I:Inv X pins σ H s) (e:H a=some (.dK kvs)) (ry:RelV (kV k) u) (l:(aq kvs k).isSome=true) (h:∀ s',Inv X pins σ (upd H a (.dK (aD kvs k))) s'->Q () s') :
  wpAny (model X.prog X.w) A (delItem (.ref a) u) Q E s:=by
 obtain⟨z,hd,vs,rel,dd⟩:=mj I.hok e
 refine wpAny_delItem_slot dd.typeIs (by decide) PySem.F.slot_dict_delitem
  (call_meetsIn PySem.F.slot_dict_delitem dd.typeIs PySem.F.entry_dict_delitem (PySem.F.args_dict_delitem_2 _ _) (meets_dict_delitem_pairs (aS X.prog X.w) a (eQ ry)) ⟨vs,dd,by rw[<- rel.length]; exact z,by rw[<- (rel.val k).isSome_eq]; exact l,fun h' dd' hs=>h _ ?_⟩)
 have he:∃ q,h'.get? a=some q:=let ⟨q,_,_,hq,_⟩:=dd'; ⟨q,hq⟩
 exact f9 I (by rw[e]; exact True.intro) hs he (k4 (Nat.le_trans (ko kvs k) z) hd (rel.drop k) dd')
theorem d_pop {v:V}{more:List Value} (I:Inv X pins σ H s) (e:H a=some (.dK kvs)) (ry:RelV (kV k) u) (l:aq kvs k=some v) (hm:more=[]∨∃ x,more=[x])
  (h:∀ w' s',Inv X pins σ (upd H a (.dK (aD kvs k))) s'->RelV v w'->Q w' s'):wpAny (model X.prog X.w) A (call (.builtin "dict.pop") (.ref a::u::more)) Q E s:=by
 obtain⟨z,hd,vs,rel,dd⟩:=mj I.hok e
 obtain⟨w',hw,rw'⟩:=RelO.some_of (v:=v) (o:=valueAt vs k) (by rw[<- l]; exact rel.val k)
 have hp:(keyPart u).isSome=true:=by
  cases k with
  | inl i=>obtain⟨t,q⟩:=(show ∃ t,u=Value.int i t from ry); subst q; rfl
  | inr x=>obtain⟨t,q⟩:=(show ∃ t,u=Value.str x t from ry); subst q; rfl
 have ha:argsOk "dict.pop" ⟨.ref a::u::more,[]⟩:=by
  rcases hm with q | ⟨x,q⟩
  ·subst q; exact PySem.F.args_dict_pop_2 _ _
  ·subst q; exact PySem.F.args_dict_pop_3 _ _ _
 refine call_meetsIn PySem.F.slot_dict_pop dd.typeIs PySem.F.entry_dict_pop ha (meets_dict_pop_there (aS X.prog X.w) a (eQ ry) more hm hp)
  ⟨vs,w',dd,by rw[<- rel.length]; exact z,hw,fun h' dd' hs=>h w' _ ?_ rw'⟩
 have he:∃ q,h'.get? a=some q:=let ⟨q,_,_,hq,_⟩:=dd'; ⟨q,hq⟩
 exact f9 I (by rw[e]; exact True.intro) hs he (k4 (Nat.le_trans (ko kvs k) z) hd (rel.drop k) dd')
theorem uM {r:Value} (I:Inv X pins σ H s) (e:H a=some (.dK kvs)) (ry:RelV (kV k) u) (l:aq kvs k=none) (h:∀ s',Inv X pins σ H s'->Q r s') :
  wpAny (model X.prog X.w) A (call (.builtin "dict.pop") [.ref a,u,r]) Q E s:=by
 obtain⟨z,hd,vs,rel,dd⟩:=mj I.hok e
 have hn:valueAt vs k=none:=RelO.none_of (by rw[<- l]; exact rel.val k)
 have hp:(keyPart u).isSome=true:=by
  cases k with
  | inl i=>obtain⟨t,q⟩:=(show ∃ t,u=Value.int i t from ry); subst q; rfl
  | inr x=>obtain⟨t,q⟩:=(show ∃ t,u=Value.str x t from ry); subst q; rfl
 exact call_meetsIn PySem.F.slot_dict_pop dd.typeIs PySem.F.entry_dict_pop (PySem.F.args_dict_pop_3 _ _ _) (meets_dict_pop_default (aS X.prog X.w) a (eQ ry) hd hp r) ⟨vs,dd,hn,h _ (I.tok _)⟩
end
noncomputable def v7 (i:Expr):Prop:=∀ ov iv,subscripted i false ov iv=operate [ov,iv] (getItem ov iv)
theorem qx {prog:Program}{A:Around}{E:Value->Shared->Prop}{s:Shared}{env:Env}{value slice:Expr}{pos:Pos}{T id:String}
  (hl:typeLookup (.type T) "__getitem__" = pure (some (.builtin id))) (hs:v7 slice)
  (h:wpAny (model prog w) A (eval value env) (fun o s₁=>wpAny (model prog w) A (eval slice env) (fun i s₂=>s₂.TypeIs o T/\wpAny (model prog w) A (getItem o i) Q E s₂) E s₁) E s) :
  wpAny (model prog w) A (eval (.Subscript value slice pos) env) Q E s:=by
 refine Subscript_ (wpAny_mono h (fun o s₁ h₁=>wpAny_mono h₁ (fun i s₂ h₂=>?_) fun _ _ x=>x) fun _ _ x=>x)
 obtain⟨hT,h₂⟩:=h₂
 unfold subscriptTail
 refine wpAny_bind ?_
 rw[getitemInPython_of_ne hT.not_modules]
 refine wpAny_bind (wpAny_specialOf hT hl ?_)
 have fin:wpAny (model prog w) A (subscripted slice false o i) (fun r s₃=>wpAny (model prog w) A (letTemporaryGo value o r >>= fun _=>pure r) Q E s₃) E s₂:=by
  rw[hs o i]
  exact wpAny_operating (wpAny_mono h₂ (fun r s₃ h₃=>wpAny_bind (wpAny_letTemporaryGo (wpAny_pure h₃))) fun _ _ x=>x)
 first
  | exact wpAny_pure (wpAny_bind fin)
  | exact wpAny_bind (wpAny_pure (wpAny_bind fin))
  | exact wpAny_bind fin
theorem kt {X:Cx}{pins:List (Addr×Obj)}{σ:St}{s:Shared}{a:Addr}{y:V}{o:Option V} (I:Inv X pins σ H s) (g:DGet H a y o):s.TypeIs (.ref a) "dict":=by
 rcases g with ⟨kvs,k,e,_,_⟩ | ⟨kvs,k,b,e,_,_,_⟩
 ·obtain⟨_,_,vs,_,dd⟩:=fL I.hok e
  exact dd.typeIs
 ·obtain⟨_,_,xs,_,dd⟩:=fK I.hok e
  exact dd.typeIs
inductive TD_ (x y:V) (H:Hp) (Q:VK):Prop
 | mk (a:Addr) (v:V) (h1:x=.ref a) (h2:DGet H a y (some v)) (q:Q v H):TD_ x y H Q
noncomputable def tDGet (td ty:TE):TE:=fun σ H Q=>td σ H fun x H1=>ty σ H1 fun y H2=>TD_ x y H2 Q
noncomputable def tDIn (ty td:TE):TE:=fun σ H Q=>ty σ H fun y H1=>td σ H1 fun x H2=>∃ a o,x=.ref a/\DGet H2 a y o/\Q (.bl o.isSome) H2
noncomputable def qu (ty td:TE):TE:=fun σ H Q=>ty σ H fun y H1=>td σ H1 fun x H2=>∃ a o,x=.ref a/\DGet H2 a y o/\Q (.bl (!o.isSome)) H2
noncomputable def sDPut (td ty tv:TE):TS:=fun D σ H=>tv σ H fun v H1=>td σ H1 fun x H2=>ty σ H2 fun y H3=>∃ a H4,x=.ref a/\DPut H3 a y v H4/\D.nx σ H4
noncomputable def sDDel (td ty:TE):TS:=fun D σ H=>td σ H fun x H1=>ty σ H1 fun y H2=>∃ a kvs k,x=.ref a/\H2 a=some (.dK kvs)/\y=kV k/\(aq kvs k).isSome=true/\D.nx σ (upd H2 a (.dK (aD kvs k)))
section
variable {X:Cx}{o i e value:Expr}{pos pos' tpos:Pos}{td ty tv:TE}
theorem cm (hu:X.A.units+1<cLine) (ho:PE X o td) (hi:PE X i ty) (hs:v7 i:=by exact fun _ _=>rfl):PE X (.Subscript o i pos) (tDGet td ty):=by
 intro pins s σ H Q I h
 refine qx PySem.F.slot_dict_getitem.lookup hs (thn (ho pins s σ H _ I h) fun u s1 ⟨x,H1,I1,rx,q1⟩=>thn (hi pins s1 σ H1 _ I1 q1) fun iv s2 ⟨y,H2,I2,ry,a,v,ex,g,q2⟩=>?_)
 subst ex
 obtain rfl:u=Value.ref a:=rx
 exact⟨kt I2 g,nE hu I2 g ry fun w' s3 I3 rw'=>⟨v,H2,I3,rw',q2⟩⟩
theorem gG (hu:X.A.units+1<cLine) (hi:PE X i ty) (ho:PE X o td):PC X .In i o (tDIn ty td):=by
 intro pins s σ H Q I h
 refine thn (hi pins s σ H _ I h) fun iv s1 ⟨y,H1,I1,ry,q1⟩=>thn (ho pins s1 σ H1 _ I1 q1) fun u s2 ⟨x,H2,I2,rx,a,ov,ex,g,q2⟩=>?_
 subst ex
 obtain rfl:u=Value.ref a:=rx
 exact d_in hu I2 g ry fun s3 I3=>⟨.bl ov.isSome,H2,I3,U,q2⟩
theorem fu (hu:X.A.units+1<cLine) (hi:PE X i ty) (ho:PE X o td):PC X .NotIn i o (qu ty td):=by
 intro pins s σ H Q I h
 refine thn (hi pins s σ H _ I h) fun iv s1 ⟨y,H1,I1,ry,q1⟩=>thn (ho pins s1 σ H1 _ I1 q1) fun u s2 ⟨x,H2,I2,rx,a,ov,ex,g,q2⟩=>?_
 subst ex
 obtain rfl:u=Value.ref a:=rx
 exact mC hu I2 g ry fun s3 I3=>⟨.bl (!ov.isSome),H2,I3,U,q2⟩
theorem dh (hu:X.A.units+1<cLine) (ho:PE X o td) (hi:PE X i ty) (hv:PE X value tv) (hs:swapsWith value (some (.Subscript o i pos')) pos.line X.env=pure false) :
  PS X (.Assign [.Subscript o i pos'] value pos) (sDPut td ty tv):=by
 intro pins s σ H D I h
 refine wpAny_Assign_Subscript (thn (hv pins s σ H _ I h) fun r s1 ⟨v,H1,I1,rv,q1⟩=>thn (ho pins s1 σ H1 _ I1 q1) fun u s2 ⟨x,H2,I2,rx,q2⟩=>thn (hi pins s2 σ H2 _ I2 q2) fun iv s3 ⟨y,H3,I3,ry,a,H4,ex,g,q3⟩=>?_) hs
 subst ex
 obtain rfl:u=Value.ref a:=rx
 exact nD hu I3 g ry rv fun s4 I4=>⟨σ,H4,I4,q3⟩
theorem qI (ho:PE X o td) (hi:PE X i ty):PS X (.Delete [.Subscript o i tpos] pos) (sDDel td ty):=by
 intro pins s σ H D I h
 refine wpAny_Delete (wpAny_deleteEach_cons (wpAny_delete_Subscript (thn (ho pins s σ H _ I h) fun u s1 ⟨x,H1,I1,rx,q1⟩=>thn (hi pins s1 σ H1 _ I1 q1) fun iv s2 ⟨y,H2,I2,ry,a,kvs,k,ex,e,ey,l,q2⟩=>?_)))
 subst ex ey
 obtain rfl:u=Value.ref a:=rx
 exact nF I2 e ry l fun s3 I3=>wpAny_deleteEach_nil ⟨σ,_,I3,q2⟩
end
theorem p6 (h:Heap) (hb:sysModules<h.objs.size):ObjOk P w H (h.push { cls:=.type "dict",data:=.dict #[] }) h.objs.size (.dK []) :=
 ⟨Nat.zero_le _,beq_eq_false_iff_ne.mpr (Ne.symm (Nat.ne_of_lt hb)),[],.nil,Heap.DictOf.new h⟩
theorem p5 (h:Heap) (hb:sysModules<h.objs.size):ObjOk P w H (h.push { cls:=.type "dict",data:=.dict #[] }) h.objs.size (.dT []) :=
 ⟨Nat.zero_le _,beq_eq_false_iff_ne.mpr (Ne.symm (Nat.ne_of_lt hb)),[],.nil,_,#[],0,Heap.get?_push_size _ rfl,⟨U,U,U⟩,U,U,List.nodup_nil⟩
noncomputable def tD:TE:=fun _ H Q=>∀ p,H p=none->Q (.ref p) (upd H p (.dK []))
noncomputable def tz:TE:=fun _ H Q=>∀ p,H p=none->Q (.ref p) (upd H p (.dT []))
section
variable {X:Cx}{pos:Pos}
theorem gD:PE X (.Dict [] [] pos) tD:=fun pins s σ H Q I h=>
 wpAny_Dict_empty ⟨.ref s.heap.objs.size,_,I.laid (a:=s.heap.objs.size) (o:=.dK []) (t':=s.toks) (fun _ _ q=>Heap.get?_push_of_some _ q) (Nat.le_refl _) (p6 s.heap I.big),U,h _ (I.hok.fresh (Nat.le_refl _))⟩
theorem jP:PE X (.Dict [] [] pos) tz:=fun pins s σ H Q I h=>
 wpAny_Dict_empty ⟨.ref s.heap.objs.size,_,I.laid (a:=s.heap.objs.size) (o:=.dT []) (t':=s.toks) (fun _ _ q=>Heap.get?_push_of_some _ q) (Nat.le_refl _) (p5 s.heap I.big),U,h _ (I.hok.fresh (Nat.le_refl _))⟩
end
noncomputable def mergeK (kvs more:List (Key×V)):List (Key×V):=more.foldl (fun acc kv=>aO acc kv.1 kv.2) kvs
structure M1 (X:Cx) (o:Expr) (m:Str) (apos:Pos) (e:Expr) (cpos:Pos):Prop where
 base:attributeBase o m X.env (eval o X.env)=eval o X.env
 few:((backTo cpos (starEach [e] X.env)).all (fun x=>!x.1) && (backToKw cpos (keywordEach [] X.env)).all (fun x=>x.1.isSome)
  && decide (([e]:List Expr).length+([]:List Keyword).length+(if ([]:List Keyword).isEmpty then 0 else 1)<30))=true
 line:(apos.endLine == cpos.line)=true
 trees:backTo cpos (starEach [e] X.env)=[(false,eval e X.env)]
structure M2 (X:Cx) (o:Expr) (m:Str) (apos:Pos) (e f:Expr) (cpos:Pos):Prop where
 base:attributeBase o m X.env (eval o X.env)=eval o X.env
 few:((backTo cpos (starEach [e,f] X.env)).all (fun x=>!x.1) && (backToKw cpos (keywordEach [] X.env)).all (fun x=>x.1.isSome)
  && decide (([e,f]:List Expr).length+([]:List Keyword).length+(if ([]:List Keyword).isEmpty then 0 else 1)<30))=true
 line:(apos.endLine == cpos.line)=true
 trees:backTo cpos (starEach [e,f] X.env)=[(false,eval e X.env),(false,eval f X.env)]
noncomputable def IsD (H:Hp) (a:Addr):Prop:=(∃ kvs,Rd H a (.dK kvs))∨∃ kvs,Rd H a (.dT kvs)
theorem pR {X:Cx}{pins:List (Addr×Obj)}{σ:St}{s:Shared}{a:Addr} (I:Inv X pins σ H s) (d:IsD H a) :
  s.TypeIs (.ref a) "dict" /\ (∀ b,Value.ref a=.ref b->∃ ob,s.heap.get? b=some ob/\ob.dict=none)/\(a == sysModules)=false:=by
 rcases d with ⟨kvs,e⟩ | ⟨kvs,e⟩
 ·obtain⟨_,hd,vs,_,dd⟩:=fL I.hok e
  refine⟨dd.typeIs,fun b q=>?_,hd⟩
  cases q
  obtain⟨ob,_,_,h1,h2,_⟩:=dd
  exact⟨ob,h1,h2.2.1⟩
 ·obtain⟨_,hd,xs,_,dd⟩:=fK I.hok e
  refine⟨dd.typeIs,fun b q=>?_,hd⟩
  cases q
  obtain⟨ob,_,_,h1,h2,_⟩:=dd
  exact⟨ob,h1,h2.2.1⟩
section
variable {X:Cx}{pins:List (Addr×Obj)}{σ:St}{H:Hp}{s:Shared}{a:Addr}{y d:V}{u r:Value}{o:Option V}{A:Around}{E:Value->Shared->Prop}
theorem uN (hu:A.units+1<cLine) (I:Inv X pins σ H s) (g:DGet H a y o) (ry:RelV y u) (h:∀ w' s',Inv X pins σ H s'->RelV (o.getD .non) w'->Q w' s') :
  wpAny (model X.prog X.w) A (call (.builtin "dict.get") [.ref a,u]) Q E s:=by
 rcases g with ⟨kvs,k,e,ey,l⟩ | ⟨kvs,k,b,e,ey,eb,l⟩
 ·subst ey
  obtain⟨z,hd,vs,rel,dd⟩:=fL I.hok e
  refine call_meetsIn PySem.F.slot_dict_get dd.typeIs PySem.F.entry_dict_get (PySem.F.args_dict_get_2 _ _) (meets_dict_get (aS X.prog X.w) a (eQ ry) hd) ⟨_,dd.mapOf,h _ _ (I.tok _) ?_⟩
  rw[l]
  exact(rel.val k).getD rfl
 ·subst ey
  cases (show u=Value.ref b from ry)
  obtain⟨z,hd,xs,rel,dd⟩:=fK I.hok e
  refine call_meetsIn PySem.F.slot_dict_get dd.typeIs PySem.F.entry_dict_get (PySem.F.args_dict_get_2 _ _) (meetsH_dict_get (tupleKind (aS X.prog X.w)) a b hd) ⟨tupleKind_room_in1 hu,k,xs,fB I.hok eb,dd,h _ _ (I.tok _) ?_⟩
  rw[l]
  exact(rel.val k).getD rfl
end
noncomputable def tE (td ty:TE):TE:=fun σ H Q=>td σ H fun x H1=>∃ a,x=.ref a/\IsD H1 a/\ty σ H1 fun y H2=>∃ o,DGet H2 a y o/\Q (o.getD .non) H2
noncomputable def tw (td ty tx:TE):TE:=fun σ H Q=>td σ H fun x H1=>∃ a,x=.ref a/\IsD H1 a/\ty σ H1 fun y H2=>tx σ H2 fun z H3=>∃ kvs k,H3 a=some (.dK kvs)/\y=kV k /\
 (∀ v,aq kvs k=some v->Q v (upd H3 a (.dK (aD kvs k))))/\(aq kvs k=none->Q z H3)
section
variable {X:Cx}{o e f:Expr}{apos cpos:Pos}{td ty tx:TE}
theorem gE (hu:X.A.units+1<cLine) (ho:PE X o td) (he:PE X e ty) (m:M1 X o "get" apos e cpos):PE X (.Call (.Attribute o "get" apos) [e] [] cpos) (tE td ty):=by
 intro pins s σ H Q I h
 refine wpAny_Call_method m.base m.few m.line PySem.F.plainAttrs_dict PySem.F.slot_dict_get PySem.F.type_dict_get (thn (ho pins s σ H _ I h) fun u s1 ⟨x,H1,I1,rx,a,ex,d,q1⟩=>?_)
 subst ex
 obtain rfl:u=Value.ref a:=rx
 obtain⟨t1,t2,_⟩:=pR I1 d
 refine⟨t1,t2,?_⟩
 rw[m.trees]
 refine Calls.callWith_builtin rfl (Calls.evalArgs_plain (Calls.spliced_cons (thn (he pins s1 σ H1 _ I1 q1) fun iv s2 ⟨y,H2,I2,ry,ov,g,q2⟩=>Calls.spliced_nil ?_)))
 exact uN hu I2 g ry fun w' s3 I3 rw'=>⟨_,H2,I3,rw',q2⟩
theorem jO (ho:PE X o td) (he:PE X e ty) (hf:PE X f tx) (m:M2 X o "pop" apos e f cpos):PE X (.Call (.Attribute o "pop" apos) [e,f] [] cpos) (tw td ty tx):=by
 intro pins s σ H Q I h
 refine wpAny_Call_method m.base m.few m.line PySem.F.plainAttrs_dict PySem.F.slot_dict_pop PySem.F.type_dict_pop (thn (ho pins s σ H _ I h) fun u s1 ⟨x,H1,I1,rx,a,ex,d,q1⟩=>?_)
 subst ex
 obtain rfl:u=Value.ref a:=rx
 obtain⟨t1,t2,_⟩:=pR I1 d
 refine⟨t1,t2,?_⟩
 rw[m.trees]
 refine Calls.callWith_builtin rfl (Calls.evalArgs_plain (Calls.spliced_cons (thn (he pins s1 σ H1 _ I1 q1) fun iv s2 ⟨y,H2,I2,ry,q2⟩=>
  Calls.spliced_cons (thn (hf pins s2 σ H2 _ I2 q2) fun fv s3 ⟨z,H3,I3,rz,kvs,k,ea,ey,q3,q4⟩=>Calls.spliced_nil ?_))))
 subst ey
 cases l:aq kvs k with
 | some v=>exact d_pop I3 ea ry l (.inr ⟨fv,U⟩) fun w' s4 I4 rw'=>⟨v,_,I4,rw',q3 v l⟩
 | none=>exact uM I3 ea ry l fun s4 I4=>⟨z,H3,I4,rz,q4 l⟩
end
end L2
namespace HT
open PySem PyProof.Rows
noncomputable def lexLt:List Int->List Int->Bool
 | [],[]=>false
 | [],_::_=>true
 | _::_,[]=>false
 | x::xs,y::ys=>if x=y then lexLt xs ys else decide (x<y)
theorem lexLt_cons (x y:Int) (xs ys:List Int):lexLt (x::xs) (y::ys)=if x=y then lexLt xs ys else decide (x<y):=rfl
theorem ir:lexLt [] []=false:=rfl
theorem gP (y:Int) (ys:List Int):lexLt [] (y::ys)=true:=rfl
theorem gQ (x:Int) (xs:List Int):lexLt (x::xs) []=false:=rfl
theorem kh (A:Around) (s:Shared) (a:Int) (t:Tok) (c:Int) (u:Tok):∃ e,SeqAt.EqAt A s (.int a t) (.int c u) e/\(e=true↔a=c) :=
 ⟨(a == c),SeqAt.EqAt.int_int a t c u,by simp⟩
theorem oQ (A:Around) (s:Shared) (a:Int) (t:Tok) (c:Int) (u:Tok) (prog:Program) (w:World) (E:Value->Shared->Prop) (Q:Value->Shared->Prop) (h:Q (.bool (decide (a<c))) s) :
  wpAny (model prog w) A (richCompare .Lt (.int a t) (.int c u)) Q E s :=
 (PyProof.Rows.lt_int h:wpAny (model prog w) A (compareOp .Lt (.int a t) (.int c u)) Q E s)
section
open PySem.SeqAt
open PySem.AutoSeq1 (wpAny_loadPart')
open PySem.MeetsSeq PySem.MeetsSeq2 PySem.MeetsSeq3
theorem ik (l b:Addr) (items items2:Array Value) (n n2:Nat) (dd dd2:Option Addr) (sl sl2:Array (Option Value)) (ns ms:List Int) (hi:IntsAre items.toList ns) (hj:IntsAre items2.toList ms) :
  Meets (Builtin.«tuple.__lt__» ⟨[.ref l,.ref b],[]⟩)
   (fun _ R s=>s.heap.get? l=some { cls:=.type "tuple",dict:=dd,data:=.seq items n,slots:=sl }/\s.heap.get? b=some { cls:=.type "tuple",dict:=dd2,data:=.seq items2 n2,slots:=sl2 } /\
    R (.ok (.ret (.bool (lexLt ns ms)))) s) :=
 .of_wp fun prog w A R s h=>by
  obtain⟨hp,g,d,tk,os⟩:=s; obtain⟨hl,hb,h⟩:=h
  have f2:=AutoSeq1.sub_tuple_tuple
  have z1:items.size=ns.length:=by rw[<- hi.length]; simp
  have z2:items2.size=ms.length:=by rw[<- hj.length]; simp
  wp_walk using wpAny_loadPart' hl,wpAny_loadPart' hb,wpAny_forIn_list _ (fun rest b s'=>b.1=none/\s'=⟨hp,g,d,tk,os⟩/\∃ (vs ws:List Value) (ns' ms':List Int),rest=vs.zip ws /\
   IntsAre vs ns'/\IntsAre ws ms'/\ns'.length+items2.size=ms'.length+items.size/\R (.ok (.ret (.bool (lexLt ns' ms')))) ⟨hp,g,d,tk,os⟩) _
  case turn=>
   rintro⟨y,x⟩ rest b s' ⟨hb',rfl,vs,ws,ns',ms',hz,hvi,hwi,hlen,hR⟩
   cases hvi with
   | nil=>rw[List.zip_nil_left] at hz; cases hz
   | cons a t hvi'=>
    cases hwi with
    | nil=>rw[List.zip_nil_right] at hz; cases hz
    | cons c u hwi'=>
     rw[List.zip_cons_cons] at hz
     injection hz with hyx hrest
     injection hyx with hy hx
     subst hy hx
     rw[lexLt_cons] at hR
     simp only[wl] at hlen
     obtain⟨e,he,hiff⟩:=kh A.in1 ⟨hp,g,d,tk,os⟩ a t c u
     refine wpAny_bind (he prog w _ _ ?_)
     cases e with
     | true=>
      rw[if_pos (hiff.mp rfl)] at hR
      wp_walk
      exact⟨rfl,rfl,_,_,_,_,hrest,hvi',hwi',by omega,hR⟩
     | false=>
      rw[if_neg (fun q=>absurd (hiff.mpr q) Bool.false_ne_true)] at hR
      have hri:=oQ A.in1 ⟨hp,g,d,tk,os⟩ a t c u prog w
      wp_walk using hri
      exact⟨_,rfl,by simpa using hR⟩
  case fin=>
   rintro⟨b1,b2⟩ s' ⟨hb',rfl,vs,ws,ns',ms',hz,hvi,hwi,hlen,hR⟩
   simp only at hb'
   subst hb'
   have hv:lexLt ns' ms'=decide (items.size<items2.size):=by
    cases hvi with
    | nil=>
     cases hwi with
     | nil=>
      simp only[List.length_nil] at hlen
      rw[ir]
      exact(decide_eq_false (by omega)).symm
     | cons c u hw=>
      simp only[List.length_nil,wl] at hlen
      rw[gP]
      exact(decide_eq_true (by omega)).symm
    | cons a t hv=>
     cases hwi with
     | nil=>
      simp only[List.length_nil,wl] at hlen
      rw[gQ]
      exact(decide_eq_false (by omega)).symm
     | cons c u hw=>
      rw[List.zip_cons_cons] at hz
      cases hz
   rw[hv] at hR
   wp_walk
   exact⟨_,rfl,by simpa [Builtin.Tuple.tupleCompareSizes] using hR⟩
  case h=>
   exact⟨rfl,rfl,items.toList,items2.toList,ns,ms,rfl,hi,hj,by omega,h⟩
end
section
variable {prog:Program}{w:World}{A:Around}{E:Value->Shared->Prop}{s:Shared}
theorem lt_tupInts {l b:Addr}{items items2:Array Value}{ns ms:List Int}{Q:Value->Shared->Prop} (hl:IsTup s.heap l items) (hb:IsTup s.heap b items2) (hi:IntsAre items.toList ns) (hj:IntsAre items2.toList ms)
  (hu:A.units<cLine) (h:Q (.bool (lexLt ns ms)) s):wpAny (model prog w) A (compareOp .Lt (.ref l) (.ref b)) Q E s:=by
 obtain⟨⟨cls,dd,data,sl⟩,ho,hc,n,hd⟩:=id hl
 obtain⟨⟨cls2,dd2,data2,sl2⟩,ho2,hc2,n2,hd2⟩:=id hb
 simp only at hc hd hc2 hd2
 subst hc hd hc2 hd2
 exact richCompare_meets_room (op:=.Lt) ⟨_,ho,rfl⟩ ⟨_,ho2,rfl⟩ PySem.F.slot_tuple_lt PySem.F.entry_tuple_lt (PySem.F.args_tuple_lt_2 _ _) (ik l b items items2 n n2 dd dd2 sl sl2 ns ms hi hj)
  ⟨ho,ho2,show Value.bool (lexLt ns ms)≠Value.notImplemented/\Q (.bool (lexLt ns ms)) s from⟨(fun x=>nomatch x),h⟩⟩ hu
noncomputable def sIx (n d:Nat):Option Int->Nat
 | none=>d
 | some v=>if v<0 then(v+(n:Int)).toNat else min v.toNat n
theorem tO (n d:Nat) (hd:d<=n) (o:Option Int):sIx n d o<=n:=by
 cases o with
 | none=>exact hd
 | some v=>
  show(if v<0 then(v+(n:Int)).toNat else min v.toNat n)<=n
  by_cases hv:v<0
  ·rw[if_pos hv]; omega
  ·rw[if_neg hv]; exact Nat.min_le_right _ _
theorem mD (v:Int) (n d:Nat):(if v<0 then max (v+(n:Int)) 0 else min v (n:Int))=((sIx n d (some v):Nat):Int):=by
 show(if v<0 then max (v+(n:Int)) 0 else min v (n:Int))=(((if v<0 then(v+(n:Int)).toNat else min v.toNat n):Nat):Int)
 by_cases hv:v<0
 ·simp only[if_pos hv]; omega
 ·simp only[if_neg hv]; omega
theorem k7 (lo hi:Option Int) (n:Nat):Builtin.Slice.sliceAdjust lo hi 1 (n:Int)=(((sIx n 0 lo:Nat):Int),((sIx n n hi:Nat):Int)):=by
 have h1:¬ ((1:Int)<0):=by omega
 unfold Builtin.Slice.sliceAdjust
 simp only[h1,if_false]
 refine Prod.ext ?_ ?_
 ·cases lo with
  | none=>rfl
  | some v=>exact mD v n 0
 ·cases hi with
  | none=>rfl
  | some v=>exact mD v n n
theorem kL (i j:Nat):Builtin.Slice.slicePlaces (i:Int) (j:Int) 1=j - i:=by
 unfold Builtin.Slice.slicePlaces
 have h1:(1:Int) > 0:=by omega
 simp only[h1,if_true,Int.ediv_one]
 split <;> omega
theorem gv {v:Value}{o:Option Int}{Q:Option Int->Shared->Prop} (p:IsPart v o) (h:Q o s):wpAny (model prog w) A (Builtin.Slice.slicePartIndex v) Q E s:=by
 cases p with
 | none=>exact slicePart_none h
 | int i t=>exact slicePart_int h
theorem fk {sl:Addr}{vl vu:Value}{lo hi:Option Int}{n:Nat}{Q:Int×Int×Nat->Shared->Prop} (hs:s.heap.IsSliceOf sl vl vu .none) (pl:IsPart vl lo) (pu:IsPart vu hi)
  (h:Q (((sIx n 0 lo:Nat):Int),1,sIx n n hi - sIx n 0 lo) s):wpAny (model prog w) A (Builtin.Slice.sliceApplied (.ref sl) (pure (n:Int))) Q E s:=by
 obtain⟨os,hos,hcs,hds⟩:=id hs
 unfold Builtin.Slice.sliceApplied Builtin.Slice.sliceFields
 refine wpAny_bind (wpAny_bind (wpAny_field hos hds (x:=vl) rfl (wpAny_bind (wpAny_field hos hds (x:=vu) rfl (wpAny_bind (wpAny_field hos hds (x:=.none) rfl (wpAny_pure ?_)))))))
 refine wpAny_bind (slicePart_none ?_)
 show wpAny _ _ (if ((1:Int) == 0)=true then _ else _) _ _ s
 rw[if_neg (by decide)]
 refine wpAny_bind (gv pl (wpAny_bind (gv pu (wpAny_bind (wpAny_pure ?_)))))
 show wpAny _ _ (match Builtin.Slice.sliceAdjust lo hi 1 (n:Int) with | (lo,hi) => pure (lo,(1:Int),Builtin.Slice.slicePlaces lo hi 1)) _ _ s
 rw[k7 lo hi n]
 show wpAny _ _ (pure (((sIx n 0 lo:Nat):Int),(1:Int),Builtin.Slice.slicePlaces ((sIx n 0 lo:Nat):Int) ((sIx n n hi:Nat):Int) 1)) _ _ s
 rw[kL]
 exact wpAny_pure h
theorem oY (xs:Array Value) (i k:Nat):((List.range k).filterMap fun(m:Nat)=>xs[((i:Int)+(m:Int)*1).toNat]?).toArray=((xs.toList.drop i).take k).toArray:=by
 have e:(fun(m:Nat)=>xs[((i:Int)+(m:Int)*1).toNat]?)=fun m=>xs[i+m]?:=by
  funext m
  have:((i:Int)+(m:Int)*1).toNat=i+m:=by omega
  rw[this]
 rw[e]
 have:=pick_run xs i k
 rw[List.filterMap_map] at this
 have e2:((fun x=>xs[x]?) ∘ fun x=>i+x)=fun m=>xs[i+m]?:=rfl
 rw[e2] at this
 rw[this]
theorem getItem_tuple_cut {t sl:Addr}{items:Array Value}{vl vu:Value}{lo hi:Option Int}{Q:Value->Shared->Prop} (ht:IsTup s.heap t items) (hs:s.heap.IsSliceOf sl vl vu .none) (pl:IsPart vl lo) (pu:IsPart vu hi)
  (hw:¬ (sIx items.size 0 lo=0/\sIx items.size items.size hi=items.size))
  (h:Q (.ref s.heap.objs.size) { s with heap:=s.heap.push { cls:=.type "tuple",data:=.seq ((items.toList.drop (sIx items.size 0 lo)).take (sIx items.size items.size hi - sIx items.size 0 lo)).toArray } })
  (hsz:items.size<=sizeLine):wpAny (model prog w) A (getItem (.ref t) (.ref sl)) Q E s:=by
 have htake:sizeOk (.seq ((items.toList.drop (sIx items.size 0 lo)).take (sIx items.size items.size hi - sIx items.size 0 lo)).toArray):=by
  show((items.toList.drop (sIx items.size 0 lo)).take (sIx items.size items.size hi - sIx items.size 0 lo)).toArray.size<=sizeLine
  rw[wp,wy,List.length_drop,Array.length_toList]
  omega
 have hj:sIx items.size items.size hi<=items.size:=tO _ _ (Nat.le_refl _) hi
 obtain⟨os,hos,hcs,hds⟩:=id hs
 have hTs:s.TypeIs (.ref sl) "slice":=⟨os,hos,hcs⟩
 unfold getItem
 try with_reducible refine wpAny_holding ?_
 first | refine wpAny_bind (wpAny_pure ?_) | skip
 refine wpAny_bind (wpAny_sequenceKey ht.typeIs (by decide) ?_)
 refine wpAny_bind (wpAny_callSpecial?_slot (name:=Str.ofString "__getitem__") ht.typeIs PyProof.Rows.slot_tuple_getitem
  (wpAny_call_entry PyProof.Rows.slot_tuple_getitem ht.typeIs entry_tuple_getitem ?_ (args_tuple_getitem _ _)))
 show wpAny _ _ (Builtin.Tuple.tupleItemsOf (.ref t) >>= _) _ _ s
 refine wpAny_bind (tupleItemsOf_ ht ?_)
 refine wpAny_bind (wpAny_typeOf hTs ?_)
 rw[if_pos (by decide)]
 refine wpAny_bind (fk hs pl pu ?_)
 have hno:¬ ((((sIx items.size 0 lo:Nat):Int) == 0 && (1:Int) == 1 && (sIx items.size items.size hi - sIx items.size 0 lo) == items.size)=true):=by
  intro q
  rw[Bool.and_eq_true,Bool.and_eq_true] at q
  have q1:((sIx items.size 0 lo:Nat):Int)=0:=eq_of_beq q.1.1
  have q2:sIx items.size items.size hi - sIx items.size 0 lo=items.size:=eq_of_beq q.2
  exact hw ⟨by omega,by omega⟩
 show wpAny _ _ (if (((sIx items.size 0 lo:Nat):Int) == 0 && (1:Int) == 1 && (sIx items.size items.size hi - sIx items.size 0 lo) == items.size)=true then _ else _) _ _ s
 rw[if_neg hno,oY]
 first
  | exact wpAny_bind (m:=Builtin.Tuple.tupleExact _) (wpAny_newObj_type (wpAny_pure ⟨_,rfl,wpAny_pure h⟩) htake)
  | exact wpAny_bind (m:=Builtin.Tuple.tupleExact _) (wpAny_newObj_type (wpAny_bind (wpAny_pure (wpAny_pure ⟨_,rfl,wpAny_pure h⟩))) htake)
  | exact wpAny_bind (wpAny_bind (m:=Builtin.Tuple.tupleExact _) (wpAny_newObj_type (wpAny_pure (wpAny_pure ⟨_,rfl,wpAny_pure h⟩)) htake))
  | exact wpAny_bind (wpAny_bind (m:=Builtin.Tuple.tupleExact _) (wpAny_newObj_type (wpAny_pure ⟨_,rfl,wpAny_pure h⟩) htake))
end
end HT
namespace L2
open PySem PySem.Spec PyProof.Rows
noncomputable abbrev TO:=St->Hp->(Option Int->Hp->Prop)->Prop
noncomputable def PO (X:Cx) (e:Option Expr) (t:TO):Prop :=
 ∀ (pins:List (Addr×Obj)) (s:Shared) (σ:St) (H:Hp) (Q:Option Int->Hp->Prop),Inv X pins σ H s->t σ H Q ->
  wpAny (model X.prog X.w) X.A (evalPart e X.env) (fun u s'=>∃ o H',Inv X pins σ H' s'/\IsPart u o/\Q o H') X.xe s
noncomputable def qt:TO:=fun _ H Q=>Q none H
noncomputable def tPart (t:TE):TO:=fun σ H Q=>t σ H fun x H1=>∃ i,x=.int i/\Q (some i) H1
theorem dl {ns:List Int}:∀ {us:List Value},Vals (ns.map V.int) us->IntsAre us ns:=by
 induction ns with
 | nil=>intro us r; rw[List.map_nil] at r; cases r; exact .nil
 | cons n ns ih=>
  intro us r
  rw[wu] at r
  cases r with
  | cons r1 r2=>
   obtain⟨t,e⟩:=r1
   subst e
   exact .cons n t (ih r2)
section
variable {X:Cx}{e:Expr}{te:TE}{lo hi:Option Expr}{tl th:TO}{pos p2:Pos}
theorem dN:PO X none qt:=by
 intro pins s σ H Q I h
 rw[evalPart_none]
 exact wpAny_pure ⟨none,H,I,.none,h⟩
theorem dM (h:PE X e te):PO X (some e) (tPart te):=by
 intro pins s σ H Q I hw
 rw[evalPart_some]
 refine thn (h pins s σ H _ I hw) fun u s1 ⟨x,H1,I1,r1,q1⟩=>?_
 obtain⟨i,rfl,q⟩:=q1
 obtain⟨t,rfl⟩:=r1
 exact⟨some i,H1,I1,.int i t,q⟩
noncomputable def SlR (X:Cx) (r:V->Option Int->Option Int->Hp->VK->Prop):Prop :=
 ∀ (pins:List (Addr×Obj)) (s:Shared) (σ:St) (H:Hp) (x:V) (v vl vu:Value) (lo hi:Option Int) (sl:Addr) (Q:VK),Inv X pins σ H s->RelV x v->s.heap.IsSliceOf sl vl vu .none->IsPart vl lo->IsPart vu hi->r x lo hi H Q ->
  ∃ T id,typeLookup (.type T) "__getitem__" = pure (some (.builtin id))/\s.TypeIs v T/\wpAny (model X.prog X.w) X.A (getItem v (.ref sl)) (EP X pins σ Q) X.xe s
noncomputable def tSl (r:V->Option Int->Option Int->Hp->VK->Prop) (te:TE) (tl th:TO):TE:=fun σ H Q=>te σ H fun x H1=>tl σ H1 fun l H2=>th σ H2 fun u H3=>r x l u H3 Q
theorem cZ {r:V->Option Int->Option Int->Hp->VK->Prop} (hr:SlR X r) (he:PE X e te) (hl:PO X lo tl) (hu:PO X hi th):PE X (.Subscript e (.Slice lo hi none p2) pos) (tSl r te tl th):=by
 intro pins s σ H Q I h
 refine Subscript_ (thn (he pins s σ H _ I h) fun v s1 ⟨x,H1,I1,r1,q1⟩=>?_)
 refine wpAny_Slice (thn (hl pins s1 σ H1 _ I1 q1) fun vl s2 ⟨l,H2,I2,pl,q2⟩=>thn (hu pins s2 σ H2 _ I2 q2) fun vu s3 ⟨u,H3,I3,pu,q3⟩=>?_)
 rw[evalPart_none]
 refine wpAny_pure ?_
 have I4:Inv X pins σ H3 { s3 with heap:=s3.heap.push { cls:=.type "slice",data:=.fields #[vl,vu,.none] } }:=I3.kept (t':=s3.toks) fun b ob q=>Heap.get?_push_of_some _ q
 obtain⟨T,id,hT,ht,hg⟩:=hr pins { s3 with heap:=s3.heap.push { cls:=.type "slice",data:=.fields #[vl,vu,.none] } } σ H3 x v vl vu l u s3.heap.objs.size Q I4 r1 (Heap.IsSliceOf.new ..) pl pu q3
 show wpAny (model X.prog X.w) X.A (subscriptTail e (.Slice lo hi none p2) v (.ref s3.heap.objs.size)) (EP X pins σ Q) X.xe { s3 with heap:=s3.heap.push { cls:=.type "slice",data:=.fields #[vl,vu,.none] } }
 exact tail_any (ops:=[.ref s3.heap.objs.size,v]) ht hT hg (by with_unfolding_all rfl)
noncomputable def cQ (xs:List V) (lo hi:Option Int):List V:=(xs.drop (HT.sIx xs.length 0 lo)).take (HT.sIx xs.length xs.length hi - HT.sIx xs.length 0 lo)
theorem fM (xs:List V) (lo hi:Option Int):(cQ xs lo hi).length<=xs.length:=by
 unfold cQ
 rw[wy,List.length_drop]
 omega
noncomputable def rSlT (K:PySem.W.Frag):V->Option Int->Option Int->Hp->VK->Prop:=fun x lo hi H Q=>∃ a xs,x=.ref a/\SqT K H a xs /\
 ¬ (HT.sIx xs.length 0 lo=0/\HT.sIx xs.length xs.length hi=xs.length)/\∀ p,H p=none->Q (.ref p) (upd H p (.tup (cQ xs lo hi)))
theorem ou:SlR X (rSlT X.K):=by
 intro pins s σ H x v vl vu lo hi sl Q I rx hs pl pu h
 obtain⟨a,xs,rfl,hx,hw,q⟩:=h
 cases rx
 obtain⟨its,r,ht,hz⟩:=I.tuple hx
 have hlen:its.toArray.size=xs.length:=by rw[wp]; exact r.length.symm
 refine⟨"tuple",_,PyProof.Rows.slot_tuple_getitem.lookup,ht.typeIs,?_⟩
 refine HT.getItem_tuple_cut ht hs pl pu (by rw[hlen]; exact hw) ?_ (by rw[hlen]; exact hz)
 rw[hlen]
 refine⟨.ref s.heap.objs.size,_,I.laid (t':=s.toks) (o:=.tup (cQ xs lo hi)) (fun b ob q=>Heap.get?_push_of_some _ q) (Nat.le_refl _) ?_,U,q _ (I.hok.fresh (Nat.le_refl _))⟩
 exact⟨Nat.le_trans (fM xs lo hi) hz,_,(r.drop (HT.sIx xs.length 0 lo)).take (HT.sIx xs.length xs.length hi - HT.sIx xs.length 0 lo),IsTup.new _ _⟩
noncomputable def rLtT (K:PySem.W.Frag):R2:=fun x y H Q=>∃ a b ns ms,x=.ref a/\y=.ref b/\SqT K H a (ns.map V.int)/\SqT K H b (ms.map V.int)/\Q (.bl (HT.lexLt ns ms)) H
theorem kN (hu:X.A.units<cLine):OpR X (compareOp .Lt) (rLtT X.K):=by
 intro pins s σ H x y v u Q I rx ry h
 obtain⟨a,b,ns,ms,rfl,rfl,ha,hb,q⟩:=h
 cases rx
 cases ry
 obtain⟨its,r1,p1,_⟩:=I.tuple ha
 obtain⟨its2,r2,p2,_⟩:=I.tuple hb
 have i1:IntsAre its.toArray.toList ns:=dl r1
 have i2:IntsAre its2.toArray.toList ms:=dl r2
 exact HT.lt_tupInts p1 p2 i1 i2 hu ⟨.bl (HT.lexLt ns ms),H,I,U,q⟩
end
noncomputable def ixN (n:Nat) (i:Int):Option Nat:=if 0<=i then(if i<n then some i.toNat else none) else if -(n:Int)<=i then some (i+n).toNat else none
noncomputable def atI {α:Type} (xs:List α) (i:Int):Option α:=(ixN xs.length i).bind fun j=>xs[j]?
theorem l8 {n:Nat}{i:Int}{j:Nat} (h:ixN n i=some j):seqIndex? i n=some j/\j<n/\-(n:Int)<=i/\i<n:=by
 unfold ixN at h
 by_cases h0:0<=i
 ·rw[if_pos h0] at h
  by_cases h1:i<n
  ·rw[if_pos h1] at h
   have e:i.toNat=j:=Option.some.inj h
   exact⟨by rw[seqIndex_of h0 h1,e],by omega,by omega,h1⟩
  ·rw[if_neg h1] at h; cases h
 ·rw[if_neg h0] at h
  by_cases h1:-(n:Int)<=i
  ·rw[if_pos h1] at h
   have e:(i+n).toNat=j:=Option.some.inj h
   exact⟨by rw[seqIndex_neg (by omega) h1,e],by omega,h1,by omega⟩
  ·rw[if_neg h1] at h; cases h
theorem jC {α:Type}{xs:List α}{i:Int}{v:α} (h:atI xs i=some v):∃ j,seqIndex? i xs.length=some j/\xs[j]?=some v/\j<xs.length/\-(xs.length:Int)<=i/\i<xs.length:=by
 unfold atI at h
 cases e:ixN xs.length i with
 | none=>rw[e] at h; cases h
 | some j=>
  rw[e] at h
  obtain⟨h1,h2,h3,h4⟩:=l8 e
  exact⟨j,h1,h,h2,h3,h4⟩
theorem aK {α:Type}{xs:List α}{j:Nat}{v:α} (h:xs[j]?=some v):atI xs (j:Int)=some v:=by
 have hj:j<xs.length:=(List.getElem?_eq_some_iff.mp h).1
 have e:ixN xs.length (j:Int)=some j:=by
  unfold ixN
  rw[if_pos (by omega),if_pos (by omega)]; simp
 unfold atI; rw[e]; exact h
noncomputable def rS (b:Expr):Prop:=∀ o i,subscripted b false o i=operate [o,i] (getItem o i)
noncomputable def IxR (X:Cx) (r:R2):Prop :=
 ∀ (value slice:Expr) (pins:List (Addr×Obj)) (s:Shared) (σ:St) (H:Hp) (x y:V) (v u:Value) (Q:VK),Inv X pins σ H s->RelV x v->RelV y u->r x y H Q ->
  subscripted slice false v u=operate [v,u] (getItem v u)->wpAny (model X.prog X.w) X.A (subscriptTail value slice v u) (EP X pins σ Q) X.xe s
noncomputable def MtR (X:Cx) (id:String) (r:V->List V->Hp->VK->Prop):Prop :=
 ∀ (pins:List (Addr×Obj)) (s:Shared) (σ:St) (H:Hp) (x:V) (xs:List V) (v:Value) (us:List Value) (Q:VK),Inv X pins σ H s->RelV x v->Vals xs us->r x xs H Q ->
  wpAny (model X.prog X.w) X.A (call (.builtin id) (v::us)) (EP X pins σ Q) X.xe s
section
variable {X:Cx}{a b:Expr}{ta tb:TE}{pos:Pos}
theorem aI {r:R2} (hr:IxR X r) (ha:PE X a ta) (hb:PE X b tb) (hs:rS b:=by exact fun _ _=>rfl):PE X (.Subscript a b pos) (tOp r ta tb):=by
 intro pins s σ H Q I h
 exact Subscript_ (uP ha hb I h fun v u s2 x y H2 I2 rx ry q=>hr a b pins s2 σ H2 x y v u Q I2 rx ry q (hs _ _))
inductive RL_ (K:PySem.W.Frag) (x y:V) (H:Hp) (Q:VK):Prop
 | mk (p:Addr) (xs:List V) (i:Int) (v:V) (h1:x=.ref p) (h2:y=.int i) (h3:SqL K H p xs) (h4:atI xs i=some v) (q:Q v H):RL_ K x y H Q
noncomputable def rIxL (K:PySem.W.Frag):R2:=fun x y H Q=>RL_ K x y H Q
inductive RT_ (K:PySem.W.Frag) (x y:V) (H:Hp) (Q:VK):Prop
 | mk (p:Addr) (xs:List V) (i:Int) (v:V) (h1:x=.ref p) (h2:y=.int i) (h3:SqT K H p xs) (h4:atI xs i=some v) (q:Q v H):RT_ K x y H Q
noncomputable def rIxT (K:PySem.W.Frag):R2:=fun x y H Q=>RT_ K x y H Q
noncomputable def rIxS:R2:=fun x y H Q=>∃ z i c,x=.str z/\y=.int i/\z.length<=sizeLine/\atI z.cps.toList i=some c/\Q (.str ⟨#[c]⟩) H
theorem au:IxR X (rIxL X.K):=by
 intro value slice pins s σ H x y v u Q I rx ry h hs
 obtain⟨p,xs,i,z,rfl,rfl,hq,he,q⟩:=h
 cases rx
 obtain⟨t,rfl⟩:=ry
 obtain⟨its,r,pl,hz⟩:=I.list hq
 obtain⟨j,h1,h2,h3,h4,h5⟩:=jC he
 obtain⟨w,ew,rw'⟩:=r.get h2
 have hl:=r.length
 have hn:=fz
 have fin:EP X pins σ Q w s:=⟨z,H,I,rw',q⟩
 by_cases h0:0<=i
 ·have hj:i.toNat=j:=by
   rw[seqIndex_of h0 h5] at h1
   exact Option.some.inj h1
  exact item_listR pl.isList h0 (by omega) (by rw[hj]; simpa using ew) fin hs
 ·have hj:(i+(its.toArray.size:Int)).toNat=j:=by
   rw[seqIndex_neg (by omega) h4] at h1
   rw[wp,<- hl]
   exact Option.some.inj h1
  exact subscriptTail_builtinR (x:=w) pl.isList.typeIs slot_list_getitem.lookup
   (wpAny_getItem_list_neg (Q:=fun r s'=>r=w/\EP X pins σ Q r s') pl.isList (by omega) (by rw[wp] <;> omega) (by omega) (by rw[hj]; simpa using ew) ⟨U,fin⟩) hs
theorem cE:IxR X (rIxT X.K):=by
 intro value slice pins s σ H x y v u Q I rx ry h hs
 obtain⟨p,xs,i,z,rfl,rfl,hq,he,q⟩:=h
 cases rx
 obtain⟨t,rfl⟩:=ry
 obtain⟨its,r,pl,hz⟩:=I.tuple hq
 obtain⟨j,h1,h2,h3,h4,h5⟩:=jC he
 obtain⟨w,ew,rw'⟩:=r.get h2
 have hl:=r.length
 have hn:=fz
 have fin:EP X pins σ Q w s:=⟨z,H,I,rw',q⟩
 exact subscriptTail_builtinR (x:=w) pl.typeIs slot_tuple_getitem.lookup
  (getItem_tuple (j:=j) (Q:=fun r s'=>r=w/\EP X pins σ Q r s') pl (by omega) (by omega) (by rw[wp,<- hl]; exact h1) (by simpa using ew) ⟨U,fin⟩) hs
theorem uD:IxR X rIxS:=by
 intro value slice pins s σ H x y v u Q I rx ry h hs
 obtain⟨z,i,c,rfl,rfl,hz,he,q⟩:=h
 obtain⟨t,rfl⟩:=rx
 obtain⟨t',rfl⟩:=ry
 obtain⟨j,h1,h2,h3,h4,h5⟩:=jC he
 have hl:z.cps.toList.length=z.length:=by simp[Str.length]
 rw[hl] at h1 h4 h5
 have hn:=fz
 exact tail_any (typeIs_str s z t) slot_str_getitem.lookup (getItem_str (c:=c) (by
  have e1:decide (i < -(2 ^ 63:Int))=false:=decide_eq_false (by omega)
  have e2:decide (i ≥ 2 ^ 63)=false:=decide_eq_false (by omega)
  rw[e1,e2,Bool.or_false]) (by rw[h1]; simpa using h2) ⟨.str ⟨#[c]⟩,H,I.tok _,⟨_,U⟩,q⟩) hs
theorem kP (its:List Value) (n j:Nat) (u:Value):Obj.mapSeq (·.setIfInBounds j u) { cls:=.type "list",data:=.seq its.toArray n }={ cls:=.type "list",data:=.seq (its.set j u).toArray n }:=by
 simp[Obj.mapSeq]
theorem Inv.lst {pins:List (Addr×Obj)}{σ:St}{H:Hp}{s:Shared}{p:Addr}{xs:List V} (I:Inv X pins σ H s) (h:H p=some (.lst xs)) :
  ∃ (its:List Value) (n:Nat),Vals xs its/\s.heap.get? p=some { cls:=.type "list",data:=.seq its.toArray n }/\xs.length<=sizeLine:=by
 obtain⟨z,its,n,r,e⟩:=I.hok p _ h
 exact⟨its,n,r,e,z⟩
theorem Inv.lstUpd {pins:List (Addr×Obj)}{σ:St}{H:Hp}{s:Shared}{p:Addr}{xs ys:List V}{its its':List Value}{n n':Nat}{f:Obj->Obj} (I:Inv X pins σ H s) (h:H p=some (.lst xs))
  (ho:s.heap.get? p=some { cls:=.type "list",data:=.seq its.toArray n }) (hf:f { cls:=.type "list",data:=.seq its.toArray n }={ cls:=.type "list",data:=.seq its'.toArray n' }) (r:Vals ys its') (hz:ys.length<=sizeLine) (t:Nat) :
  Inv X pins σ (upd H p (.lst ys)) { s with heap:=s.heap.update p f,toks:=t }:=by
 have e:(s.heap.update p f).get? p=some { cls:=.type "list",data:=.seq its'.toArray n' }:=by
  rw[Heap.get?_update_self f ho (by rw[hf] <;> rfl),hf]
 refine I.write (x:=p) (e:=p) (by rw[h]; trivial) (.inl rfl) (fun b u hb q=>(Heap.get?_update_other _ _ (Ne.symm hb)).trans q) ⟨_,e⟩ ?_
 exact⟨hz,its',n',r,e⟩
noncomputable def rSetL:V->V->V->Hp->(Hp->Prop)->Prop:=fun o i v H Q=>∃ p xs k j,o=.ref p/\i=.int k/\H p=some (.lst xs)/\ixN xs.length k=some j/\Q (upd H p (.lst (xs.set j v)))
theorem dy:v6 X rSetL:=by
 intro pins s σ H o i v ov iv u Q I ro ri rv h
 obtain⟨p,xs,k,j,rfl,rfl,hp,hj,q⟩:=h
 cases ro
 obtain⟨t,rfl⟩:=ri
 obtain⟨its,n,r,ho,hz⟩:=I.lst hp
 obtain⟨h1,h2,h3,h4⟩:=l8 hj
 have hl:=r.length
 have hn:=fz
 have I':Inv X pins σ (upd H p (.lst (xs.set j v))) { s with heap:=s.heap.update p (Obj.mapSeq (·.setIfInBounds j u)) } :=
  I.lstUpd hp ho (kP its n j u) (r.set rv j) (by rw[List.length_set]; exact hz) s.toks
 by_cases h0:0<=k
 ·have hk:k.toNat=j:=by
   rw[seqIndex_of h0 h4] at h1
   exact Option.some.inj h1
  exact PySem.W.ki_setAt ho h0 (by omega) (by rw[wp,<- hl]; exact h4) (by rw[hk]; exact⟨_,I',q⟩)
 ·have hk:(k+(its.toArray.size:Int)).toNat=j:=by
   rw[seqIndex_neg (by omega) h3] at h1
   rw[wp,<- hl]
   exact Option.some.inj h1
  exact PySem.W.ki_setBack ho (by omega) (by rw[wp,<- hl]; exact h3) (by omega) (by rw[hk]; exact⟨_,I',q⟩)
theorem iX (lo hi:Option Int) (n:Nat):(sliceBounds lo hi none n).1=((HT.sIx n 0 lo:Nat):Int)/\(sliceBounds lo hi none n).2.1=((HT.sIx n n hi:Nat):Int)/\(sliceBounds lo hi none n).2.2=1:=by
 refine⟨?_,?_,U⟩
 ·cases lo with
  | none=>simp[sliceBounds,HT.sIx]
  | some i=>
   simp only[sliceBounds,HT.sIx,Option.getD_none,show(1:Int) > 0 by decide,if_true]
   by_cases h:i<0
   ·simp only[h,if_true] <;> omega
   ·simp only[h,if_false] <;> omega
 ·cases hi with
  | none=>simp[sliceBounds,HT.sIx]
  | some i=>
   simp only[sliceBounds,HT.sIx,Option.getD_none,show(1:Int) > 0 by decide,if_true]
   by_cases h:i<0
   ·simp only[h,if_true] <;> omega
   ·simp only[h,if_false] <;> omega
theorem ip (its:List Value) (lo hi:Option Int):slicePick its.toArray lo hi none=((its.drop (HT.sIx its.length 0 lo)).take (HT.sIx its.length its.length hi - HT.sIx its.length 0 lo)).toArray:=by
 obtain⟨h1,h2,h3⟩:=iX lo hi its.toArray.size
 unfold slicePick
 rw[h1,h2,h3]
 simp only[sliceRange_one,pick_run,wp] <;> rfl
noncomputable def rSlL (K:PySem.W.Frag):V->Option Int->Option Int->Hp->VK->Prop:=fun x lo hi H Q=>∃ a xs,x=.ref a/\SqL K H a xs/\∀ p,H p=none->Q (.ref p) (upd H p (.lst (cQ xs lo hi)))
theorem fS:SlR X (rSlL X.K):=by
 intro pins s σ H x v vl vu lo hi sl Q I rx hs pl pu h
 obtain⟨a,xs,rfl,hx,q⟩:=h
 cases rx
 obtain⟨its,r,ht,hz⟩:=I.list hx
 have hlen:=r.length
 refine⟨"list",_,slot_list_getitem.lookup,ht.isList.typeIs,?_⟩
 refine wpAny_getItem_list_slice ht.isList hs pl pu .none (by simp) ?_ (by rw[wp] <;> omega)
 rw[ip,<- hlen]
 refine⟨.ref s.heap.objs.size,_,I.laid (t':=s.toks) (o:=.lst (cQ xs lo hi)) (fun b ob q=>Heap.get?_push_of_some _ q) (Nat.le_refl _) ?_,U,q _ (I.hok.fresh (Nat.le_refl _))⟩
 exact⟨Nat.le_trans (fM xs lo hi) hz,_,0,(r.drop (HT.sIx xs.length 0 lo)).take (HT.sIx xs.length xs.length hi - HT.sIx xs.length 0 lo),Heap.get?_push_size _ rfl⟩
noncomputable def fJ:V->Bool
 | .non=>true
 | .bl _=>true
 | .int _=>true
 | .str _=>true
 | _=>false
noncomputable def eqV:V->V->Bool
 | .non,.non=>true
 | .bl a,.bl b=>a == b
 | .bl a,.int b=>(if a then 1 else 0) == b
 | .int a,.bl b=>a == (if b then 1 else 0)
 | .int a,.int b=>a == b
 | .str a,.str b=>a == b
 | _,_=>false
theorem uJ {A:Around}{s:Shared}{y x:V}{u v:Value} (ry:RelV y u) (rx:RelV x v) (fy:fJ y=true) (fx:fJ x=true):SeqAt.EqAt A s u v (eqV y x):=by
 cases y with
 | non=>
  cases ry
  cases x with
  | non=>cases rx; exact SeqAt.EqAt.same _
  | bl b=>cases rx; exact SeqAt.EqAt.none_bool b
  | int b=>obtain⟨t,rfl⟩:=rx; exact SeqAt.EqAt.none_int b t
  | str b=>obtain⟨t,rfl⟩:=rx; exact SeqAt.EqAt.none_str b t
  | _=>exact absurd (show false=true from fx) Bool.false_ne_true
 | bl a=>
  cases ry
  cases x with
  | non=>cases rx; exact SeqAt.EqAt.bool_none a
  | bl b=>cases rx; exact SeqAt.EqAt.bool_bool a b
  | int b=>obtain⟨t,rfl⟩:=rx; exact SeqAt.EqAt.bool_int a b t
  | str b=>obtain⟨t,rfl⟩:=rx; exact SeqAt.EqAt.bool_str a b t
  | _=>exact absurd (show false=true from fx) Bool.false_ne_true
 | int a=>
  obtain⟨t',rfl⟩:=ry
  cases x with
  | non=>cases rx; exact SeqAt.EqAt.int_none a t'
  | bl b=>cases rx; exact SeqAt.EqAt.int_bool a t' b
  | int b=>obtain⟨t,rfl⟩:=rx; exact SeqAt.EqAt.int_int a t' b t
  | str b=>obtain⟨t,rfl⟩:=rx; exact SeqAt.EqAt.int_str a t' b t
  | _=>exact absurd (show false=true from fx) Bool.false_ne_true
 | str a=>
  obtain⟨t',rfl⟩:=ry
  cases x with
  | non=>cases rx; exact SeqAt.EqAt.str_none a t'
  | bl b=>cases rx; exact SeqAt.EqAt.str_bool a t' b
  | int b=>obtain⟨t,rfl⟩:=rx; exact SeqAt.EqAt.str_int a t' b t
  | str b=>obtain⟨t,rfl⟩:=rx; exact SeqAt.EqAt.str_str a t' b t
  | _=>exact absurd (show false=true from fx) Bool.false_ne_true
 | _=>exact absurd (show false=true from fy) Bool.false_ne_true
noncomputable def eqU (x:V) (u:Value):Bool:=match u with
 | .none=>eqV .non x
 | .bool b=>eqV (.bl b) x
 | .int i _=>eqV (.int i) x
 | .str z _=>eqV (.str z) x
 | _=>false
theorem pY {x y:V}{u:Value} (r:RelV y u) (f:fJ y=true):eqU x u=eqV y x:=by
 cases y with
 | non=>cases r; rfl
 | bl b=>cases r; rfl
 | int i=>obtain⟨t,rfl⟩:=r; rfl
 | str z=>obtain⟨t,rfl⟩:=r; rfl
 | _=>exact absurd (show false=true from f) Bool.false_ne_true
theorem jE {x:V}:∀ {xs:List V}{us:List Value},Vals xs us->xs.all fJ=true->us.any (eqU x)=xs.any fun y=>eqV y x
 | _,_,.nil,_=>rfl
 | y::xs,u::us,.cons r t,f=>by
  rw[List.all_cons,Bool.and_eq_true] at f
  rw[List.any_cons,List.any_cons,pY r f.1,jE t f.2]
theorem gN {A:Around}{s:Shared}{x:V}{v:Value} (rx:RelV x v) (fx:fJ x=true):∀ {xs:List V}{us:List Value},Vals xs us->xs.all fJ=true->∀ u ∈ us,SeqAt.EqAt A s u v (eqU x u)
 | _,_,.nil,_=>fun u hu=>by cases hu
 | y::xs,u::us,.cons r t,f=>fun u' hu=>by
  rw[List.all_cons,Bool.and_eq_true] at f
  rcases wt.mp hu with rfl | hu
  ·rw[pY r f.1]; exact uJ r rx f.1 fx
  ·exact gN rx fx t f.2 u' hu
noncomputable def inV (x:V) (xs:List V):Bool:=xs.any fun y=>eqV y x
noncomputable def rIn (K:PySem.W.Frag) (neg:Bool):R2:=fun x y H Q=>∃ p xs,y=.ref p/\(SqL K H p xs∨SqT K H p xs)/\fJ x=true/\xs.all fJ=true/\Q (.bl (if neg then !inV x xs else inV x xs)) H
theorem iH:OpR X (compareOp .In) (rIn X.K false):=by
 intro pins s σ H x y v u Q I rx ry h
 obtain⟨p,xs,rfl,hq,fx,fs,q⟩:=h
 cases ry
 rcases hq with hq | hq
 ·obtain⟨its,r,pl,hz⟩:=I.list hq
  refine SeqAt.in_listAt (eqU x) pl.isList (fun w hw=>gN rx fx r fs w (by simpa using hw)) ⟨.bl _,H,I,U,?_⟩
  rw[show its.toArray.any (eqU x)=its.any (eqU x) by simp,jE r fs]
  exact q
 ·obtain⟨its,r,pl,hz⟩:=I.tuple hq
  refine SeqAt.in_tupleAt (eqU x) pl (fun w hw=>gN rx fx r fs w (by simpa using hw)) ⟨.bl _,H,I,U,?_⟩
  rw[show its.toArray.any (eqU x)=its.any (eqU x) by simp,jE r fs]
  exact q
theorem i8:OpR X (compareOp .NotIn) (fun x y H Q=>∃ i j,x=.str i/\y=.str j/\Q (.bl (!(!(Builtin.Str.occurrences j i 0 j.length 1).isEmpty))) H):=by
 intro pins s σ H x y v u Q I rx ry h
 obtain⟨i,j,rfl,rfl,q⟩:=h
 obtain⟨t,rfl⟩:=rx
 obtain⟨t',rfl⟩:=ry
 exact notIn_str ⟨.bl _,H,I,U,q⟩
theorem aA:cD X (.builtin "len") (fun xs H Q=>∃ p ys,xs=[.ref p]/\(SqL X.K H p ys∨SqT X.K H p ys)/\Q (.int ys.length) H):=by
 intro pins s σ H xs us Q I r h
 obtain⟨p,ys,rfl,hq,q⟩:=h
 obtain⟨u,rfl,rx⟩:=cS r
 cases rx
 have hn:=fz
 rcases hq with hq | hq
 ·obtain⟨its,r',pl,hz⟩:=I.list hq
  have hlen:=r'.length
  exact Calls.call_len_list pl.isList (by simp only[wp] <;> omega) ⟨.int ys.length,H,I.tok _,⟨s.toks+1,by rw[wp,hlen]⟩,q⟩
 ·obtain⟨its,r',pl,hz⟩:=I.tuple hq
  have hlen:=r'.length
  exact len_tuple pl (by simp only[wp] <;> omega) ⟨.int ys.length,H,I.tok _,⟨s.toks+1,by rw[wp,hlen]⟩,q⟩
theorem b7:cD X (.type "list") (fun xs H Q=>∃ p ys,xs=[.ref p]/\(SqL X.K H p ys∨SqT X.K H p ys)/\∀ l,H l=none->Q (.ref l) (upd H l (.lst ys))):=by
 intro pins s σ H xs us Q I r h
 obtain⟨p,ys,rfl,hq,q⟩:=h
 obtain⟨u,rfl,rx⟩:=cS r
 cases rx
 have fin:∀ (its:List Value),Vals ys its->ys.length<=sizeLine->∀ (h':Heap) (c':Nat),(∀ b o',s.heap.get? b=some o'->h'.get? b=some o') ->
   h'.get? s.heap.objs.size=some { cls:=.type "list",dict:=none,data:=.seq its.toArray c',slots:=#[] }->EP X pins σ Q (.ref s.heap.objs.size) { s with heap:=h' }:=fun its r' hz h' c' kp e=>
  ⟨.ref s.heap.objs.size,_,I.laid (t':=s.toks) kp (Nat.le_refl _) (show ObjOk X.prog X.w _ h' _ (.lst ys) from⟨hz,its,c',r',e⟩),U,q _ (I.hok.fresh (Nat.le_refl _))⟩
 rcases hq with hq | hq
 ·obtain⟨its,r',pl,hz⟩:=I.list hq
  have hlen:=r'.length
  obtain⟨o,ho,hc,n,hd⟩:=pl.isList
  exact call_list_seq p (.inl rfl) ho hc hd (fun h' c' kp e=>fin its r' hz h' c' kp e) (by simp only[wp] <;> omega)
 ·obtain⟨its,r',pl,hz⟩:=I.tuple hq
  have hlen:=r'.length
  obtain⟨o,ho,hc,n,hd⟩:=pl
  exact call_list_seq p (.inr rfl) ho hc hd (fun h' c' kp e=>fin its r' hz h' c' kp e) (by simp only[wp] <;> omega)
noncomputable def tyV (K:PySem.W.Frag) (T:String) (x:V) (H:Hp):Prop:=match x with
 | .str _=>T = "str"
 | .int _=>T = "int"
 | .ref p=>(T = "list" /\ ∃ xs,SqL K H p xs)∨(T = "tuple" /\ ∃ o,K.lookup p=some o/\o.cls=.type "tuple" /\ o.dict=none) ∨
   (T = "dict" /\ ((∃ kvs,H p=some (.dK kvs))∨∃ kvs,H p=some (.dT kvs)))∨(T = "set" /\ ∃ S n,H p=some (.set S n))
 | _=>False
theorem nV {pins:List (Addr×Obj)}{σ:St}{H:Hp}{s:Shared}{T:String}{x:V}{v:Value} (I:Inv X pins σ H s) (r:RelV x v) (ty:tyV X.K T x H) :
  s.TypeIs v T/\∀ a,v=.ref a->∃ ob,s.heap.get? a=some ob/\ob.dict=none:=by
 cases x with
 | str z=>
  obtain⟨t,rfl⟩:=r
  cases (show T = "str" from ty)
  exact⟨typeIs_str s z t,fun _ e=>nomatch e⟩
 | int i=>
  obtain⟨t,rfl⟩:=r
  cases (show T = "int" from ty)
  exact⟨typeIs_int s i t,fun _ e=>nomatch e⟩
 | ref p=>
  cases r
  rcases ty with ⟨rfl,xs,hq⟩ | ⟨rfl,o,hk,hc,hd⟩ | ⟨rfl,hk⟩ | ⟨rfl,S,n,hk⟩
  ·obtain⟨its,_,pl,_⟩:=I.list hq
   refine⟨pl.isList.typeIs,fun a e=>?_⟩
   cases e
   obtain⟨o,n,e,c,hd,_⟩:=pl
   exact⟨o,e,hd⟩
  ·refine⟨⟨o,I.kIn p o hk,hc⟩,fun a e=>?_⟩
   cases e
   exact⟨o,I.kIn _ o hk,hd⟩
  ·have z:∃ o,s.heap.get? p=some o/\o.ExactDict:=by
    rcases hk with ⟨kvs,hk⟩ | ⟨kvs,hk⟩
    ·obtain⟨_,_,_,_,o,_,_,e,ex,_⟩:=I.hok p _ hk
     exact⟨o,e,ex⟩
    ·obtain⟨_,_,_,_,o,_,_,e,ex,_⟩:=I.hok p _ hk
     exact⟨o,e,ex⟩
   obtain⟨o,e,ex⟩:=z
   refine⟨⟨o,e,ex.1⟩,fun a e2=>?_⟩
   cases e2
   exact⟨o,e,ex.2.1⟩
  ·obtain⟨o,_,_,_,e,ex,_⟩:=I.hok p _ hk
   refine⟨⟨o,e,ex.1⟩,fun a e2=>?_⟩
   cases e2
   exact⟨o,e,ex.2.1⟩
 | _=>exact False.elim ty
noncomputable def tBM0 (K:PySem.W.Frag) (T:String) (r:V->List V->Hp->VK->Prop) (to:TE):TE:=fun σ H Q=>to σ H fun x H1=>tyV K T x H1/\r x [] H1 Q
noncomputable def tBM (K:PySem.W.Frag) (T:String) (r:V->List V->Hp->VK->Prop) (to:TE) (t:TA):TE:=fun σ H Q=>to σ H fun x H1=>tyV K T x H1/\t σ H1 fun xs H2=>r x xs H2 Q
variable {o e:Expr}{es:List Expr}{to:TE}{t:TA}{name:Str}{apos cpos:Pos}{T id:String}{r:V->List V->Hp->VK->Prop}
theorem o7 (pa:PlainAttrs T) (slot:Slot T name id) (hty:typeOf (.builtin id)=pure (.type "method_descriptor")) (hm:MtR X id r) (ho:PE X o to)
  (hbase:attributeBase o name X.env (eval o X.env)=eval o X.env:=by rfl) (hline:(apos.endLine == cpos.line)=true:=by rfl):PE X (.Call (.Attribute o name apos) [] [] cpos) (tBM0 X.K T r to):=by
 intro pins s σ H Q I h
 refine wpAny_Call_method0_late hbase hline (thn (ho pins s σ H _ I h) fun v s1 ⟨x,H1,I1,r1,ty,q1⟩=>?_)
 obtain⟨h1,h2⟩:=nV I1 r1 ty
 exact⟨T,id,pa,slot,hty,h1,h2,Calls.callWith_builtin rfl (PySem.evalArgs_none (hm pins s1 σ H1 x [] v [] Q I1 r1 .nil q1))⟩
theorem bi (pa:PlainAttrs T) (slot:Slot T name id) (hty:typeOf (.builtin id)=pure (.type "method_descriptor")) (hm:MtR X id r) (ho:PE X o to) (ha:PA X (e::es) t)
  (hbase:attributeBase o name X.env (eval o X.env)=eval o X.env:=by rfl)
  (hfew:((backTo cpos (starEach (e::es) X.env)).all (fun x=>!x.1) && (backToKw cpos (keywordEach [] X.env)).all (fun x=>x.1.isSome)
   && decide ((e::es).length+([]:List Keyword).length+(if ([]:List Keyword).isEmpty then 0 else 1)<30))=true:=by rfl)
  (hline:(apos.endLine == cpos.line)=true:=by rfl) (hs:starEach (e::es) X.env=(false,eval e X.env)::starEach es X.env:=by rfl) (hplain:(backTo cpos (starEach es X.env)).any (·.1)=false:=by rfl) :
  PE X (.Call (.Attribute o name apos) (e::es) [] cpos) (tBM X.K T r to t):=by
 intro pins s σ H Q I h
 refine wpAny_Call_method_late hbase hfew hline rfl (thn (ho pins s σ H _ I h) fun v s1 ⟨x,H1,I1,r1,ty,q1⟩=>?_)
 obtain⟨h1,h2⟩:=nV I1 r1 ty
 refine⟨T,id,pa,slot,hty,h1,h2,?_⟩
 have hA:=ha cpos pins s1 σ H1 _ I1 q1
 rw[hs] at hA ⊢
 refine Calls.callWith_builtin (by show (false || (backTo cpos (starEach es X.env)).any (·.1)) = false; rw [hplain] <;> rfl) (Calls.evalArgs_plain ?_)
 exact thn hA fun us s2 ⟨vs,H2,I2,r2,q2⟩=>hm pins s2 σ H2 x vs v us Q I2 r1 r2 q2
/- xs.append(e),list.index on a module's tuple .. are MtR facts of 06m -/
end
end L2
namespace L2
open PySem PySem.Spec PyProof.Rows
noncomputable def MtM (X:Cx) (id:String) (r:V->List V->Hp->VK->Prop):Prop :=
 ∀ (pins:List (Addr×Obj)) (s:Shared) (σ:St) (H:Hp) (x:V) (xs:List V) (v:Value) (us:List Value) (Q:VK),Inv X pins σ H s->RelV x v->Vals xs us->r x xs H Q ->
  wpAny (model X.prog X.w) X.A (call (.builtin id) (v::us)) (EP X pins σ Q) X.xe s
theorem Vals.one {x:V}{us:List Value} (h:Vals [x] us):∃ u,us=[u]/\RelV x u:=by
 cases h with
 | cons r s=>cases s; exact⟨_,U,r⟩
theorem Vals.zero:∀ {us:List Value},Vals [] us->us=[]
 | _,.nil=>rfl
theorem Vals.dropLast {xs:List V}{us:List Value} (h:Vals xs us):Vals xs.dropLast us.dropLast:=by
 induction h with
 | nil=>exact .nil
 | cons r t ih=>
  cases t with
  | nil=>exact .nil
  | cons q t'=>exact .cons r ih
theorem Vals.eraseIdx:∀ {xs:List V}{us:List Value} (i:Nat),Vals xs us->Vals (xs.eraseIdx i) (us.eraseIdx i)
 | _,_,_,.nil=>.nil
 | _,_,0,.cons _ t=>t
 | _,_,i+1,.cons r t=>.cons r (Vals.eraseIdx i t)
theorem kY {α:Type} (l:List α):l.eraseIdx (l.length - 1)=l.dropLast:=by
 induction l with
 | nil=>rfl
 | cons a r ih=>
  cases r with
  | nil=>rfl
  | cons b r=>
   have e:(a::b::r).length - 1=((b::r).length - 1)+1:=by
    have h1:(a::b::r).length=r.length+2:=rfl
    have h2:(b::r).length=r.length+1:=rfl
    omega
   rw[e,List.eraseIdx_cons_succ,ih]
   all_goals rfl
theorem iK {α:Type}:∀ (l:List α) (i:Nat),(l.eraseIdx i).length<=l.length
 | [],_=>Nat.le_refl _
 | _::_,0=>Nat.le_succ _
 | _::r,i+1=>Nat.succ_le_succ (iK r i)
section
variable {X:Cx}{pins:List (Addr×Obj)}{σ:St}{H:Hp}{s:Shared}{l b:Addr}{xs ys zs:List V}
theorem Inv.lset {its its':List Value}{n:Nat}{f:Array Value->Array Value}{t':Nat} (I:Inv X pins σ H s) (hH:H l=some (.lst xs))
  (e:s.heap.get? l=some { cls:=.type "list",data:=.seq its.toArray n }) (hf:f its.toArray=its'.toArray) (hv:Vals ys its') (hz:ys.length<=sizeLine) :
  Inv X pins σ (upd H l (.lst ys)) { s with heap:=s.heap.update l (Obj.mapSeq f),toks:=t' }:=by
 have q:=PySem.IsL.update e f
 rw[hf] at q
 refine I.write (x:=l) (e:=l) (by rw[hH]; exact trivial) (.inl rfl) (fun b' u hb hu=>(Heap.get?_update_other s.heap (Obj.mapSeq f) (Ne.symm hb)).trans hu) ⟨_,q⟩ ?_
 exact⟨hz,its',_,hv,q⟩
theorem Inv.lstM (I:Inv X pins σ H s) (hH:H l=some (.lst xs)):xs.length<=sizeLine/\∃ (its:List Value) (n:Nat),Vals xs its/\xs.length=its.length/\s.heap.get? l=some { cls:=.type "list",data:=.seq its.toArray n }:=by
 obtain⟨z,its,n,r,e⟩:=I.hok l _ hH
 exact⟨z,its,n,r,r.length,e⟩
theorem pH {n:Nat} (h:n<=sizeLine):Builtin.List.listTooLong n=false:=by
 unfold Builtin.List.listTooLong
 exact decide_eq_false (by omega)
end
section
variable {X:Cx}
noncomputable def qF:V->List V->Hp->VK->Prop:=fun x vs H Q=>∃ l xs y,x=.ref l/\vs=[y]/\H l=some (.lst xs)/\xs.length<sizeLine/\Q .non (upd H l (.lst (xs++[y])))
theorem aL:MtM X "list.append" qF:=by
 intro pins s σ H x vs v us Q I rx rv h
 obtain⟨l,xs,y,rfl,rfl,hH,hz,q⟩:=h
 cases rx
 obtain⟨u,rfl,ru⟩:=rv.one
 obtain⟨z,its,n,r,hl,e⟩:=I.lstM hH
 refine call_meets F.slot_list_append ⟨_,e,U⟩ F.entry_list_append (F.args_list_append_2 _ _) (PySem.list_append l its.toArray n u (by rw[wp]; omega)) ⟨e,?_⟩
 refine⟨.non,_,I.lset (its':=its++[u]) hH e (by simp) (r.append (.cons ru .nil)) ?_,U,q⟩
 rw[wf,wB]
 omega
noncomputable def qE:V->List V->Hp->VK->Prop:=fun x vs H Q=>∃ l b xs zs,x=.ref l/\vs=[.ref b]/\H l=some (.lst xs)/\H b=some (.lst zs)/\xs.length+zs.length<=sizeLine/\Q .non (upd H l (.lst (xs++zs)))
theorem mX:MtM X "list.extend" qE:=by
 intro pins s σ H x vs v us Q I rx rv h
 obtain⟨l,b,xs,zs,rfl,rfl,hH,hB,hz,q⟩:=h
 cases rx
 obtain⟨u,rfl,ru⟩:=rv.one
 cases ru
 obtain⟨z,its,n,r,hl,e⟩:=I.lstM hH
 obtain⟨z2,its2,n2,r2,hl2,e2⟩:=I.lstM hB
 have hsz:its.toArray.size+its2.toArray.size<=sizeLine:=by rw[wp,wp]; omega
 have hlong:¬ (!its.toArray.isEmpty && Builtin.List.listTooLong (its.toArray.size+its2.toArray.size))=true:=by
  rw[pH hsz,Bool.and_false]
  exact Bool.false_ne_true
 refine call_meets F.slot_list_extend ⟨_,e,U⟩ F.entry_list_extend (F.args_list_extend_2 _ _)
  (AutoSeq1.list_extend_list_list_0 l its.toArray n b its2.toArray n2 hlong (by rw[wp]; omega) (by omega)) ⟨e,e2,?_⟩
 refine⟨.non,_,I.lset (its':=its++its2) hH e (by simp) (r.append r2) ?_,U,q⟩
 rw[wf]
 omega
noncomputable def rPop:V->List V->Hp->VK->Prop:=fun x vs H Q=>∃ l xs y,x=.ref l/\vs=[]/\H l=some (.lst xs)/\xs[xs.length - 1]?=some y/\Q y (upd H l (.lst xs.dropLast))
theorem pJ:MtM X "list.pop" rPop:=by
 intro pins s σ H x vs v us Q I rx rv h
 obtain⟨l,xs,y,rfl,rfl,hH,hy,q⟩:=h
 cases rx
 have hus:=rv.zero
 subst hus
 obtain⟨z,its,n,r,hl,e⟩:=I.lstM hH
 obtain⟨u,hu,ru⟩:=r.get hy
 have hy':its.toArray[its.toArray.size - 1]?=some u:=by
  show its.toArray[its.length - 1]?=some u
  rw[<- Array.getElem?_toList,<- hl]
  exact hu
 refine call_meets F.slot_list_pop ⟨_,e,U⟩ F.entry_list_pop (F.args_list_pop_1 _) (MeetsSeq.list_pop_last l its.toArray n u hy' (by rw[wp]; omega)) ⟨e,?_⟩
 refine⟨y,_,I.lset (its':=its.dropLast) hH e ?_ r.dropLast ?_,ru,q⟩
 ·show its.toArray.eraseIdxIfInBounds (its.toArray.size - 1)=its.dropLast.toArray
  rw[wp,List.eraseIdxIfInBounds_toArray,kY]
 ·rw[List.length_dropLast]
  omega
noncomputable def tQ:V->List V->Hp->VK->Prop:=fun x vs H Q=>∃ l xs i k y,x=.ref l/\vs=[.int i]/\H l=some (.lst xs)/\-(2 ^ 63)<=i/\i<2 ^ 63/\seqIndex? i xs.length=some k/\xs[k]?=some y/\Q y (upd H l (.lst (xs.eraseIdx k)))
theorem jW:MtM X "list.pop" tQ:=by
 intro pins s σ H x vs v us Q I rx rv h
 obtain⟨l,xs,i,k,y,rfl,rfl,hH,h1,h2,hk,hy,q⟩:=h
 cases rx
 obtain⟨u,rfl,ru⟩:=rv.one
 obtain⟨t,rfl⟩:=ru
 obtain⟨z,its,n,r,hl,e⟩:=I.lstM hH
 obtain⟨w,hw,rw'⟩:=r.get hy
 refine call_meets F.slot_list_pop ⟨_,e,U⟩ F.entry_list_pop (F.args_list_pop_2 _ _)
  (MeetsSeq.list_pop_at l its.toArray n i t k w (fitsIndex_both h1 h2) (by rw[wp,<- hl]; exact hk) (by rw[<- Array.getElem?_toList]; exact hw) (by rw[wp]; omega)) ⟨e,?_⟩
 refine⟨y,_,I.lset (its':=its.eraseIdx k) hH e ?_ (r.eraseIdx k) ?_,rw',q⟩
 ·show its.toArray.eraseIdxIfInBounds k=(its.eraseIdx k).toArray
  rw[List.eraseIdxIfInBounds_toArray]
 ·have:=iK xs k
  omega
end
end L2
namespace Att
open PySem PySem.W PySem.Calls PyProof.Rows
theorem fQ {P:Params}{h:Heap}:∀ (ns:List Int) (vs:List Value),WellAll P h vs (ns.map WData.int)->IntsAre vs ns:=by
 intro ns
 induction ns with
 | nil=>
  intro vs w
  rw[List.map_nil] at w
  cases w
  exact .nil
 | cons n ns ih=>
  intro vs w
  rw[wu] at w
  cases w with
  | cons a b=>
   cases a
   exact .cons _ _ (ih _ b)
theorem mO {l : OpenLaw}{n : Nat} (hn : l.most=some n) {P : Params}{h : Heap}{args : List WData}{vals : List Value}
    (hpre : l.row.toRowW.claim.pre args=true) (hwl : WellAll P h vals args) :
    ∃ a vs ns, vals=[Value.ref a]/\args=[WData.list (ns.map WData.int)]/\h.get? a=some { cls := .type "list", data := .seq vs.toArray }/\IntsAre vs ns/\ns.length<=n := by
  have hsh : WShape.hasAll [] args [.list .int]=true := (pre_splitW hpre).1
  have hc : l.pre.holds [] { args := args }=true := (pre_splitW hpre).2
  obtain⟨d, r, rfl, h1, h2⟩ := hasAllW_cons hsh
  obtain rfl := hasAllW_nil h2
  obtain⟨xs, rfl, h3⟩ := hasW_list h1
  obtain⟨ns, rfl⟩ := items_int h3
  have hlen : ns.length<=n := by
    unfold OpenLaw.pre at hc
    have h4 : (WTm.not (.lt (.lit (.int (n : Int))) (.len (.arg 0)))).holds [] { args := [.list (ns.map .int)] }=true := by
      have h4 := (holds_andW hc).1
      rw[hn] at h4
      exact h4
    have h5 := condW_of h4 (w_not (w_lt w_lit (w_len_list (w_arg rfl))))
    rw[v9] at h5
    refine Nat.le_of_not_lt fun q=>?_
    have q' : (n : Int)<((ns.length : Nat) : Int) := by omega
    first
      | (rw [decide_eq_true q'] at h5; exact absurd h5 (by decide))
      | (simp at h5; omega)
  cases hwl with
  | cons w1 w2=>
    cases w2
    cases w1 with
    | list ho hall=>exact⟨_, _, ns, rfl, rfl, ho, fQ ns _ hall, hlen⟩
theorem mU (l:OpenLaw) (args:List WData):l.row.toRowW.claim.post args (.bool true) args=true :=
 postW_of (r:=l.row.toRowW) (X:=(true == true))
  (show WShape.has [] (.bool true) .bool=true by first | rfl | decide | simp[WShape.has,WShape.arms,WShape.armsAll])
  (show(WTm.eq .res (.lit (.bool true))).value [] { args:=args,res:=some (.bool true),after:=args }=some (.bool (true == true)) from w_eq_bool (w_res rfl) w_lit) rfl
theorem attach_call {l:OpenLaw}{n:Nat}{q:Program}{loose:List Str}{XP:(Str->Option Value)->Heap->Prop}{YP:World->Heap->Prop}{d:DefRec}
  (hn:l.most=some n) (hdf:d.params.defaults=[])
  (call:∀ (w:World) (s₀ s₁:Shared) (mg mb:Str->Option Value) (fa:Addr) (o:Obj) (pm cd doc:Value) (a:Addr) (vs:List Value) (ns:List Int),
   Ground q loose [] XP w s₀ mg mb s₁.heap->YP w s₁.heap ->
   s₁.heap.get? fa=some o->o.data=.func (docDef d.name d.params d.body d.scope pm cd doc)->s₁.heap.CodeRec cd d.name->mg d.name=some (.ref fa) ->
   s₁.heap.get? a=some { cls:=.type "list",data:=.seq vs.toArray }->IntsAre vs ns->ns.length<=n->s₁.gens = #[] ->
   codeAny (model l.prog w) callerA (.call (.ref fa) ⟨[.ref a],[]⟩) (fun r s'=>r=.ok (.ret (.bool true))/\OldK s₁.heap s'.heap/\s'.os=s₁.os/\AllBare s'.gens) s₁) :
  WalkO q loose XP YP l.row.toRowW d [] (fun f vs=>PySem.call f vs):=by
 intro w s₀ s₁ mg mb G Y fa o pm cd doc dV kV ho hd hcd hD hmg hg args vals as hpre hlay hrd hwl hlo
 obtain rfl:dV=.none:=Dflts.none hD hdf
 obtain rfl:kV=.none:=Dflts.noKw hD
 obtain⟨a,vs,ns,rfl,rfl,hobj,hints,hlen⟩:=mO hn hpre hwl
 refine enter_call (codeAny_mono (call w s₀ s₁ mg mb fa o pm cd doc a vs ns G Y ho (fd_plain hd) hcd hmg hobj hints hlen hg) fun r s' hq=>?_)
 obtain⟨rfl,h2,h3,h4⟩:=hq
 exact⟨.inl ⟨.bool true,.bool true,[],rfl,fun _=>rfl,.bool true,mU l _,fun _=>⟨List.Pairwise.nil,fun _ hm=>(nomatch hm)⟩⟩,h2,h3,h4⟩
section
variable {prog:Program}{w:World}{A:Around}{E:Value->Shared->Prop}{s:Shared}{K:Frag}
noncomputable def ledger (h:Heap) (L d:Addr):List (Addr×Obj):=(List.range h.objs.size).filterMap fun a=>if a=L∨a=d then none else(h.get? a).map fun o=>(a,o)
end
end Att
namespace L2
open PySem PySem.Spec PyProof.Rows
theorem iA:∀ {vs:List Value}{ns:List Int},IntsAre vs ns->Vals (ns.map V.int) vs
 | _,_,.nil=>.nil
 | _,_,.cons n t h=>.cons ⟨t,U⟩ (iA h)
noncomputable def rT (H:Hp):Prop:=∀ b,H b=none∨∃ o xs,H b=some (.frz o (.lst xs))
theorem pO {P:Program}{w:World}{K:PySem.W.Frag}{mg mb:Str->Option Value}{CX:CXT}{k:Nat}{fa a:Addr}{fd:FuncData}{x:Str}{sp:Sp}{s₁:Shared}{vs:List Value}{ns:List Int}
  (KX:K.In s₁.heap) (hns:s₁.heap.Ns mainGlobals mg) (hb:s₁.heap.Ns builtinsNs mb) (hbb:∀ x:Str,x ≠ "__name__" -> mb x=bootBuiltins x) (hlim:s₁.heap.NoLimit) (hg:s₁.gens = #[])
  (ha:s₁.heap.get? a=some { cls:=.type "list",data:=.seq vs.toArray }) (hi:IntsAre vs ns) (hl:ns.length<=sizeLine) (hr:Room k callerA)
  (F:∀ base:Heap,K.In base->base.Ns mainGlobals mg->FnOk P w K mg base CX k fa fd [x] sp) (hbind:∀ (s:Shared) (u:Value),BindsTo s fd ⟨[u],[]⟩ [(x,u)])
  (hsp:∀ H:Hp,rT H->SqL K H a (ns.map V.int)->sp [.ref a] H (fun v _=>v=.bl true) fun _ _ _=>False)
  (hCX:∀ H e s',CX [] H s₁ (fun _ _ _=>False) e s'->False) :
  codeAny (model P w) callerA (.call (.ref fa) ⟨[.ref a],[]⟩) (fun r s'=>r=.ok (.ret (.bool true))/\OldK s₁.heap s'.heap/\s'.os=s₁.os/\AllBare s'.gens) s₁:=by
 have rv:=iA hi
 have lenV:=hi.length
 have core:∀ H:Hp,rT H->SqL K H a (ns.map V.int)->HOk P w H s₁.heap->(∀ b,H b≠none->b=a)->(H a≠none->K.lookup a=none) ->
   codeAny (model P w) callerA (.call (.ref fa) ⟨[.ref a],[]⟩) (fun r s'=>r=.ok (.ret (.bool true))/\OldK s₁.heap s'.heap/\s'.os=s₁.os/\AllBare s'.gens) s₁:=by
  intro H hO hS hok hA hK
  have base_of:∀ {b:Addr}{o:Obj},s₁.heap.get? b=some o->H b=none->(jl s₁.heap H).get? b=some o:=fun e n=>pU e n
  have noA:∀ {b:Addr}{o:Obj}{es:Array DictEntry}{ep:Nat},s₁.heap.get? b=some o->o.data=.dict es ep->H b=none:=fun {b o es ep} e d=>by
   cases q:H b with
   | none=>rfl
   | some u=>
    have e':b=a:=hA b (by rw[q]; simp)
    subst e'
    rw[ha] at e; cases e
    have d':Data.seq vs.toArray _=Data.dict es ep:=d
    cases d'
  have nsK:∀ {b:Addr}{m:Str->Option Value},s₁.heap.Ns b m->(jl s₁.heap H).Ns b m:=fun {b m} ⟨o,es,ep,e,d,r⟩=>⟨o,es,ep,base_of e (noA e d),d,r⟩
  have hKb:K.In (jl s₁.heap H):=fun b o e=>base_of (KX b o e) (by
   cases q:H b with
   | none=>rfl
   | some u=>
    have e':b=a:=hA b (by rw[q]; simp)
    subst e'
    rw[hK (by rw[q]; simp)] at e; cases e)
  have hM:Mod K mg (jl s₁.heap H):=⟨hKb,nsK hns,⟨mb,nsK hb,hbb⟩,let ⟨mc,h1,h2⟩:=hlim; ⟨mc,nsK h1,h2⟩⟩
  have e0:Env0 P w K mg (jl s₁.heap H) callerA [] s₁ H:=⟨U,hM,fun b o e=>qP e,Nat.le_of_eq (nw _ _),trivial,fun b hb=>absurd (show b ∈ ([]:List Addr) from hb) (by simp),hok,.of_eq hg⟩
  refine codeAny_mono ((F _ hKb (nsK hns)).run callerA [] s₁ H ⟨[.ref a],[]⟩ [.ref a] [.ref a] _ _ hr e0 (hbind s₁ (.ref a)) (.cons rfl .nil) (hsp H hO hS)) fun r s' h=>?_
  cases r with
  | error e=>exact(hCX H e s' h).elim
  | ok fl=>
   cases fl with
   | next=>exact False.elim h
   | brk=>exact False.elim h
   | cont=>exact False.elim h
   | ret u=>
    obtain⟨v,H',os,bare,un,hok',r',q⟩:=h
    have q':v=.bl true:=q
    subst q'
    obtain rfl:u=Value.bool true:=r'
    refine⟨U,OldK.of_keep fun b o e=>?_,os,bare⟩
    cases q:H b with
    | none=>exact un.keep b o e q (by intro z; exact absurd (show b ∈ ([]:List Addr) from z) (by simp)) (by simp)
    | some u=>
     rcases hO b with z | ⟨ob,xs,z⟩
     ·rw[q] at z; cases z
     ·have z2:=un.frzs b ob _ z
      obtain⟨e1,_⟩:=hok b _ z
      obtain⟨e2,_⟩:=hok' b _ z2
      rw[e] at e1; cases e1
      exact e2
 cases hk:K.lookup a with
 | some o=>
  have e:=KX a o hk
  rw[ha] at e
  cases e
  refine core (fun _=>none) (fun _=>.inl rfl) (.inr ⟨_,vs.toArray,_,hk,U,U,U,by rw[wp,lenV]; exact hl,by simpa using rv⟩) (fun b u z=>by have z':(none:Option HO)=some u:=z; cases z') (fun b z=>absurd rfl z) fun z=>absurd rfl z
 | none=>
  refine core (fun b=>if b=a then some (.frz { cls:=.type "list",data:=.seq vs.toArray } (.lst (ns.map V.int))) else none) (fun b=>?_) (.inl (.inr ⟨{ cls:=.type "list",data:=.seq vs.toArray },if_pos rfl⟩)) (fun b u z=>?_) (fun b z=>?_) fun _=>hk
  ·by_cases hb:b=a
   ·exact .inr ⟨_,_,if_pos hb⟩
   ·exact .inl (if_neg hb)
  ·by_cases hb:b=a
   ·have z':=(if_pos hb).symm.trans z
    cases z'
    subst hb
    exact⟨ha,by rw[v9]; exact hl,vs,_,rv,ha⟩
   ·have z':=(if_neg hb).symm.trans z
    cases z'
  ·by_cases hb:b=a
   ·exact hb
   ·exact absurd (if_neg hb) z
noncomputable abbrev KOf {K:PySem.W.Frag}{h:Heap} (_:K.In h):PySem.W.Frag:=K
variable{XP:(Str->Option Value)->Heap->Prop}
theorem qp {l:PySem.W.OpenLaw}{n k:Nat}{q:Program}{loose:List Str}{YP:World->Heap->Prop}{d:DefRec}{K:Params->PySem.W.Frag}{CX:World->CXT}{sp:World->Sp}{x:Str}
  (hn:l.most=some n) (hn2:n<=sizeLine) (hdf:d.params.defaults=[]) (hr:Room k callerA)
  (hY:∀ (w:World) (h:Heap),YP w h->(K w.params).In h)
  (F:∀ (w:World) (mg:Str->Option Value) (fa:Addr) (h:Heap),(K w.params).In h->h.Ns mainGlobals mg->mg d.name=some (.ref fa) ->
   ∃ fd:FuncData,(∀ (s:Shared) (u:Value),BindsTo s fd ⟨[u],[]⟩ [(x,u)]) /\
    ∀ base:Heap,(K w.params).In base->base.Ns mainGlobals mg->FnOk l.prog w (K w.params) mg base (CX w) k fa fd [x] (sp w))
  (hsp:∀ (w:World) (H:Hp) (a:Addr) (ns:List Int),ns.length<=n->rT H->SqL (K w.params) H a (ns.map V.int)->sp w [.ref a] H (fun v _=>v=.bl true) fun _ _ _=>False)
  (hCX:∀ (w:World) (H:Hp) (s:Shared) (e:Value) (s':Shared),CX w [] H s (fun _ _ _=>False) e s'->False) :
  PySem.W.WalkO q loose XP YP l.row.toRowW d [] (fun f vs=>PySem.call f vs):=by
 refine Att.attach_call hn hdf fun w s₀ s₁ mg mb fa o pm cd doc a vs ns G Y ho hd hcd hmg hobj hints hlen hg=>?_
 have KX:=hY w _ Y
 obtain⟨fd,hb,hF⟩:=F w mg fa _ KX G.T.g hmg
 exact pO KX G.T.g G.T.b G.T.builtins G.T.nolimit hg hobj hints (Nat.le_trans hlen hn2) hr hF hb (fun H hO hS=>hsp w H a ns hlen hO hS) fun H e s'=>hCX w H s₁ e s'
theorem walk_ofK {l:PySem.W.OpenLaw}{n k:Nat}{q:Program}{loose:List Str}{YP:World->Heap->Prop}{d:DefRec}{K:Params->PySem.W.Frag}{CX:CXT}{sp:PySem.W.Frag->Sp}{x:Str}
  (hn:l.most=some n) (hn2:n<=sizeLine) (hdf:d.params.defaults=[]) (hr:Room k callerA)
  (hY:∀ (w:World) (h:Heap),YP w h->(K w.params).In h)
  (F:∀ (w:World) (mg:Str->Option Value) (fa:Addr) (h:Heap),(K w.params).In h->h.Ns mainGlobals mg->mg d.name=some (.ref fa) ->
   ∃ fd:FuncData,(∀ (s:Shared) (u:Value),BindsTo s fd ⟨[u],[]⟩ [(x,u)]) /\
    ∀ base:Heap,(K w.params).In base->base.Ns mainGlobals mg->FnOk l.prog w (K w.params) mg base CX k fa fd [x] (sp (K w.params)))
  (hsp:∀ (K:PySem.W.Frag) (H:Hp) (a:Addr) (ns:List Int),ns.length<=n->rT H->SqL K H a (ns.map V.int)->sp K [.ref a] H (fun v _=>v=.bl true) fun _ _ _=>False)
  (hCX:∀ (H:Hp) (s:Shared) (e:Value) (s':Shared),CX [] H s (fun _ _ _=>False) e s'->False) :
  PySem.W.WalkO q loose XP YP l.row.toRowW d [] (fun f vs=>PySem.call f vs) :=
 qp (K:=K) (CX:=fun _=>CX) (sp:=fun w=>sp (K w.params)) hn hn2 hdf hr hY F (fun w H a ns h1 h2 h3=>hsp (K w.params) H a ns h1 h2 h3) fun _ H s e s'=>hCX H s e s'
noncomputable def aZ (s:Stmt) (j:Nat):Stmt:=match s with
 | .ClassDef _ _ _ body _ _ _ _ _ _ _=>body.getD j (.Pass ⟨0,0,0,0⟩)
 | _=>.Pass ⟨0,0,0,0⟩
noncomputable def bR (s:Stmt):Arguments:=match s with
 | .FunctionDef _ a _ _ _ _ _ _ _ _=>a
 | _=>{ posonlyargs:=[],args:=[],vararg:=none,kwonlyargs:=[],kw_defaults:=[],kwarg:=none,defaults:=[] }
noncomputable def bI (s:Stmt):List Stmt:=match s with
 | .FunctionDef _ _ b _ _ _ _ _ _ _=>b
 | _=>[]
noncomputable def ah (s:Stmt):Scope:=match s with
 | .FunctionDef _ _ _ _ _ _ sc _ _ _=>sc
 | _=>{ kind:=.function,names:=[],isGenerator:=false,isCoroutine:=false }
noncomputable abbrev CX0:CXT:=fun _ _ _ _ _ _=>False
noncomputable abbrev E0:XK:=fun _ _ _=>False
theorem aH {X:Cx}:cW CX0 X E0:=fun _ _ _ _ _ _ _ h=>h.elim
theorem pcl {X:Cx}{k n:Nat}{f:Addr}{fd:FuncData}{ps:List Str}{sp:Sp}{x:Str}{p pos:Pos}{e:Expr}{es:List Expr}{t:TA} (F:FnOk X.prog X.w X.K X.mg X.base CX0 k f fd ps sp) (hr:Room n X.A) (hm:X.mg x=some (.ref f)) (hk:PySem.W.keepIn X.K (.ref f)=true) (hb:Binds X.K fd ps []) (ha:PA X (e::es) t) (hg:Gl X x:=by rfl) (hj:k<=n:=by decide) (hdb:(x==("__debug__":Str))=false:=by decide) (he:starEach (e::es) X.env=(false,eval e X.env)::starEach es X.env:=by rfl) (hpl:(backTo pos (starEach es X.env)).any (·.1)=false:=by rfl):PE X (.Call (.Name x p) (e::es) [] pos) (og sp [] E0 t):=qK F (hr.mono hj) hg hm hk hb .nil aH ha hdb he hpl
structure Fun (K:PySem.W.Frag) (x qual:Str) (st:Stmt) (f:Addr) (fd:FuncData):Prop where
 ex:∃ (oc:Value) (od:Option Addr) (kV doc pm:Value) (an:Option Addr) (cdv ct:Value) (osl:Array (Option Value)),
  fd=W.fnOf x qual (bR st) (bI st) (ah st) .none kV doc pm an cdv ct/\K.lookup f=some ⟨oc,od,.func fd,osl⟩/\W.codeIn K cdv qual=true
 kp:W.keepIn K (.ref f)=true
theorem cN {A:Around}{k:Nat} (hr:Room k A):A.units+1<cLine:=Nat.lt_of_le_of_lt (Nat.add_le_add_left (by decide:1<=64) _) hr.units
section
variable {X:Cx}
theorem pv (i:Nat) {x:Str}{pos:Pos} (hN:X.N[i]?=some x:=by rfl) (hv:Vis X.env.scope x:=by first | exact Or.inl rfl | exact Or.inr (Or.inl rfl) | exact Or.inr (Or.inr rfl)) (hd:(x == ("__debug__" : Str))=false:=by decide)
  (hcd:(x == ("__classdict__" : Str))=false:=by decide):PE X (.Name x pos) (qr i):=tX hN hv hd hcd
end
theorem bz {A B:Prop} (h:B):if false=true then A else B:=by
 rw[if_neg Bool.false_ne_true]
 exact h
theorem da {A B:Prop} (h:A):if true=true then A else B:=by
 rw[if_pos rfl]
 exact h
theorem j8 {c A B:Prop} [Decidable c] (h1:c->A) (h2:¬ c->B):if c then A else B:=by
 by_cases h:c
 ·rw[if_pos h]
  exact h1 h
 ·rw[if_neg h]
  exact h2 h
noncomputable def Same (H H':Hp):Prop:=∀ b o,H b=some o->H' b=some o
theorem Same.trans {H H1 H2:Hp} (a:Same H H1) (b:Same H1 H2):Same H H2:=fun c o h=>b c o (a c o h)
theorem Same.seq {K:PySem.W.Frag}{H H':Hp}{a:Addr}{xs:List V} (e:Same H H') (h:SqL K H a xs):SqL K H' a xs:=by
 rcases h with (h | ⟨o,h⟩) | h
 ·exact .inl (.inl (e _ _ h))
 ·exact .inl (.inr ⟨o,e _ _ h⟩)
 ·exact .inr h
section
variable {κ:Type} [DecidableEq κ]
theorem nC {p:κ×V}{r:List (κ×V)}{k:κ} (e:¬ p.1=k):aD (p::r) k=p::aD r k:=by
 unfold aD
 rw[List.filter_cons,if_pos (by simp[e])]
end
noncomputable abbrev Kn:=List (Addr×HO)
structure Has (H:Hp) (L:Kn):Prop where
 nd:(L.map (·.1)).Nodup
 at_:∀ x ∈ L,H x.1=some x.2
namespace Has
variable {H H':Hp}{L L' X Y R:Kn}{a p:Addr}{o o':HO}{x y:Addr×HO}
theorem nil:Has H []:=⟨List.nodup_nil,fun _ h=>nomatch h⟩
theorem get (h:Has H L) (i:Nat) (e:L[i]?=some (a,o)):H a=some o:=h.at_ (a,o) (wj e)
theorem alloc (h:Has H L) (hp:H p=none) (o:HO):Has (upd H p o) ((p,o)::L):=by
 have ne:∀ x ∈ L,x.1≠p:=fun x hx e=>by
  have:=h.at_ x hx
  rw[e,hp] at this; cases this
 refine⟨?_,fun x hx=>?_⟩
 ·rw[wu,List.nodup_cons]
  refine⟨fun m=>?_,h.nd⟩
  obtain⟨x,hx,e⟩:=wv.mp m
  exact ne x hx e
 ·rcases wt.mp hx with rfl | hx
  ·exact bJ
  ·rw[aQ (ne x hx)]; exact h.at_ x hx
theorem sub (h:Has H L) (s:L'.Sublist L):Has H L':=⟨h.nd.sublist (s.map _),fun x hx=>h.at_ x (s.subset hx)⟩
theorem perm (h:Has H L) (s:L.Perm L'):Has H L':=⟨(s.map _).nodup_iff.mp h.nd,fun x hx=>h.at_ x (s.mem_iff.mpr hx)⟩
theorem tail (h:Has H (x::L)):Has H L:=h.sub (List.sublist_cons_self _ _)
theorem swap2 (h:Has H (x::y::L)):Has H (y::x::L):=h.perm (List.Perm.swap _ _ _)
theorem comm (h:Has H (X++(Y++R))):Has H (Y++(X++R)):=h.perm (by rw[<- wm,<- wm]; exact List.perm_append_comm.append_right R)
theorem fF:∀ (L:Kn) (i:Nat),L[i]?=some (a,o)->(L.set i (a,o')).map (·.1)=L.map (·.1)
 | [],i,e=>by simp at e
 | x::L,0,e=>by simp at e; subst e; rfl
 | x::L,i+1,e=>by
  simp only[List.set_cons_succ,wu]
  rw[fF L i (by simpa using e)]
theorem puti (h:Has H L) (i:Nat) (e:L[i]?=some (a,o)) (o':HO):Has (upd H a o') (L.set i (a,o')):=by
 have hi:i<L.length:=(List.getElem?_eq_some_iff.mp e).1
 refine⟨by rw[fF (o':=o') L i e]; exact h.nd,fun x hx=>?_⟩
 obtain⟨j,hj⟩:=List.getElem?_of_mem hx
 by_cases hij:j=i
 ·subst hij
  rw[List.getElem?_set_self hi] at hj
  cases hj
  exact bJ
 ·rw[List.getElem?_set_ne (Ne.symm hij)] at hj
  have hx':x ∈ L:=wj hj
  have:x.1≠a:=fun z=>by
   have e1:(L.map (·.1))[i]?=some a:=by rw[wd,e]; rfl
   have e2:(L.map (·.1))[j]?=some a:=by rw[wd,hj,<- z]; rfl
   obtain⟨l1,q1⟩:=List.getElem?_eq_some_iff.mp e1
   obtain⟨l2,q2⟩:=List.getElem?_eq_some_iff.mp e2
   exact hij ((List.getElem_inj h.nd).mp (q2.trans q1.symm))
  rw[aQ this]
  exact h.at_ x hx'
end Has
section
variable {X:Cx}
theorem fe:cD X (.builtin "isinstance") (fun xs H Q=>∃ x T t b,xs=[x,.ty T]/\TyOf X.K H x t/\PySem.W.kitOne X.K t (.type T)=some b/\Q (.bl b) H):=by
 intro pins s σ H xs us Q I r h
 obtain⟨x,T,t,b,rfl,ty,e,q⟩:=h
 obtain⟨u1,u2,rfl,r1,r2⟩:=lm r
 cases (show u2=Value.type T from r2)
 exact nh I r1 ty e fun tk=>⟨.bl b,H,I.tok _,U,q⟩
end
theorem SqL.alloc {K:PySem.W.Frag}{H:Hp}{a p:Addr}{xs:List V}{o:HO} (h:SqL K H a xs) (hp:H p=none):SqL K (upd H p o) a xs :=
 Same.seq (fun b u e=>by rw[aQ (br e hp)]; exact e) h
theorem eZ (xs:List V) (n:Int) (h0:0<=n):cQ xs none (some n)=xs.take n.toNat:=by
 show((xs.drop 0).take ((if n<0 then(n+(xs.length:Int)).toNat else min n.toNat xs.length) - 0))=_
 rw[if_neg (by omega),List.drop_zero,Nat.sub_zero]
 by_cases hl:n.toNat<=xs.length
 ·rw[Nat.min_eq_left hl]
 ·rw[Nat.min_eq_right (by omega),List.take_of_length_le (Nat.le_refl _),List.take_of_length_le (by omega)]
theorem sizeOk {n:Nat} (h:n<=1000000):n<sizeLine:=Nat.lt_of_le_of_lt h (by decide)
end L2
namespace L2
theorem ifF {b:Bool}{A B:Prop} (e:b=false) (h:B):if b=true then A else B:=by subst e; exact bz h
theorem ifT {b:Bool}{A B:Prop} (e:b=true) (h:A):if b=true then A else B:=by subst e; exact da h
theorem if2 {b:Bool}{A B:Prop} (h1:b=true->A) (h2:b=false->B):if b=true then A else B:=by
 cases b
 ·exact bz (h2 rfl)
 ·exact da (h1 rfl)
theorem ifd {c:Prop} [Decidable c] {A B:Prop} (h1:c->A) (h2:¬ c->B):if decide c=true then A else B:=by
 by_cases h:c
 ·exact ifT (decide_eq_true h) (h1 h)
 ·exact ifF (decide_eq_false h) (h2 h)
theorem vV {c:Prop} [Decidable c] {A B:Prop} (h1:¬ c->A) (h2:c->B):if (!decide c)=true then A else B:=by
 by_cases h:c
 ·exact ifF (by simp[h]) (h2 h)
 ·exact ifT (by simp[h]) (h1 h)
end L2
namespace L2
open PySem PySem.Spec PyProof.Rows
noncomputable def dI (cells : List (Str×Addr)) : List (Str×NameKind)->List (Str×Addr)->List (Str×Addr)
  | [], acc=>acc
  | (n, k) :: r, acc => if k == .free then dI cells r ((n, (cells.lookup n).getD 0) :: acc) else dI cells r acc
theorem hV (scope : Scope) (env : Env) (h : ∀ y ∈ scope.names, y.2=.free->∃ c, env.cells.lookup y.1=some c) : closureFor scope env=pure (dI env.cells scope.names []) := by
  unfold closureFor
  have all : ∀ (l : List (Str×NameKind)) (acc : List (Str×Addr)), (∀ y ∈ l, y.2=.free->∃ c, env.cells.lookup y.1=some c) ->
      (forIn l acc fun x r=>match x with
        | (name, kind) => if (kind == .free) = true then do let a <- cellOf env name; pure (ForInStep.yield ((name, a) :: r)) else pure (ForInStep.yield r)) = (pure (dI env.cells l acc) : Sem _) := by
    intro l
    induction l with
    | nil=>intro acc _; rfl
    | cons y l ih=>
      obtain⟨n, k⟩ := y
      intro acc hl
      rw[List.forIn_cons]
      by_cases hk : (k == NameKind.free)=true
      · obtain⟨c, hc⟩ := hl (n, k) we (by simpa using hk)
        have e : cellOf env n=pure c := by unfold cellOf; rw[hc]
        simp only[hk, if_true, e, pure_bind, dI, hc, Option.getD_some]
        exact ih _ fun y hy=>hl y (wc _ hy)
      · simp only[hk, if_false, pure_bind, dI]
        exact ih _ fun y hy=>hl y (wc _ hy)
  have := all scope.names [] h
  simp only[this, pure_bind]
theorem fb {cells : List (Str×Addr)}{x : Str}{c : Addr} : ∀ (l : List (Str×NameKind)) (acc : List (Str×Addr)), (∀ y ∈ l, y.2=.free->∃ c, cells.lookup y.1=some c) ->
    (∀ y d, acc.lookup y=some d->cells.lookup y=some d)->(dI cells l acc).lookup x=some c->cells.lookup x=some c
  | [], acc, _, ha, h=>ha x c h
  | (n, k) :: r, acc, hl, ha, h => by
    unfold dI at h
    split at h
    · rename_i hk
      obtain⟨d, hd⟩ := hl (n, k) we (by simpa using hk)
      refine fb r _ (fun y hy=>hl y (wc _ hy)) (fun y e he=>?_) h
      rw[wE] at he
      split at he
      · rename_i hyn
        have : y=n := by simpa using hyn
        subst this
        cases he
        rw[hd]; rfl
      · exact ha y e he
    · exact fb r _ (fun y hy=>hl y (wc _ hy)) ha h
theorem hX {cells : List (Str×Addr)}{x : Str} : ∀ (l : List (Str×NameKind)) (acc : List (Str×Addr)), (∃ c, acc.lookup x=some c)->∃ c, (dI cells l acc).lookup x=some c
  | [], acc, h=>h
  | (n, k) :: r, acc, h => by
    unfold dI
    split
    · refine hX r _ ?_
      rw[wE]
      split
      · exact⟨_, rfl⟩
      · exact h
    · exact hX r _ h
theorem dc {cells : List (Str×Addr)}{x : Str} : ∀ (l : List (Str×NameKind)) (acc : List (Str×Addr)), (x, NameKind.free) ∈ l->∃ c, (dI cells l acc).lookup x=some c
  | [], _, h=>nomatch h
  | (n, k) :: r, acc, h => by
    unfold dI
    rcases wt.mp h with e | h
    · cases e
      rw[if_pos (by rfl)]
      exact hX r _ ⟨(cells.lookup x).getD 0, by rw[wE]; simp⟩
    · split
      · exact dc r _ h
      · exact dc r _ h
theorem cL {env : Env}{x : Str} : ∀ (l : List (Str×NameKind)), (∀ y ∈ l, y.2≠.cell) ->
    ((l.map fun(n, k)=>if (k == NameKind.free && env.scope.kind == .function && env.kindOf n == some .cell) then(n, NameKind.cell) else(n, k)).lookup x=some .cell ∨
     (l.map fun(n, k)=>if (k == NameKind.free && env.scope.kind == .function && env.kindOf n == some .cell) then(n, NameKind.cell) else(n, k)).lookup x=some .free)->(x, NameKind.free) ∈ l
  | [], _, h=>by simp at h
  | (n, k) :: r, hl, h => by
    have ih := cL (env := env) (x := x) r fun y hy=>hl y (wc _ hy)
    by_cases hc : (k == NameKind.free && env.scope.kind == .function && env.kindOf n == some .cell)=true
    · have hkf : k=.free := by
        rw[Bool.and_eq_true, Bool.and_eq_true] at hc
        simpa using hc.1.1
      subst hkf
      simp only[wu, hc, if_true, wE] at h
      cases hx : x == n with
      | true=>
        have : x=n := by simpa using hx
        subst this
        exact we
      | false=>
        simp only[hx] at h
        exact wc _ (ih h)
    · simp only[wu, if_neg hc, wE] at h
      cases hx : x == n with
      | true=>
        have : x=n := by simpa using hx
        subst this
        simp only[hx] at h
        rcases h with h | h
        · cases h
          exact absurd rfl (hl (x, .cell) we)
        · cases h
          exact we
      | false=>
        simp only[hx] at h
        exact wc _ (ih h)
noncomputable def PTs (X:Cx) (ifs:List Expr) (t:TT):Prop :=
 ∀ (pins:List (Addr×Obj)) (s:Shared) (σ:St) (H:Hp) (Q:Bool->Hp->Prop),Inv X pins σ H s->t σ H Q ->
  wpAny (model X.prog X.w) X.A (forIn ifs true fun c r=>if r=true then do let ok <- isTrue c X.env (eval c X.env); pure (ForInStep.yield ok) else pure (ForInStep.yield r)) (TP X pins σ Q) X.xe s
noncomputable def rZ:TT:=fun _ H Q=>Q true H
theorem dL {X:Cx}:PTs X [] rZ:=fun _ _ _ H _ I h=>wpAny_tests_nil ⟨H,I,h⟩
variable{pos:Pos}
theorem fN {prog:Program}{w:World}{A:Around}{R:Result->Shared->Prop}{s:Shared}{elt target iter:Expr}{ifs:List Expr}{scope:Scope}{it acc:Value}{env:Env} (I:Nat->Shared->Prop)
  (turn:∀ n s,I n s->wpAny (model prog w) A (pyNext it) (fun r s₁=>match r with
   | none=>R (.ok .next) s₁
   | some v=>wpAny (model prog w) A (letOwnedTupleGo target it v) (fun _ s₀=>wpAny (model prog w) A (assign target env v) (fun _ s₂=>
     wpAny (model prog w) A (forIn ifs true fun c r=>if r=true then do let ok <- isTrue c env (eval c env); pure (ForInStep.yield ok) else pure (ForInStep.yield r)) (fun ok s₃=>
      if ok=true then wpAny (model prog w) A (eval elt env) (fun x s₄=>
       wpAny (model prog w) A (call (.builtin "list.append") [acc,x]) (fun _ s₅=>∃ m,m<n/\I m s₅) (fun _ _=>False) s₄) (fun _ _=>False) s₃
      else ∃ m,m<n/\I m s₃) (fun _ _=>False) s₂) (fun _ _=>False) s₀) (fun _ _=>False) s₁) (fun _ _=>False) s)
  (n:Nat) (h:I n s) :
  codeAny (model prog w) A (.compLoop (.ListComp elt [⟨target,iter,ifs,0⟩] scope pos) 0 it acc env) R s:=by
 have no:∀ {α:Type}{t:Sem α}{Q:α->Shared->Prop}{s:Shared}{E:Value->Shared->Prop},wpAny (model prog w) A t Q (fun _ _=>False) s->wpAny (model prog w) A t Q E s:=fun h=>wpAny_mono h (fun _ _ q=>q) fun _ _ z=>False.elim z
 refine codeAny_loop rfl I (fun n s hI=>?_) n h
 show wpAny _ A ((compTurn (.ListComp elt [⟨target,iter,ifs,0⟩] scope pos) 0 it acc env).onRaise (fun x=>do noteFrame x env; theTreesLotGoes x)) _ _ s
 refine wpAny_noted ?_
 rw[compTurn_list]
 refine wpAny_bind (wpAny_standAt (wpAny_bind (wpAny_mono (no (turn n s hI)) (fun r s₁ h₁=>?_) fun _ _ h'=>h')))
 cases r with
 | none=>exact wpAny_pure h₁
 | some v=>
  refine wpAny_bind (wpAny_mono (no h₁) (fun _ s₀ h₀=>?_) fun _ _ h'=>h')
  refine wpAny_bind (wpAny_mono (no h₀) (fun _ s₂ h₂=>wpAny_bind (wpAny_mono (no h₂) (fun ok s₃ h₃=>?_) fun _ _ h'=>h')) fun _ _ h'=>h')
  cases ok with
  | false=>exact wpAny_pure ⟨U,h₃⟩
  | true=>
   exact wpAny_bind (wpAny_bind (wpAny_mono (no h₃) (fun x s₄ h₄=>wpAny_bind (wpAny_mono (no h₄) (fun _ s₅ h₅=>wpAny_pure (wpAny_pure ⟨U,h₅⟩)) fun _ _ h'=>h')) fun _ _ h'=>h'))
noncomputable abbrev blk (X:Cx) (scope:Scope) (N':List Str) (C:Addr) (s₀:Shared) (H₀:Hp) (fp:List Addr) (pins:List (Addr×Obj)):Cx :=
 { X with N:=N',s₀:=s₀,H₀:=H₀,env:=compEnvC scope (dI X.env.cells scope.names []) C X.env,outer:=X.stack,stack:=X.stack,ex:=fp,fn:=fun _=>false,pn:=X.pn++pins,xe:=fun _ _=>False }
noncomputable def tLC (wi:TI) (k:Nat) (g:TG) (tc:TT) (te:TE):TE:=fun σ H Q=>wi σ H fun J H1=>∀ D,H1 D=none->∃ W:Nat->Nat->List V->Hp->Prop,(∃ m,W 0 m [] (upd H1 D (.lst [])))/\∀ i m ys H,W i m ys H->H D=some (.lst ys) /\
 ((J.stop i H/\Q (.ref D) H)∨(J.go i H/\∀ x H',J.yld i H x H'->g x (List.replicate k none++σ) H' fun σ2 H2=>σ2.drop k=σ/\tc σ2 H2 fun b H3=>
  if b=true then te σ2 H3 fun y H4=>ys.length<sizeLine/\H4 D=some (.lst ys)/\∃ m',m'<m/\W (i+1) m' (ys++[y]) (upd H4 D (.lst (ys++[y]))) else ∃ m',m'<m/\W (i+1) m' ys H3))
section
variable {X:Cx}
theorem jN {elt tg iter:Expr}{ifs:List Expr}{scope:Scope}{wi:TI}{k:Nat}{g:TG}{tc:TT}{te:TE} (N':List Str) (hc:X.calm=true) (hi:PI X tg iter wi)
  (hg:∀ C s₀ H₀ fp pins,PG (blk X scope N' C s₀ H₀ fp pins) tg g) (ht:∀ C s₀ H₀ fp pins,PTs (blk X scope N' C s₀ H₀ fp pins) ifs tc) (he:∀ C s₀ H₀ fp pins,PE (blk X scope N' C s₀ H₀ fp pins) elt te)
  (hk:scope.kind=.function) (hcell:∀ y ∈ scope.names,y.2≠.cell) (hnames:∀ y ∈ scope.names,y.2=.local->scope.names.lookup y.1=some .local)
  {esc:Scope} (hsc:X.env.scope=esc) (hfr':∀ y ∈ scope.names,y.2=.free->esc.names.lookup y.1=some .cell∨esc.names.lookup y.1=some .free)
  (hlen:N'.length=k+X.N.length)
  (hN:∀ (i:Nat) (x:Str),N'[i+k]?=some x->(x,NameKind.free) ∈ scope.names->X.N[i]?=some x)
  (hN2:∀ x ∈ N'.drop k,scope.names.lookup x≠some .local)
  (hs:∀ x,foldedSetIterable iter X.env x=pure x:=by intro _; rfl) :
  PE X (.ListComp elt [⟨tg,iter,ifs,0⟩] scope pos) (tLC wi k g tc te):=by
 intro pins s σ H Q I h
 have hfr:∀ y ∈ scope.names,y.2=.free->X.env.kindOf y.1=some .cell∨X.env.kindOf y.1=some .free:=fun y hy hf=>by
  show X.env.scope.names.lookup y.1=_∨X.env.scope.names.lookup y.1=_
  rw[hsc]; exact hfr' y hy hf
 have hcells:∀ y ∈ scope.names,y.2=.free->∃ c,X.env.cells.lookup y.1=some c:=fun y hy hf=>I.ok.has y.1 (hfr y hy hf)
 have hclos:=hV scope X.env hcells
 rw[eval_ListComp]
 refine wpAny_comprehension_free (use:=none) rfl hs hclos hk hnames (thn (hi pins s σ H _ I h) fun v s1 h1=>thn h1 fun itv s2 h2=>?_)
 obtain⟨it,fp,tn,J,H2,e,I2,T,st2,f2,R⟩:=h2
 subst e
 refine wpAny_newObj_type ?_
 have hD:H2 s2.heap.objs.size=none:=I2.hok.fresh (Nat.le_refl _)
 obtain⟨W,⟨m0,w0⟩,turn⟩:=R _ hD
 generalize eD:s2.heap.objs.size=D at *
 have I3:Inv X pins σ (upd H2 D (.lst [])) { s2 with heap:=s2.heap.push { cls:=.type "list",dict:=none,data:=.seq ([]:List Value).toArray } } :=
  I2.laid (a:=D) (o:=.lst []) (t':=s2.toks) (fun b u e=>Heap.get?_push_of_some _ e) (Nat.le_of_eq eD) ⟨Nat.zero_le _,[],0,.nil,by rw[<- eD]; exact Heap.get?_push_size _ rfl⟩
 generalize e3:({ s2 with heap:=s2.heap.push { cls:=.type "list",dict:=none,data:=.seq ([]:List Value).toArray } }:Shared)=s3 at *
 have st3:tn 0 s3.heap:=T.keep _ _ _ st2 fun b _ o e=>by rw[<- e3]; exact Heap.get?_push_of_some _ e
 have lt2:∀ b ∈ fp,b<s2.heap.objs.size:=fun b hb=>by
  obtain⟨o,e,_⟩:=T.obj _ _ st2 b hb
  exact Heap.lt_size e
 have neD:∀ b ∈ fp,b≠D:=fun b hb=>by
  have:=lt2 b hb
  rw[eD] at this
  exact Nat.ne_of_lt this
 have f3:∀ b ∈ fp,fg X pins (upd H2 D (.lst [])) b:=fun b hb=>⟨by rw[aQ (neD b hb)]; exact(f2 b hb).1,(f2 b hb).2⟩
 generalize upd H2 D (.lst [])=H3 at *
 refine wpAny_newFunctionEnv hcell (by intro y hy; simp at hy) (fun h₁ hns₁ hsb₁=>?_) hk
 try dsimp only at hns₁ hsb₁ ⊢
 have lt3:∀ b ∈ fp,b<s3.heap.objs.size:=fun b hb=>by
  obtain⟨o,e,_⟩:=T.obj _ _ st3 b hb
  exact Heap.lt_size e
 generalize eC:s3.heap.objs.size=C at *
 have kp:∀ b o,s3.heap.get? b=some o->h₁.get? b=some o:=fun b o e=>(hsb₁.2 b (by rw[<- eC]; exact Nat.ne_of_lt (Heap.lt_size e))).trans (Heap.get?_push_of_some _ e)
 have subC:∀ x c,(dI X.env.cells scope.names []).lookup x=some c->X.env.cells.lookup x=some c:=fun x c e=>fb scope.names [] hcells (fun y d z=>by simp at z) e
 have hCnone:H3 C=none:=I3.hok.fresh (Nat.le_of_eq eC)
 have ok':(blk X scope N' C s3 H3 fp pins).Ok:={
  mod:=I3.ok.mod
  kind:=hk
  glob:=I3.ok.glob
  blt:=I3.ok.blt
  above:=Nat.le_of_eq eC
  inj:=fun x y c a b=>I3.ok.inj x y c (subC x c a) (subC y c b)
  has:=fun x hx=>dc scope.names [] (cL scope.names hcell hx)
  cab:=fun x c a _=>absurd a Bool.false_ne_true
  hd:=I3.ok.hd
  frames:=I3.ok.frames
  stk:=.inl rfl
  exf:=fun b hb=>⟨by have:=lt3 b hb; exact Nat.ne_of_lt this,fun x c e=>(f3 b hb).2.2.2.2.1 x c (subC x c e)⟩
  bs:=I3.bs
  bsz:=Nat.le_trans I3.ok.bsz I3.sz
  noex:=fun b o e hb=>by
   rcases (f3 b hb).2.2.2.1 with z | z
   ·exact I3.ok.noex b o e z
   ·exact absurd (Nat.lt_of_lt_of_le (Heap.lt_size e) (Nat.le_trans I3.ok.bsz z)) (Nat.lt_irrefl _)
  exfs:=fun b hb z=>by
   rcases wt.mp (I3.stkSub b z) with e | e
   ·exact(f3 b hb).2.1 e
   ·exact(f3 b hb).2.2.1 e
  funs:=I3.stack
  frf:=I3.stkFree }
 have s4os:({ s3 with heap:=h₁,toks:=s3.toks+([]:List (Str×Value)).length }:Shared).os=s3.os:=rfl
 generalize e4:({ s3 with heap:=h₁,toks:=s3.toks+([]:List (Str×Value)).length }:Shared)=s4 at *
 have h4:s4.heap=h₁:=by rw[<- e4]
 have J4:Inv (blk X scope N' C s3 H3 fp pins) [] (List.replicate k none++σ) H3 s4:=by
  refine⟨ok',s4os,by rw[<- e4]; exact I3.bare,?_,⟨_,by rw[h4]; exact hns₁,fun i x v e1 e2 e5=>?_⟩,fun x c e=>?_,hCnone,fun x c e=>I3.freeC x c (subC x c e),fun p hp=>?_,?_,?_⟩
  ·rw[h4]; exact Un.kept kp
  ·have hik:¬ i<k:=fun hlt=>by
    rw[wr (by rw[ww]; exact hlt),List.getElem?_replicate] at e2
    split at e2 <;> cases e2
   obtain⟨j,rfl⟩:∃ j,i=j+k:=⟨i - k,by omega⟩
   have e2':σ[j]?=some (some v):=by
    rw[wn (by rw[ww]; omega),ww] at e2
    have:j+k - k=j:=by omega
    rw[this] at e2; exact e2
   have nl:(relabel scope X.env).names.lookup x≠some .local:=fun z=>by
    have q:∀ (l:List (Str×NameKind)),(l.map fun(n,k)=>if (k == NameKind.free && X.env.scope.kind == .function && X.env.kindOf n == some .cell) then(n,NameKind.cell) else(n,k)).lookup x=some .local->l.lookup x=some .local:=by
     intro l
     induction l with
     | nil=>intro z; simp at z
     | cons y l ih=>
      obtain⟨n,kk⟩:=y
      intro z
      by_cases hcc:(kk == NameKind.free && X.env.scope.kind == .function && X.env.kindOf n == some .cell)=true
      ·simp only[wu,if_pos hcc,wE] at z ⊢
       cases hx:x == n with
       | true=>simp only[hx] at z; cases z
       | false=>simp only[hx] at z ⊢; exact ih z
      ·simp only[wu,if_neg hcc,wE] at z ⊢
       cases hx:x == n with
       | true=>simp only[hx] at z ⊢; exact z
       | false=>simp only[hx] at z ⊢; exact ih z
    exact hN2 x (wj (i:=j) (by rw[List.getElem?_drop,Nat.add_comm]; exact e1)) (q _ z)
   have hcf:(relabel scope X.env).names.lookup x=some .cell∨(relabel scope X.env).names.lookup x=some .free:=by
    rcases e5 with z | z | z
    ·exact absurd z nl
    ·exact .inl z
    ·exact .inr z
   have hmem:(x,NameKind.free) ∈ scope.names:=cL scope.names hcell hcf
   have hx:=hN j x e1 hmem
   obtain⟨mo,_,hl⟩:=I3.loc
   have hkx:=hfr (x,.free) hmem rfl
   obtain⟨u,ru,lk⟩:=hl j x v hx e2' (by
    rcases hkx with z | z
    ·exact .inr (.inl z)
    ·exact .inr (.inr z))
   refine⟨u,ru,.inr ⟨hcf,?_⟩⟩
   rcases lk with ⟨z,_⟩ | ⟨_,c,hc1,hc2⟩
   ·rcases hkx with q | q
    ·rw[q] at z; cases z
    ·rw[q] at z; cases z
   ·obtain⟨c',hc'⟩:=dc (cells:=X.env.cells) scope.names [] hmem
    have:=subC x c' hc'
    rw[hc1] at this; cases this
    obtain⟨oc,h5,h6⟩:=hc2
    exact⟨c,hc',oc,by rw[h4]; exact kp _ _ h5,h6⟩
  ·obtain⟨v,oc,h5,h6⟩:=I3.cell x c (subC x c e)
   exact⟨v,oc,by rw[h4]; exact kp _ _ h5,h6⟩
  ·have hp':p ∈ X.pn++pins:=by simpa using hp
   obtain⟨a1,a2,a3,a4,a5⟩:=I3.pin p hp'
   refine⟨by rw[h4]; exact kp _ _ a1,a2,?_,fun z=>?_,a5⟩
   ·have:=Heap.lt_size a1
    rw[eC] at this
    exact Nat.ne_of_lt this
   ·rcases wt.mp (I3.stkSub p.1 z) with q | q
    ·exact a3 q
    ·exact a4 q
  ·rw[h4]; exact I3.hok.kept kp
  ·rw[wf,ww,I3.len]; exact hlen.symm
 have stat:∀ {H':Hp},(∀ b ∈ fp,H' b=none)->∀ b ∈ fp,fg (blk X scope N' C s3 H3 fp pins) [] H' b:=fun hn b hb=>
  ⟨hn b hb,(ok'.exf b hb).1,ok'.exfs b hb,.inl hb,fun x c e=>(ok'.exf b hb).2 x c e,fun p hp=>(f3 b hb).2.2.2.2.2 p (by simpa using hp)⟩
 have fr4:∀ b ∈ fp,H3 b=none:=fun b hb=>(f3 b hb).1
 have st4:tn 0 s4.heap:=T.keep _ _ _ st3 fun b _ o e=>by rw[h4]; exact kp _ _ e
 have loop:codeAny (model X.prog X.w) X.A (.compLoop (.ListComp elt [⟨tg,iter,ifs,0⟩] scope pos) 0 (.ref it) (.ref D) (compEnvC scope (dI X.env.cells scope.names []) C X.env))
   (compPost (model X.prog X.w) X.A X.xe none (EP X pins σ Q) (.ref D) C) s4:=by
  refine fN (fun n s'=>∃ i ys H',Inv (blk X scope N' C s3 H3 fp pins) [] (List.replicate k none++σ) H' s'/\tn i s'.heap/\(∀ b ∈ fp,H' b=none)/\W i n ys H') ?_ m0 ⟨0,[],H3,J4,st4,fr4,w0⟩
  rintro n s5 ⟨i,ys,H5,I5,st5,fr5,w5⟩
  obtain⟨hDl,stp⟩:=turn i n ys H5 w5
  rcases stp with ⟨stop,qn⟩ | ⟨go,step⟩
  ·refine thn (T.done (blk X scope N' C s3 H3 fp pins) rfl rfl rfl hc i [] s5 _ H5 (fun _ _=>False) I5 (stat fr5) st5 stop) fun r s6 ⟨hr,I6⟩=>?_
   subst hr
   obtain⟨m6,ns6,_⟩:=id I6.loc
   refine⟨m6,ns6,fun h' hsb=>⟨.ref D,H5,?_,U,qn⟩⟩
   have hC5:H5 C=none:=I6.free
   have un6:Un (frs X.stack) fp H3 H5 s3.heap s6.heap:=I6.base
   have neC:∀ b o,s3.heap.get? b=some o->b≠C:=fun b o e=>by
    have:=Heap.lt_size e
    rw[eC] at this
    exact Nat.ne_of_lt this
   refine I3.call' (s':={ s6 with heap:=h' }) (ch:=fp) I6.os ⟨fun b o e a1 a2 a3=>?_,fun b o e a1 a2 a3=>?_,un6.free,fun b o e a3=>?_,un6.tups,un6.frzs,un6.tbls⟩ ?_ I6.bare (fun b hb=>?_)
   ·exact(hsb.2 b (neC b o e)).trans (un6.keep b o e a1 a2 a3)
   ·obtain⟨sl,z⟩:=un6.slot b o e a1 a2 a3
    exact⟨sl,(hsb.2 b (neC b o e)).trans z⟩
   ·obtain⟨o',z⟩:=un6.there b o e a3
    exact⟨o',(hsb.2 b (neC b o e)).trans z⟩
   ·intro b u e
    refine(I6.hok b u e).stay (fun c w' hcc q=>(hsb.2 c ?_).trans q) (fun _ q=>q) fun _ _ q=>q
    rintro rfl
    rcases hcc with z | z
    ·rw[z,e] at hC5; cases hC5
    ·rw[z] at hC5; cases hC5
   ·exact⟨(f3 b hb).2.2.2.1,(f3 b hb).2.1,(f3 b hb).2.2.2.2.1,(f3 b hb).2.2.2.2.2⟩
  ·refine thn (T.item (blk X scope N' C s3 H3 fp pins) rfl rfl rfl hc i [] s5 _ H5 (fun _ _=>False) I5 (stat fr5) st5 go) fun r s6 ⟨u,hr,h6⟩=>?_
   subst hr
   refine thn h6 fun _ s7 ⟨x,H7,I7,r7,y7,st7,fr7⟩=>?_
   have I7':=I7.pinned (stat fr7) (T.obj _ _ st7)
   refine thn (hg C s3 H3 fp pins _ s7 _ H7 x u _ I7' r7 (step x H7 y7)) fun _ s8 ⟨σ8,H8,I8,d8,q8⟩=>?_
   refine thn (ht C s3 H3 fp pins _ s8 σ8 H8 _ I8 q8) fun b s9 ⟨H9,I9,q9⟩=>?_
   have kz:∀ (j:Nat) v,(List.replicate k none++σ)[j]?=some (some v)->σ8[j]?=some (some v):=fun j v e=>by
    have hik:¬ j<k:=fun hlt=>by
     rw[wr (by rw[ww]; exact hlt),List.getElem?_replicate] at e
     split at e <;> cases e
    rw[wn (by rw[ww]; omega),ww,<- d8,List.getElem?_drop] at e
    have:k+(j - k)=j:=by omega
    rw[this] at e; exact e
   have again:∀ {Hz:Hp}{sz:Shared}{zs:List V}{m':Nat},Inv (blk X scope N' C s3 H3 fp pins) ([]++fq fp s7.heap) σ8 Hz sz->m'<n->W (i+1) m' zs Hz ->
     ∃ m,m<n/\∃ i ys H',Inv (blk X scope N' C s3 H3 fp pins) [] (List.replicate k none++σ) H' sz/\tn i sz.heap/\(∀ b ∈ fp,H' b=none)/\W i m ys H':=fun {Hz sz zs m'} Iz hm wz=>by
    refine⟨m',hm,i+1,zs,Hz,(Iz.unpinned).weak ?_ kz,T.keep _ _ _ st7 fun b hb o e=>(Iz.pin (b,o) (wb _ (wb _ (bV hb e)))).1,fun b hb=>?_,wz⟩
    ·rw[Iz.len]; exact I5.len
    ·obtain⟨o,e,d⟩:=T.obj _ _ st7 b hb
     exact(Iz.pin (b,o) (wb _ (wb _ (bV hb e)))).2.1
   cases b with
   | false=>
    obtain⟨m',hm,w9⟩:=(show ∃ m',m'<n/\W (i+1) m' ys H9 by simpa using q9)
    rw[if_neg Bool.false_ne_true]
    exact again I9 hm w9
   | true=>
    rw[if_pos rfl] at q9 ⊢
    refine thn (he C s3 H3 fp pins _ s9 σ8 H9 _ I9 q9) fun u9 s10 ⟨y,H10,I10,r10,hz,hD10,m',hm,w10⟩=>?_
    refine thn (aL (X:=blk X scope N' C s3 H3 fp pins) _ s10 σ8 H10 (.ref D) [y] (.ref D) [u9] (fun _ H'=>H'=upd H10 D (.lst (ys++[y]))) I10 rfl (.cons r10 .nil) ⟨D,ys,y,U,U,hD10,hz,U⟩) fun _ s11 ⟨_,H11,I11,_,e11⟩=>?_
    subst e11
    exact again I11 hm w10
 exact codeAny_compStart_list loop (T.self _ 0 _ _ _ st4 loop)
end
section
variable {X:Cx}{pins:List (Addr×Obj)}{σ:St}{H:Hp}{s:Shared}{h':Heap}
theorem Inv.turnedL {t':Nat}{fp:List Addr} (I:Inv X pins σ H s) (k:∀ b o,b ∉ fp->s.heap.get? b=some o->h'.get? b=some o) (hf:∀ b ∈ fp,fg X pins H b):Inv X pins σ H { s with heap:=h',toks:=t' }:=by
 have nit:∀ b u,H b=some u->b ∉ fp:=fun b u e z=>by rw[(hf b z).1] at e; cases e
 refine I.step (g':=s.gens) (d':=s.drawn) (ch:=fp) (fun b hb=>⟨(hf b hb).2.2.2.1,(hf b hb).2.1,(hf b hb).2.2.2.2.1,(hf b hb).2.2.2.2.2⟩) (fun b o _ _ hc e _=>k b o hc e) (fun b o _ _ hc e _=>⟨o.slots,k b o hc e⟩) (fun _ _ _ _ n=>n)
  (fun b o hc e=>⟨o,k b o hc e⟩) (fun _ _ e=>e) (fun _ _ _ e=>e) (fun b ps e=>⟨#[],by rw[e]; simp⟩) (fun m hm=>?_) (fun b u e=>?_) I.bare
 ·obtain⟨o,es,ep,ho,r⟩:=hm
  exact⟨o,es,ep,k _ o (fun z=>(hf _ z).2.1 rfl) ho,r⟩
 ·refine(I.hok b u e).stay (fun c v hc q=>k c v ?_ q) (fun _ q=>q) fun _ _ q=>q
  rcases hc with z | z
  ·rw[z]; exact nit b u e
  ·exact nit c _ z
theorem Inv.track {p:Addr}{o:HO} (I:Inv X pins σ H s) (hp:X.s₀.heap.objs.size<=p) (hL:p≠X.env.locals) (hc:∀ x c,X.env.cells.lookup x=some c->c≠p) (hpin:∀ q ∈ X.pn++pins,q.1≠p) (hn:H p=none)
  (new:ObjOk X.prog X.w (upd H p o) s.heap p o):Inv X pins σ (upd H p o) s:=by
 refine⟨I.ok,I.os,I.bare,⟨I.base.keep,I.base.slot,fun b ob e n hx=>?_,I.base.there,fun b xs e=>?_,fun b ob u e=>?_,fun b ps e=>?_⟩,I.loc,I.cell,by rw[aQ (Ne.symm hL)]; exact I.free,fun x c e=>by rw[aQ (hc x c e)]; exact I.freeC x c e,fun q hq=>?_,fun b u e=>?_,I.len⟩
 ·rw[aQ (Nat.ne_of_lt (Nat.lt_of_lt_of_le (Heap.lt_size e) hp))]; exact I.base.free b ob e n hx
 ·have:=I.base.tups b xs e
  rw[aQ (br this hn)]; exact this
 ·have:=I.base.frzs b ob u e
  rw[aQ (br this hn)]; exact this
 ·obtain⟨more,e2⟩:=I.base.tbls b ps e
  exact⟨more,by rw[aQ (br e2 hn)]; exact e2⟩
 ·obtain⟨a1,a2,a3,a4,a5⟩:=I.pin q hq
  exact⟨a1,by rw[aQ (hpin q hq)]; exact a2,a3,a4,a5⟩
 ·by_cases hb:b=p
  ·subst hb; rw[bJ] at e; cases e; exact new
  ·rw[aQ hb] at e
   exact(I.hok b u e).stay (fun _ _ _ q=>q) (fun c q=>by rw[aQ (br q hn)]; exact q) fun c xs q=>by rw[aQ (br q hn)]; exact q
end
noncomputable def Itz (K:PySem.W.Frag) (a b:Addr):It :=
 ⟨fun i H=>∃ xs x ys y,SqL K H a xs/\xs[i]?=some x/\SqL K H b ys/\ys[i]?=some y,
  fun i H v H'=>∃ p x y,v=.ref p/\H p=none/\H'=upd H p (.tup [x,y])/\(∀ xs,SqL K H a xs->xs[i]?=some x)/\∀ ys,SqL K H b ys->ys[i]?=some y,
  fun i H=>∃ xs ys,SqL K H a xs/\SqL K H b ys/\(xs.length<=i∨ys.length<=i)⟩
variable{es:List Expr}
theorem nW {P:Program}{w:World}{K:PySem.W.Frag} {x1} (a b z TI TO i1 i2:Addr):Turn P w K (.Tuple es x1 pos) (Itz K a b) [z,TI,TO,i1,i2] z
  (fun i h=>IsZip h z TI TO .none/\IsPair h TI (.ref i1) (.ref i2)/\(∃ u v,IsPair h TO u v)/\h.IsListIter i1 a i/\h.IsListIter i2 b i/\TI≠TO/\i1≠i2) where
 mem:=by simp
 obj:=fun i h ⟨hz,hTI,⟨u,v,hTO⟩,h1,h2,_⟩ c hc=>by
  simp only[wt,wC,or_false] at hc
  rcases hc with rfl | rfl | rfl | rfl | rfl
  ·exact⟨_,hz,fun v q=>by cases (show Data.fields _=Data.cell v from q)⟩
  ·exact⟨_,hTI,fun v q=>by cases (show Data.seq _ _=Data.cell v from q)⟩
  ·exact⟨_,hTO,fun v q=>by cases (show Data.seq _ _=Data.cell v from q)⟩
  ·obtain⟨o,e,_,d⟩:=h1
   exact⟨o,e,fun v q=>by rw[d] at q; cases q⟩
  ·obtain⟨o,e,_,d⟩:=h2
   exact⟨o,e,fun v q=>by rw[d] at q; cases q⟩
 keep:=fun i h h' ⟨hz,hTI,⟨u,v,hTO⟩,h1,h2,n1,n2⟩ k=>⟨k z (by simp) _ hz,k TI (by simp) _ hTI,⟨u,v,k TO (by simp) _ hTO⟩,h1.at fun o e=>k i1 (by simp) o e,h2.at fun o e=>k i2 (by simp) o e,n1,n2⟩
 item:=by
  intro X hP hw hK hc i pins s σ H E I hf ⟨hz,hTI,⟨u,v,hTO⟩,h1,h2,n1,n2⟩ hg
  subst hP hw hK
  obtain⟨xs,x,ys,y,hqa,hx,hqb,hy⟩:=hg
  obtain⟨its,rv,p,hsz⟩:=I.list hqa
  obtain⟨jts,rw',p',hsz'⟩:=I.list hqb
  obtain⟨ux,hux,rux⟩:=rv.get hx
  obtain⟨uy,huy,ruy⟩:=rw'.get hy
  have D:ZipApart z TI TO i1 i2 a b:=by
   obtain⟨oa,ea,ca,_,_⟩:=p.isList
   obtain⟨ob,eb,cb,_,_⟩:=p'.isList
   obtain⟨o1,e1,c1,_⟩:=h1
   obtain⟨o2,e2,c2,_⟩:=h2
   have dz:∀ {c:Addr}{o:Obj}{T:String},s.heap.get? c=some o->o.cls=.type T->T ≠ "zip" -> c≠z:=fun e q n r=>by
    rw[r,hz] at e; cases e; cases q; exact n rfl
   have dT:∀ {c d:Addr}{o q:Obj}{T U:String},s.heap.get? c=some o->o.cls=.type T->s.heap.get? d=some q->q.cls=.type U->T≠U->c≠d:=fun e1 c1 e2 c2 n r=>by
    subst r; rw[e1] at e2; cases e2; rw[c1] at c2; cases c2; exact n rfl
   exact⟨dz hTI rfl (by decide),dz hTO rfl (by decide),dz e1 c1 (by decide),dz e2 c2 (by decide),n1,dT hTI rfl e1 c1 (by decide),dT hTI rfl e2 c2 (by decide),dT hTO rfl e1 c1 (by decide),dT hTO rfl e2 c2 (by decide),n2,
    dz ea ca (by decide),dT ea ca hTO rfl (by decide),dT ea ca e1 c1 (by decide),dT ea ca e2 c2 (by decide),dz eb cb (by decide),dT eb cb hTO rfl (by decide),dT eb cb e1 c1 (by decide),dT eb cb e2 c2 (by decide)⟩
  refine wpAny_pyNext_zip_item D hz hTI hTO h1 h2 p.isList p'.isList (x:=ux) (y:=uy) (by simpa using hux) (by simpa using huy) fun h' a1 a2 a3 a4 a5 a6 hk=>?_
  refine⟨_,O,?_⟩
  refine wpAny_letOwnedTupleGo_zip (s:={ s with heap:=h' }) a1 fun h2' hz' hs'=>?_
  have lt:∀ b ∈ [z,TI,TO,i1,i2],b<s.heap.objs.size:=fun c hcm=>by
   simp only[wt,wC,or_false] at hcm
   rcases hcm with rfl | rfl | rfl | rfl | rfl
   ·exact Heap.lt_size hz
   ·exact Heap.lt_size hTI
   ·exact Heap.lt_size hTO
   ·obtain⟨o,e,_⟩:=h1; exact Heap.lt_size e
   ·obtain⟨o,e,_⟩:=h2; exact Heap.lt_size e
  have hTI2:IsPair h2' TI (.ref i1) (.ref i2):=hs'.extBut _ _ D.TIz (hk _ _ D.TIz D.TITO D.TIi1 D.TIi2 hTI)
  have hTO2:IsPair h2' TO ux uy:=hs'.extBut _ _ D.TOz a2
  have h12:h2'.IsListIter i1 a (i+1):=a3.extBut hs'.extBut D.i1z
  have h22:h2'.IsListIter i2 b (i+1):=a4.extBut hs'.extBut D.i2z
  have pz:s.heap.objs.size≠z:=Nat.ne_of_gt (Heap.lt_size hz)
  have hp2:IsPair h2' s.heap.objs.size ux uy:=hs'.extBut _ _ pz a5
  have kk:∀ c o,c ∉ [z,TI,TO,i1,i2]->s.heap.get? c=some o->h2'.get? c=some o:=fun c o hcm e=>by
   simp only[wt,wC,or_false,not_or] at hcm
   exact hs'.extBut _ _ hcm.1 (hk c o hcm.1 hcm.2.2.1 hcm.2.2.2.1 hcm.2.2.2.2 e)
  have I1:Inv X pins σ H { s with heap:=h2',toks:=s.toks }:=I.turnedL kk hf
  have fP:fg X pins H s.heap.objs.size:=I.fpOk (Nat.le_refl _) (I.hok.fresh (Nat.le_refl _))
  have I2:Inv X pins σ (upd H s.heap.objs.size (.tup [x,y])) { s with heap:=h2',toks:=s.toks }:=by
   refine I1.track I.sz (fP.2.1) fP.2.2.2.2.1 fP.2.2.2.2.2 fP.1 ?_
   exact⟨(show 2<=sizeLine by decide),[ux,uy],.cons rux (.cons ruy .nil),⟨_,hp2,O,_,O⟩⟩
  refine⟨.ref s.heap.objs.size,_,I2,O,⟨_,x,y,O,fP.1,O,fun zs hzs=>by rw[I.list_inj hzs hqa]; exact hx,fun zs hzs=>by rw[I.list_inj hzs hqb]; exact hy⟩,⟨hz',hTI2,⟨_,_,hTO2⟩,h12,h22,n1,n2⟩,fun c hcm=>?_⟩
  rw[aQ (Nat.ne_of_lt (lt c hcm))]
  exact(hf c hcm).1
 done:=by
  intro X hP hw hK hc i pins s σ H E I hf ⟨hz,hTI,⟨u,v,hTO⟩,h1,h2,n1,n2⟩ hg
  subst hP hw hK
  obtain⟨xs,ys,hqa,hqb,hend⟩:=hg
  obtain⟨its,rv,p,hsz⟩:=I.list hqa
  obtain⟨jts,rw',p',hsz'⟩:=I.list hqb
  have D:ZipApart z TI TO i1 i2 a b:=by
   obtain⟨oa,ea,ca,_,_⟩:=p.isList
   obtain⟨ob,eb,cb,_,_⟩:=p'.isList
   obtain⟨o1,e1,c1,_⟩:=h1
   obtain⟨o2,e2,c2,_⟩:=h2
   have dz:∀ {c:Addr}{o:Obj}{T:String},s.heap.get? c=some o->o.cls=.type T->T ≠ "zip" -> c≠z:=fun e q n r=>by
    rw[r,hz] at e; cases e; cases q; exact n rfl
   have dT:∀ {c d:Addr}{o q:Obj}{T U:String},s.heap.get? c=some o->o.cls=.type T->s.heap.get? d=some q->q.cls=.type U->T≠U->c≠d:=fun e1 c1 e2 c2 n r=>by
    subst r; rw[e1] at e2; cases e2; rw[c1] at c2; cases c2; exact n rfl
   exact⟨dz hTI rfl (by decide),dz hTO rfl (by decide),dz e1 c1 (by decide),dz e2 c2 (by decide),n1,dT hTI rfl e1 c1 (by decide),dT hTI rfl e2 c2 (by decide),dT hTO rfl e1 c1 (by decide),dT hTO rfl e2 c2 (by decide),n2,
    dz ea ca (by decide),dT ea ca hTO rfl (by decide),dT ea ca e1 c1 (by decide),dT ea ca e2 c2 (by decide),dz eb cb (by decide),dT eb cb hTO rfl (by decide),dT eb cb e1 c1 (by decide),dT eb cb e2 c2 (by decide)⟩
  have e1:=rv.length
  have e2:=rw'.length
  refine wpAny_pyNext_zip_end (I.ok.hd hc) D hz hTI hTO h1 h2 p.isList p'.isList (k1:=i) (k2:=i) (by
   rcases hend with h | h
   ·left; simp; omega
   ·right; simp; omega) fun h' hk=>⟨O,?_⟩
  exact I.turnedL (t':=s.toks) (fun c o hcm e=>by
   simp only[wt,wC,or_false,not_or] at hcm
   exact hk c o hcm.1 hcm.2.2.1 hcm.2.2.2.1 hcm.2.2.2.2 e) hf
 self:=fun _ _ _ _ _ st h=>wpAny_pyIter_zip st.1 h
section
variable {X:Cx}
noncomputable def iZip (K:PySem.W.Frag) (ta:TA):TI:=fun σ H R=>ta σ H fun vs H1=>∃ a b,vs=[.ref a,.ref b]/\(∃ xs,SqL K H1 a xs)/\(∃ ys,SqL K H1 b ys)/\R (Itz K a b) H1
theorem tT {x1} {tpos:Pos}{e1 e2:Expr}{ta:TA}{p pos:Pos} (hg:Gl X "zip") (hm:X.mg "zip" = none) (ha:PA X [e1,e2] ta) (hs:starEach [e1,e2] X.env=[(false,eval e1 X.env),(false,eval e2 X.env)]:=by rfl) (hs2:starEach [e2] X.env=[(false,eval e2 X.env)]:=by rfl) :
  PI X (.Tuple es x1 tpos) (.Call (.Name "zip" p) [e1,e2] [] pos) (iZip X.K ta):=by
 intro pins s σ H R I h
 refine Call_ (d6 I hg hm (by rfl) (PyProof.Rows.callWith_type1 (thn (ha pos pins s σ H _ I h) fun us s1 ⟨vs,H1,I1,r1,q1⟩=>?_) (by rw[hs,hs2]) (by rw[hs2]; rfl)))
 obtain⟨a,b,rfl,⟨xs,hqa⟩,⟨ys,hqb⟩,q⟩:=q1
 obtain⟨u1,u2,rfl,ru1,ru2⟩:=lm r1
 cases (show u1=Value.ref a from ru1)
 cases (show u2=Value.ref b from ru2)
 obtain⟨its,rv,pa,hsz⟩:=I1.list hqa
 obtain⟨jts,rw',pb,hsz'⟩:=I1.list hqb
 refine call_zip_2 pa.isList pb.isList fun h' hz hTI hTO h1 h2 hsize hk=>?_
 refine wpAny_pyIter_zip (s:={ s1 with heap:=h' }) hz ?_
 refine⟨_,_,_,_,H1,U,I1.kept (t':=s1.toks) hk,nW a b (s1.heap.objs.size+4) (s1.heap.objs.size+2) (s1.heap.objs.size+3) s1.heap.objs.size (s1.heap.objs.size+1),⟨hz,hTI,⟨_,_,hTO⟩,h1,h2,(fun z=>by have:s1.heap.objs.size+2=s1.heap.objs.size+3:=z; omega),(fun z=>by have:s1.heap.objs.size=s1.heap.objs.size+1:=z; omega)⟩,fun c hc=>?_,q⟩
 have hge:s1.heap.objs.size<=c:=by
  simp only[wt,wC,or_false] at hc
  rcases hc with h | h | h | h | h <;> (rw[h]; omega)
 exact I1.fpOk hge (I1.hok.fresh hge)
end
noncomputable def Ite (K:PySem.W.Frag) (a:Addr):It :=
 ⟨fun i H=>∃ xs x,SqL K H a xs/\xs[i]?=some x,
  fun i H v H'=>∃ p x,v=.ref p/\H p=none/\H'=upd H p (.tup [.int i,x])/\∀ xs,SqL K H a xs->xs[i]?=some x,
  fun i H=>∃ xs,SqL K H a xs/\xs.length<=i⟩
theorem mI {P:Program}{w:World}{K:PySem.W.Frag} {x1} (a e it:Addr):Turn P w K (.Tuple es x1 pos) (Ite K a) [e,it] e
  (fun i h=>(∃ old,IsEnum h e it i old)/\h.IsListIter it a i) where
 mem:=by simp
 obj:=fun i h ⟨⟨old,he⟩,h1⟩ c hc=>by
  simp only[wt,wC,or_false] at hc
  rcases hc with rfl | rfl
  ·exact⟨_,he,fun v q=>by cases (show Data.fields _=Data.cell v from q)⟩
  ·obtain⟨o,e,_,d⟩:=h1
   exact⟨o,e,fun v q=>by rw[d] at q; cases q⟩
 keep:=fun i h h' ⟨⟨old,he⟩,h1⟩ k=>⟨⟨old,k e (by simp) _ he⟩,h1.at fun o q=>k it (by simp) o q⟩
 item:=by
  intro X hP hw hK hc i pins s σ H E I hf ⟨⟨old,he⟩,h1⟩ hg
  subst hP hw hK
  obtain⟨xs,x,hqa,hx⟩:=hg
  obtain⟨its,rv,p,hsz⟩:=I.list hqa
  obtain⟨ux,hux,rux⟩:=rv.get hx
  have hne:e≠it:=fun z=>by
   obtain⟨o1,e1,c1,_⟩:=h1
   rw[<- z,he] at e1; cases e1
   exact absurd (show Value.type "enumerate" = Value.type "list_iterator" from c1) (by decide)
  refine wpAny_pyNext_enum_item he h1 p.isList (x:=ux) (by simpa using hux) hne fun h' a1 a3 a5 a6 hk=>?_
  refine⟨_,U,?_⟩
  refine wpAny_letOwnedTupleGo_enum (s:={ s with heap:=h',toks:=s.toks+1 }) a1 fun h2' hz' hs'=>?_
  have lt:∀ b ∈ [e,it],b<s.heap.objs.size:=fun c hcm=>by
   simp only[wt,wC,or_false] at hcm
   rcases hcm with rfl | rfl
   ·exact Heap.lt_size he
   ·obtain⟨o,q,_⟩:=h1; exact Heap.lt_size q
  have h12:h2'.IsListIter it a (i+1):=a3.extBut hs'.extBut (Ne.symm hne)
  have pz:s.heap.objs.size≠e:=Nat.ne_of_gt (Heap.lt_size he)
  have hp2:h2'.get? s.heap.objs.size=some { cls:=.type "tuple",data:=.seq #[.int i s.toks,ux] }:=hs'.extBut _ _ pz a5
  have kk:∀ c o,c ∉ [e,it]->s.heap.get? c=some o->h2'.get? c=some o:=fun c o hcm q=>by
   simp only[wt,wC,or_false,not_or] at hcm
   exact hs'.extBut _ _ hcm.1 (hk c o hcm.1 hcm.2 q)
  have I1:Inv X pins σ H { s with heap:=h2',toks:=s.toks+1 }:=I.turnedL kk hf
  have fP:fg X pins H s.heap.objs.size:=I.fpOk (Nat.le_refl _) (I.hok.fresh (Nat.le_refl _))
  have I2:Inv X pins σ (upd H s.heap.objs.size (.tup [.int i,x])) { s with heap:=h2',toks:=s.toks+1 }:=by
   refine I1.track I.sz (fP.2.1) fP.2.2.2.2.1 fP.2.2.2.2.2 fP.1 ?_
   exact⟨(show 2<=sizeLine by decide),[.int i s.toks,ux],.cons ⟨_,U⟩ (.cons rux .nil),⟨_,hp2,U,_,U⟩⟩
  refine⟨.ref s.heap.objs.size,_,I2,U,⟨_,x,U,fP.1,U,fun zs hzs=>by rw[I.list_inj hzs hqa]; exact hx⟩,⟨⟨_,hz'⟩,h12⟩,fun c hcm=>?_⟩
  rw[aQ (Nat.ne_of_lt (lt c hcm))]
  exact(hf c hcm).1
 done:=by
  intro X hP hw hK hc i pins s σ H E I hf ⟨⟨old,he⟩,h1⟩ hg
  subst hP hw hK
  obtain⟨xs,hqa,hend⟩:=hg
  obtain⟨its,rv,p,hsz⟩:=I.list hqa
  have e1:=rv.length
  refine wpAny_pyNext_enum_end (I.ok.hd hc) he h1 p.isList (i:=i) (by simp; omega) fun h' hk=>⟨U,?_⟩
  exact I.turnedL (t':=s.toks) (fun c o hcm q=>by
   simp only[wt,wC,or_false,not_or] at hcm
   exact hk c o hcm.2 q) hf
 self:=fun _ _ _ _ _ ⟨⟨_,st⟩,_⟩ h=>wpAny_pyIter_enum st h
section
variable {X:Cx}
noncomputable def iEnum (K:PySem.W.Frag) (ta:TA):TI:=fun σ H R=>ta σ H fun vs H1=>∃ a,vs=[.ref a]/\(∃ xs,SqL K H1 a xs)/\R (Ite K a) H1
theorem eB {x1} {tpos:Pos}{e1:Expr}{ta:TA}{p pos:Pos} (hg:Gl X "enumerate") (hm:X.mg "enumerate" = none) (ha:PA X [e1] ta) (hs:starEach [e1] X.env=[(false,eval e1 X.env)]:=by rfl) :
  PI X (.Tuple es x1 tpos) (.Call (.Name "enumerate" p) [e1] [] pos) (iEnum X.K ta):=by
 intro pins s σ H R I h
 refine Call_ (d6 I hg hm (by rfl) (PyProof.Rows.callWith_type1 (thn (ha pos pins s σ H _ I h) fun us s1 ⟨vs,H1,I1,r1,q1⟩=>?_) hs rfl))
 obtain⟨a,rfl,⟨xs,hqa⟩,q⟩:=q1
 obtain⟨u1,rfl,ru1⟩:=cS r1
 cases (show u1=Value.ref a from ru1)
 obtain⟨its,rv,pa,hsz⟩:=I1.list hqa
 refine call_enumerate_list pa.isList fun h' hz h1 hsize hk=>?_
 refine wpAny_pyIter_enum (s:={ s1 with heap:=h' }) hz ?_
 refine⟨_,_,_,_,H1,U,I1.kept (t':=s1.toks) hk,mI a (s1.heap.objs.size+1) s1.heap.objs.size,⟨⟨_,hz⟩,h1⟩,fun c hc=>?_,q⟩
 have hge:s1.heap.objs.size<=c:=by
  simp only[wt,wC,or_false] at hc
  rcases hc with h | h <;> (rw[h]; omega)
 exact I1.fpOk hge (I1.hok.fresh hge)
end
theorem cV {P:Nat->Value->Prop}{acc:List Value}{xs:List V} (hl:acc.length=xs.length) (h:∀ (j:Nat) (v:Value),acc[j]?=some v->P j v) (hP:∀ (j:Nat) v x,P j v->xs[j]?=some x->RelV x v):Vals xs acc:=by
 induction xs generalizing acc P with
 | nil=>
  cases acc with
  | nil=>exact .nil
  | cons _ _=>simp at hl
 | cons x xs ih=>
  cases acc with
  | nil=>simp at hl
  | cons u acc=>
   refine .cons (hP 0 u x (h 0 u rfl) rfl) (ih (P:=fun j=>P (j+1)) (by simpa using hl) (fun j v e=>h (j+1) v (by simpa using e)) fun j v y p e=>hP (j+1) v y p (by simpa using e))
section
variable {X:Cx}
theorem kA:∀ {bs:List Bool}{us:List Value},Vals (bs.map V.bl) us->LSm.BoolsAre us bs
 | [],_,.nil=>.nil
 | b::bs,_,.cons r t=>by
  obtain rfl:=(show _=Value.bool b from r)
  exact .cons b (kA t)
theorem ky (hc:X.calm=true):cD X (.builtin "all") (fun xs H Q=>∃ (a:Addr) (bs:List Bool),xs=[V.ref a]/\SqL X.K H a (bs.map V.bl)/\Q (.bl (bs.all id)) H):=by
 intro pins s σ H xs us Q I r h
 obtain⟨a,bs,rfl,hq,q⟩:=h
 obtain⟨u,rfl,ru⟩:=cS r
 cases (show u=Value.ref a from ru)
 obtain⟨its,rv,p,hz⟩:=I.list hq
 obtain⟨m,F⟩:=I.fr
 have hlt:a<s.heap.objs.size:=by obtain⟨_,e,_⟩:=p.isList; exact Heap.lt_size e
 have hb:=kA rv
 refine call_all_walk (wpAny_pyIter_list p.isList ?_)
 refine⟨s.heap.objs.size,[s.heap.objs.size,a],[s.heap.objs.size],its.toArray.size,_,_,fun i=>(bs[i]?).getD true,U,Walks.list (A:=X.A.in1) (I.ok.hd hc) _ a (Nat.ne_of_lt hlt) its.toArray,
  ⟨⟨_,Heap.get?_push_size _ rfl,U,U⟩,p.isList.push _⟩,fun i v s' Q' E' hP hQ=>?_,fun h' tk hk=>?_⟩
 ·obtain⟨b,e,rfl⟩:=hb.get i v (by simpa using hP)
  simp only[e,Option.getD_some] at hQ
  exact wpAny_truthy_bool hQ
 ·have e:((List.range its.toArray.size).all fun i=>(bs[i]?).getD true)=bs.all id:=by
   rw[wp,hb.length]; exact LSm.range_all bs
  rw[e]
  exact⟨.bl (bs.all id),H,I.kept (LSm.kept_iter hk),U,q⟩
theorem fO:cD X (.type "range") (fun xs H Q=>∃ j:Int,xs=[.int j]/\∀ p,H p=none->Q (.ref p) (upd H p (.rng 0 j))):=by
 intro pins s σ H xs us Q I r h
 obtain⟨j,rfl,q⟩:=h
 obtain⟨u,rfl,t,rfl⟩:=cS r
 refine call_range_1 ⟨.ref s.heap.objs.size,_,I.laid (fun b o e=>Heap.get?_push_of_some _ e) (Nat.le_refl _) ?_,U,q _ (I.hok.fresh (Nat.le_refl _))⟩
 exact⟨_,_,_,Heap.get?_push_size _ rfl⟩
noncomputable def dq (n:Nat):List V:=(List.range n).map fun i=>V.int (i:Nat)
theorem dk (n:Nat):(dq n).length=n:=by simp[dq]
theorem nk {n i:Nat} (h:i<n):(dq n)[i]?=some (.int i):=by simp[dq,h]
theorem dY (hc:X.calm=true):cD X (.type "list") (fun xs H Q=>∃ p j,xs=[.ref p]/\H p=some (.rng 0 j)/\0<=j/\j<=2 ^ 24/\∀ l,H l=none->Q (.ref l) (upd H l (.lst (dq j.toNat)))):=by
 intro pins s σ H xs us Q I r h
 obtain⟨p,j,rfl,hp,h0,h1,q⟩:=h
 obtain⟨u,rfl,ru⟩:=cS r
 cases (show u=Value.ref p from ru)
 obtain⟨t,u,v,e⟩:=(show ObjOk X.prog X.w H s.heap p (.rng 0 j) from I.hok p _ hp)
 have sz:(j.toNat:Nat)<=sizeLine:=by rw[sizeLine_eq]; omega
 refine call_list_range (n:=j.toNat) (I.ok.hd hc) e (small_one (by omega) (by omega) (by omega) (by omega)) (by rw[rangeSize_one]; split <;> omega) (by omega) fun h' tk acc c hk hS hi=>?_
 refine⟨.ref s.heap.objs.size,_,I.laid hk (Nat.le_refl _) ?_,U,q _ (I.hok.fresh (Nat.le_refl _))⟩
 refine⟨by rw[dk]; exact sz,acc.toList,c,cV (P:=fun i v=>∃ t,v=.int ((0:Int)+i*1) t) (by rw[dk,Array.length_toList]; exact hi.1) (fun i v e=>hi.2 i v (by simpa using e)) (fun i v x ⟨t,e⟩ ex=>?_),by simpa using hS⟩
 subst e
 have hlt:i<j.toNat:=by
  have:=(List.getElem?_eq_some_iff.mp ex).1
  rw[dk] at this; exact this
 rw[nk hlt] at ex
 cases ex
 exact⟨t,by congr 1; omega⟩
theorem jy (hc:X.calm=true):cD X (.type "list") (fun xs H Q=>∃ p kvs,xs=[.ref p]/\Rd H p (.dK kvs)/\∀ l,H l=none->Q (.ref l) (upd H l (.lst (kvs.map fun kv=>kV kv.1)))):=by
 intro pins s σ H xs us Q I r h
 obtain⟨p,kvs,rfl,hp,q⟩:=h
 obtain⟨u,rfl,ru⟩:=cS r
 cases (show u=Value.ref p from ru)
 obtain⟨z,hd,vs,rel,o,es,ep,g1,g2,g3,g4,g5,g6⟩:=fL I.hok hp
 refine PySem.W.kdl_call (PySem.W.kdl_dict (knd:=aS X.prog X.w) (kvs:=vs) (ep:=ep) hd) (I.ok.hd hc) ⟨o,es,g1,g2,g3,g4,g5,g6⟩ (by rw[<- rel.length]; exact z) fun h' tk acc c hk hS hi=>?_
 refine⟨.ref s.heap.objs.size,_,I.laid hk (Nat.le_refl _) ?_,U,q _ (I.hok.fresh (Nat.le_refl _))⟩
 refine⟨by rw[v9]; exact z,acc.toList,c,cV (P:=fun i v=>∃ k x,vs[i]?=some (k,x)/\(aS X.prog X.w).is k v=true) (by rw[v9,Array.length_toList,hi.1,rel.length]) (fun i v e=>hi.2 i v (by simpa using e)) (fun i v x ⟨k,y,e1,e2⟩ ex=>?_),by simpa using hS⟩
 have hk1:(kvs.map (·.1))[i]?=some k:=by
  have:=rel.keys
  rw[this,wd,e1]; rfl
 rw[wd] at ex hk1
 cases hkv:kvs[i]? with
 | none=>rw[hkv] at ex; cases ex
 | some kv=>
  rw[hkv] at ex hk1
  cases ex
  have:kv.1=k:=by simpa using hk1
  subst this
  rcases aW (k:=kv.1) (v:=v) e2 with ⟨i,t,e3,e4⟩ | ⟨x,t,e3,e4⟩
  ·show RelV (kV kv.1) v
   rw[e3,e4]; exact⟨t,U⟩
  ·show RelV (kV kv.1) v
   rw[e3,e4]; exact⟨t,U⟩
end
theorem d7 (k:Str):∀ D:List (Str×PyData),KTD.inKeys k (D.map fun p=>(p.1,KTD.Dat.flat p.2))=(D.any fun p=>decide (k=p.1))
 | []=>rfl
 | p::D=>by rw[wu,List.any_cons,KTD.inKeys,d7 k D]
section
variable {X:Cx}
noncomputable abbrev k8 (K:PySem.W.Frag) (a:Addr) (D:List (Str×PyData)):Prop:=KTD.tabLook KTD.flatLooks (fun b=>K.lookup b) a D=true
theorem gp {pins:List (Addr×Obj)}{σ:St}{H:Hp}{s:Shared}{a:Addr}{D:List (Str×PyData)} (I:Inv X pins σ H s) (T:k8 X.K a D):KTD.Here s.heap s.heap a (D.map fun p=>(p.1,KTD.Dat.flat p.2)) :=
 ⟨(KTD.tab_of_look (fun _ _ x=>KTD.flat_of_looks x) (fun b o e=>I.kIn b o e) T).text,fun _ _ e=>e⟩
theorem t6:OpR X (compareOp .In) (fun x y H Q=>∃ k a D,x=V.str k/\y=V.ref a/\k8 X.K a D/\Q (.bl (D.any fun p=>decide (k=p.1))) H):=by
 intro pins s σ H x y v u Q I rx ry h
 obtain⟨k,a,D,rfl,rfl,T,q⟩:=h
 obtain⟨t,rfl⟩:=(show ∃ t,v=Value.str k t from rx)
 cases (show u=Value.ref a from ry)
 refine KTD.in_text (gp I T) ⟨.bl (KTD.inKeys k (D.map fun(p:Str×PyData)=>(p.1,KTD.Dat.flat p.2))),H,I.tok _,U,?_⟩
 rw[d7]; exact q
theorem iG:OpR X (compareOp .NotIn) (fun x y H Q=>∃ k a D,x=V.str k/\y=V.ref a/\k8 X.K a D/\Q (.bl (!(D.any fun p=>decide (k=p.1)))) H):=by
 intro pins s σ H x y v u Q I rx ry h
 obtain⟨k,a,D,rfl,rfl,T,q⟩:=h
 obtain⟨t,rfl⟩:=(show ∃ t,v=Value.str k t from rx)
 cases (show u=Value.ref a from ry)
 refine KTD.notin_text (gp I T) ⟨.bl (!KTD.inKeys k (D.map fun(p:Str×PyData)=>(p.1,KTD.Dat.flat p.2))),H,I.tok _,U,?_⟩
 rw[d7]; exact q
theorem uE:IxR X (fun x y H Q=>∃ k a D i,x=V.ref a/\y=V.str k/\k8 X.K a D/\D.lookup k=some (PyData.int i)/\(D.all fun p=>match p.2 with | .int _=>true | _=>false)=true/\Q (.int i) H):=by
 intro value slice pins s σ H x y v u Q I rx ry h hs
 obtain⟨k,a,D,i,rfl,rfl,T,e,hp,q⟩:=h
 cases (show v=Value.ref a from rx)
 obtain⟨t,rfl⟩:=(show ∃ t,u=Value.str k t from ry)
 have e1:∀ D:List (Str×PyData),(D.all fun p=>match p.2 with | .int _=>true | _=>false)=true->((D.map fun p=>(p.1,KTD.Dat.flat p.2)).all fun p=>KTD.plain p.2)=true:=fun D hD=>by
  rw[List.all_map]
  refine List.all_eq_true.mpr fun p hp'=>?_
  have:=List.all_eq_true.mp hD p hp'
  cases hq:p.2 <;> simp[hq] at this <;> simp[Function.comp,hq,KTD.plain]
 have e2:∀ D:List (Str×PyData),KTD.datumAt k (D.map fun p=>(p.1,KTD.Dat.flat p.2))=(D.lookup k).map KTD.Dat.flat:=fun D=>by
  induction D with
  | nil=>rfl
  | cons p D ih=>
   obtain⟨x,d⟩:=p
   rw[wu,KTD.datumAt,wE,ih]
   by_cases hk:k=x
   ·subst hk; simp
   ·have:(k == x)=false:=beq_eq_false_iff_ne.mpr hk
    simp[hk,this]
 have hT:=gp I T
 have hat:KTD.datumAt k (D.map fun p=>(p.1,KTD.Dat.flat p.2))=some (KTD.Dat.flat (.int i)):=by rw[e2 D,e]; rfl
 have hmem:KTD.inKeys k (D.map fun p=>(p.1,KTD.Dat.flat p.2))=true:=by rw[<- KTD.isSome_datumAt,hat]; rfl
 refine subscriptTail_builtin_flat hT.typeIs slot_dict_getitem.lookup ?_ hs
 unfold getItem
 try with_reducible refine wpAny_holding ?_
 refine wpAny_bind (wpAny_sequenceKey hT.typeIs (by decide) ?_)
 refine wpAny_bind (wpAny_callSpecial?_slot (name:=Str.ofString "__getitem__") hT.typeIs slot_dict_getitem
  (wpAny_call_entry slot_dict_getitem hT.typeIs entry_dict_getitem ?_ (args_dict_getitem _ _)))
 show wpAny _ _ (dictGet a (.str k t) >>= _) _ _ s
 refine wpAny_bind (KTD.dictGet_text hT (fun d v ha hv=>wpAny_pure ⟨v,U,wpAny_pure ⟨KTD.notRef_of_plain (KTD.plain_at (e1 D hp) ha) hv,?_⟩⟩) fun hn=>absurd hn (KTD.at_of_mem hmem))
 rw[hat] at ha
 cases ha
 obtain⟨t',rfl⟩:∃ t,v=Value.int i t:=by
  exact PyProof.V.Flat.int_inv (show PyProof.V.Flat v (PyData.int i) from hv)
 exact⟨.int i,H,I.tok _,⟨_,U⟩,q⟩
end
structure FunG (K:PySem.W.Frag) (x qual:Str) (st:Stmt) (dV:Value) (f:Addr) (fd:FuncData):Prop where
 ex:∃ (oc:Value) (od:Option Addr) (kV doc pm:Value) (an:Option Addr) (cdv ct:Value) (osl:Array (Option Value)),
  fd=W.fnOf x qual (bR st) (bI st) (ah st) dV kV doc pm an cdv ct/\K.lookup f=some ⟨oc,od,.func fd,osl⟩/\W.codeIn K cdv qual=true
 kp:W.keepIn K (.ref f)=true
section
variable {P:Program}{w:World}{K:PySem.W.Frag}{mg:Str->Option Value}{base:Heap}
theorem FunG.ok {x qual:Str}{st:Stmt}{dV:Value}{f:Addr}{fd:FuncData}{N ps:List Str}{k:Nat}{sp:Sp} (F:FunG K x qual st dV f fd) (S:FnScope N ps (ah st)) (len:∀ vs H Q E,sp vs H Q E->vs.length=ps.length)
  (hbody:∀ (cdv:Value) (A:Around) (outer:List Env) (s:Shared) (H:Hp) (vs:List V) (Q:VK) (E:XK),Room k (A.deeper (envOfC qual (ah st) s.heap.objs.size f cdv))->sp vs H Q E ->
   ∃ t,PSs (nG CX0 P w K mg base N qual (ah st) f cdv A outer s H E).nox (bI st) t/\t { nx:=fun _ H'=>Q .non H',rt:=Q } (start N vs) H):FnOk P w K mg base CX0 (k+1) f fd ps sp:=by
 obtain⟨oc,od,kV,doc,pm,an,cdv,ct,osl,rfl,lk,hcd⟩:=F.ex
 refine fn_of lk hcd S len fun A outer s H vs Q E hr hsp=>?_
 obtain⟨t,h,q⟩:=hbody cdv A outer s H vs Q E hr hsp
 exact⟨t,h.nox,q⟩
theorem FunG.binds {x qual:Str}{st:Stmt}{dV:Value}{f:Addr}{fd:FuncData}{ps:List Str} (F:FunG K x qual st dV f fd)
  (h:∀ (kV doc pm:Value) (an:Option Addr) (cdv ct:Value) (us:List Value),us.length=ps.length->bindArgs (W.fnOf x qual (bR st) (bI st) (ah st) dV kV doc pm an cdv ct) ⟨us,[]⟩=pure (ps.zip us)):Binds K fd ps []:=by
 obtain⟨oc,od,kV,doc,pm,an,cdv,ct,osl,rfl,lk,hcd⟩:=F.ex
 exact .all (h kV doc pm an cdv ct)
theorem funG_mk {x qual:Str}{st:Stmt}{f:Addr}{oc:Value}{od an:Option Addr}{osl:Array (Option Value)}{dV kV doc pm cdv ct:Value} (l:K.lookup f=some ⟨oc,od,.func (W.fnOf x qual (bR st) (bI st) (ah st) dV kV doc pm an cdv ct),osl⟩)
  (c:W.codeIn K cdv qual=true) (k:W.keepIn K (.ref f)=true):FunG K x qual st dV f (W.fnOf x qual (bR st) (bI st) (ah st) dV kV doc pm an cdv ct):=⟨⟨oc,od,kV,doc,pm,an,cdv,ct,osl,U,l,c⟩,k⟩
end
section
variable {X:Cx}{K:PySem.W.Frag}
theorem lN (hK:X.K=K) {k:Nat}{t:TGs}{n:Nat} (hc:X.calm=true) (h:PGs X es t)
  (hn:(assignEach es X.env).length=n:=by rfl) (hst:(assignEach es X.env).findIdx? (·.1)=none:=by rfl):PG X (.Tuple es k pos) (vW K n t):=by
 subst hK; exact bB hc h hn hst
end
end L2
namespace L2
theorem fj {σ:St}{H:Hp}{A B:Hp->Prop} (h:A H):rZ σ H (fun b H3=>if b=true then A H3 else B H3):=(da h:if true=true then A H else B H)
end L2
namespace L2
open PySem PySem.Spec PyProof.Rows
section
variable {X:Cx}{CX:CXT}{k:Nat}{f C:Addr}{fd:FuncData}{ps ks:List Str}{sp:Sp}{E:XK}{x m:Str}{p pos apos kpos:Pos}{e o:Expr}{es:List Expr}{kws:List Keyword}{te ta:TE}{t tk:TA}
 {g:List Value->List Value->List Value}{gV:List V->List V->List V}
noncomputable def tu (C:Addr) (m:Str) (sp:Sp) (gV:List V->List V->List V) (E:XK) (ta:TE) (t tk:TA):TE:=fun σ H Q=>ta σ H fun x H1=>∃ a dx fs,x=.ref a/\H1 a=some (.ins C dx fs)/\fs.lookup m=none /\
 t σ H1 fun vs H2=>tk σ H2 fun zs H3=>sp (gV (x::vs) zs) H3 Q E
theorem oZ {pl:Sem Bool} (he:PE X o ta) (c:Cls X.K C) (hm:Meth X.K C m f) (F:FnOk X.prog X.w X.K X.mg X.base CX k f fd ps sp) (hr:Room k X.A) (hb:KBinds X.K fd ps ks g gV) (hx:cW CX X E) (ha:PA X (e::es) t) (hkw:PK X kws tk)
  (hall:(backToKw pos (keywordEach kws X.env)).all (·.1.isSome)=true:=by rfl) (hks:(backToKw pos (keywordEach kws X.env)).filterMap (·.1)=ks:=by rfl)
  (hst:starEach (e::es) X.env=(false,eval e X.env)::starEach es X.env:=by rfl)
  (hpl:((backTo pos (starEach (e :: es) X.env)).any (·.1) || (backToKw pos (keywordEach kws X.env)).any (·.1.isNone)) = false:=by rfl)
  (ht:eval (.Call (.Attribute o m apos) (e::es) kws pos) X.env=(do
   let ov <- eval o X.env
   standAt apos.atName
   let (f,first) <- holding [ov] (getMethod ov m pl)
   callWith pos f first (backTo pos (starEach (e::es) X.env)) (backToKw pos (keywordEach kws X.env))):=by rfl) :
  PE X (.Call (.Attribute o m apos) (e::es) kws pos) (tu C m sp gV E ta t tk):=by
 intro pins s σ H Q I h
 refine PySem.W.methodCall_KW (pl:=pl) (thn (he pins s σ H _ I h) fun u s1 ⟨x,H1,I1,rx,a,dx,fs,ex,ea,l,q⟩=>?_) ht
 subst ex
 obtain rfl:u=Value.ref a:=rx
 refine d9 I1 ea c hm l ?_
 refine PySem.W.callWith_KW (first:=[.ref a]) (h₀:=X.base) I.ok.mod.kin hm.kp hall (thn (ha pos pins s1 σ H1 _ I1 q) fun us s2 ⟨vs,H2,I2,r,q2⟩=>?_) hpl hst
 refine thn (hkw pos pins s2 σ H2 _ I2 q2) fun ws s3 ⟨zs,H3,I3,rz,q3⟩=>⟨I3.kIn,?_⟩
 rw[hks]
 exact qC F hr hb hx I3 (us:=.ref a::us) (vs:=.ref a::vs) (.cons rfl r) rz q3
end
end L2
namespace L2
theorem ifJ {b:Bool}{A B:Prop} (hA:b=true->B->A) (g:B):if b=true then A else B:=by
 cases b
 ·exact bz g
 ·exact da (hA rfl g)
end L2
namespace L2
open PySem PySem.Spec PyProof.Rows
section
variable {X:Cx}{o i e:Expr}{td ty:TE}{tpos pos apos cpos:Pos}
theorem fV:OpR X (binaryOp .Add) (fun x y H Q=>∃ a b xs ys,x=.ref a/\y=.ref b/\SqL X.K H a xs/\SqL X.K H b ys/\xs.length+ys.length<=sizeLine/\∀ l,H l=none->Q (.ref l) (upd H l (.lst (xs++ys)))):=by
 intro pins s σ H x y u v Q I rx ry h
 obtain⟨a,b,xs,ys,rfl,rfl,ha,hb,hz,q⟩:=h
 cases (show u=Value.ref a from rx)
 cases (show v=Value.ref b from ry)
 obtain⟨ia,ra,⟨⟨cls,dd,data,sl⟩,n,ho,hc,_,hd⟩,_⟩:=I.list ha
 obtain⟨ib,rb,⟨⟨cls2,dd2,data2,sl2⟩,n2,ho2,hc2,_,hd2⟩,_⟩:=I.list hb
 simp only at hc hd hc2 hd2
 subst hc hd hc2 hd2
 have e:ia.toArray++ib.toArray=(ia++ib).toArray:=by simp
 have e1:=ra.length
 have e2:=rb.length
 refine concat_meets ⟨_,ho,U⟩ ⟨_,ho2,U⟩ noFill_list_add seq_list_add PySem.F.slot_list_add PySem.F.entry_list_add (PySem.F.args_list_add_2 _ _) (list_addW a b ia.toArray ib.toArray n n2 dd dd2 sl sl2 (by simp; omega)) ⟨ho,ho2,?_⟩
 rw[e]
 refine⟨.ref s.heap.objs.size,_,I.laid (a:=s.heap.objs.size) (o:=.lst (xs++ys)) (t':=s.toks) (fun _ _ q=>Heap.get?_push_of_some _ q) (Nat.le_refl _) ⟨by simpa using hz,ia++ib,0,ra.append rb,Heap.get?_push_size _ rfl⟩,U,q _ (I.hok.fresh (Nat.le_refl _))⟩
theorem d3 {h:Heap}:∀ {ns:List Int}{vs:List Value},Vals (ns.map V.int) vs->ReadsAll h vs (ns.map PyData.int) []
 | [],_,r=>by cases r; exact .nil
 | n::ns,_,r=>by
  cases r with
  | cons r1 r2=>
   obtain⟨t,rfl⟩:=r1
   exact .cons (as:=[]) (.int _ t) (d3 r2)
theorem iE {pins:List (Addr×Obj)}{s:Shared}{σ:St}{H:Hp}{a:Addr}{ns:List Int} (I:Inv X pins σ H s) (h:H a=some (.tup (ns.map V.int))):Reads s.heap (.ref a) (.tuple (ns.map PyData.int)) []:=by
 obtain⟨_,its,r,o,h1,h2,n,h3⟩:=(show ObjOk X.prog X.w H s.heap a (.tup (ns.map V.int)) from I.hok a _ h)
 exact reads_tuple_at h1 h2 h3 (by simpa using d3 r)
theorem gw (ns:List Int):SeqAt.shaped (.tuple (ns.map PyData.int))=true:=by
 simp[SeqAt.shaped,PyData.canLay0,PyData.depth,PySem.W.ke_canLayAll0,PySem.W.ke_depthAll]
theorem oA (ns ms:List Int):PySem.Spec.same (.tuple (ns.map PyData.int)) (.tuple (ms.map PyData.int))=decide (ns=ms):=by
 simp only[PySem.Spec.same]; exact PySem.W.ke_sameAll ns ms
noncomputable def rTup (neg:Bool):R2:=fun x y H Q=>∃ (a b:Addr) (ns ms:List Int),x=.ref a/\y=.ref b/\H a=some (.tup (ns.map V.int))/\H b=some (.tup (ms.map V.int))/\Q (.bl (if neg then !decide (ns=ms) else decide (ns=ms))) H
theorem lv (ns:List Int):(Shape.tuples .int).has (.tuple (ns.map PyData.int))=true:=by
 simp only[Shape.has]
 induction ns with
 | nil=>rfl
 | cons n ns ih=>simp[Shape.hasAll,Shape.has] at ih ⊢; try exact ih
theorem t7 (hu:X.A.units+64<cLine):OpR X (compareOp .Eq) (rTup false):=by
 intro pins s σ H x y u v Q I rx ry h
 obtain⟨a,b,ns,ms,rfl,rfl,ha,hb,q⟩:=h
 cases (show u=Value.ref a from rx)
 cases (show v=Value.ref b from ry)
 exact eq_dataH_same (iE I ha) (iE I hb) (gw _) (gw _) hu (SeqAt.noMix_of_shape (.tuples .int) rfl _ _ (lv ns) (lv ms)) (by rw[oA]; exact aU I q (by simp))
end
theorem eU {K:PySem.W.Frag}{a:Addr}{xs:List V}{g:TG}{tb:TS}{D:Ends}{σ:St}{H:Hp} (Pv:Nat->St->Hp->Prop) (h0:Pv 0 σ H) (hl:∀ i σ H,i<=xs.length->Pv i σ H->SqL K H a xs)
  (hs:∀ i x σ H p,xs[i]?=some x->Pv i σ H->H p=none->g (.ref p) σ (upd H p (.tup [.int i,x])) fun σ2 H2=>tb { D with nx:=Pv (i+1),ct:=Pv (i+1),bk:=D.nx } σ2 H2) (hd:∀ σ H,Pv xs.length σ H->D.nx σ H) :
  ∃ W:Nat->Nat->St->Hp->Prop,(∃ m,W 0 m σ H)/\∀ i m σ H,W i m σ H ->
   ((Ite K a).stop i H/\D.nx σ H)∨((Ite K a).go i H/\∃ N:St->Hp->Prop,(∀ σ' H',N σ' H'->∃ m',m'<m/\W (i+1) m' σ' H')/\∀ x H',(Ite K a).yld i H x H'->g x σ H' fun σ2 H2=>tb { D with nx:=N,ct:=N,bk:=D.nx } σ2 H2):=by
 refine⟨fun i m σ H=>m=xs.length - i/\i<=xs.length/\Pv i σ H,⟨xs.length,by simp,Nat.zero_le _,h0⟩,?_⟩
 rintro i m σ H ⟨rfl,hi,p⟩
 have hq:=hl i σ H hi p
 by_cases hlt:i<xs.length
 ·refine .inr ⟨⟨xs,xs[i],hq,wa hlt⟩,Pv (i+1),fun σ' H' p'=>⟨xs.length - (i+1),by omega,U,hlt,p'⟩,fun x H' y=>?_⟩
  obtain⟨b,z,rfl,hb,rfl,hz⟩:=y
  exact hs i z σ H b (hz xs hq) p hb
 ·have e:i=xs.length:=by omega
  subst e
  exact .inl ⟨⟨xs,hq,Nat.le_refl _⟩,hd σ H p⟩
noncomputable abbrev ii:=Option Key
noncomputable def o9:ii->Value->Bool
 | none,.none=>true
 | none,_=>false
 | some k,v=>gU k v
noncomputable def okeyH (w:World):ii->Int
 | none=>reduceHash 0xFCA86420
 | some k=>vU w k
theorem bL {v:Value} (h:o9 none v=true):v=.none:=by cases v <;> first | rfl | cases h
section
variable {prog:Program}{w:World}{A:Around}{E:Value->Shared->Prop}{s:Shared}
theorem ef {Q:Int->Shared->Prop} (h:Q (reduceHash 0xFCA86420) { s with toks:=s.toks+1 }):wpAny (model prog w) A (pyHash .none) Q E s :=
 PySem.W.pyHash_slot (T := "NoneType") rfl F.slot_NoneType_hash F.entry_NoneType_hash (F.args_NoneType_hash_1 _) (beq_builtin_none _) (.inl rfl) (wpAny_bind (wpAny_pure (wpAny_bind (wpAny_mkInt (wpAny_pure ⟨_,_,U,h⟩)))))
end
theorem p9 (a b:Key):decide ((some a:ii)=some b)=decide (a=b):=by
 by_cases e:a=b
 ·subst e; simp
 ·rw[decide_eq_false e,decide_eq_false (fun q=>e (Option.some.inj q))]
noncomputable def fU (prog:Program) (w:World):PySem.KeyKind prog w ii where
 is:=o9
 hash:=okeyH w
 inj:=fun v a b ha hb=>by
  cases a with
  | none=>
   cases b with
   | none=>rfl
   | some b=>rw[bL ha] at hb; rcases aW (k:=b) hb with ⟨_,_,_,e⟩ | ⟨_,_,_,e⟩ <;> cases e
  | some a=>
   cases b with
   | none=>rw[bL hb] at ha; rcases aW (k:=a) ha with ⟨_,_,_,e⟩ | ⟨_,_,_,e⟩ <;> cases e
   | some b=>exact congrArg some ((aS prog w).inj v a b ha hb)
 byValue:=fun k v h=>by
  cases k with
  | none=>rw[bL h]; rfl
  | some k=>exact(aS prog w).byValue k v h
 pyHash:=fun {A E s k v Q} hv h=>by
  cases k with
  | none=>rw[bL hv]; exact ef h
  | some k=>exact(aS prog w).pyHash hv h
 eqBool:=fun {A E s a b u v Q} hu hv h=>by
  cases a with
  | none=>
   have e1:=bL hu
   subst e1
   cases b with
   | none=>
    have e2:=bL hv
    subst e2
    exact SeqAt.EqAt.same _ _ _ _ _ h
   | some b=>
    rw[decide_eq_false (fun q=>nomatch q)] at h
    rcases aW (k:=b) hv with ⟨j,t,_,rfl⟩ | ⟨y,t,_,rfl⟩
    ·exact SeqAt.EqAt.none_int _ _ _ _ _ _ h
    ·exact SeqAt.EqAt.none_str _ _ _ _ _ _ h
  | some a=>
   cases b with
   | none=>
    have e2:=bL hv
    subst e2
    rw[decide_eq_false (fun q=>nomatch q)] at h
    rcases aW (k:=a) hu with ⟨j,t,_,rfl⟩ | ⟨y,t,_,rfl⟩
    ·exact SeqAt.EqAt.int_none _ _ _ _ _ _ h
    ·exact SeqAt.EqAt.str_none _ _ _ _ _ _ h
   | some b=>rw[p9] at h; exact(aS prog w).eqBool (a:=a) (b:=b) hu hv h
 «strs»:=fun k x t v h=>by
  cases k with
  | none=>cases h
  | some k=>exact(aS prog w).strs k x t v h
theorem kU {P:Program}{w:World}{ks:List Key}{us:List Value} (h:ItemsAre (aS P w) ks us):ItemsAre (fU P w) (ks.map some) us:=by
 induction h with
 | nil=>exact .nil
 | cons a b ih=>exact .cons a ih
theorem jv {P:Program}{w:World}{h:Heap}{a:Addr}{xs:List (List Key×Addr×Value)} (d:h.DictOfH (tupleKind (aS P w)) a xs) :
  h.DictOfH (tupleKind (fU P w)) a (xs.map fun x=>(x.1.map some,x.2)):=by
 obtain⟨o,es,ep,h1,h2,h3,h4,h5,h6⟩:=d
 refine⟨o,es,ep,h1,h2,h3,?_,?_,?_⟩
 ·rw[h4,wD]
  refine List.map_congr_left fun x _=>?_
  show entryOfKey _ x=entryOfKey _ (x.1.map some,x.2)
  unfold entryOfKey
  have e:(tupleKind (aS P w)).hash x.1=(tupleKind (fU P w)).hash (x.1.map some):=by
   show reduceHash _=reduceHash _
   rw[wD]
   rfl
  rw[e]
 ·intro x hx
  obtain⟨y,hy,rfl⟩:=wv.mp hx
  obtain⟨o,its,n,g1,g2,g3,g4⟩:=h5 y hy
  exact⟨o,its,n,g1,g2,g3,kU g4⟩
 ·rw[wD]
  have:(fun x:List Key×Addr×Value=>(x.1.map some,x.2).1)=(List.map some) ∘ fun x=>x.1:=rfl
  show List.Nodup (xs.map ((fun x=>x.1) ∘ fun x=>(x.1.map some,x.2)))
  have e:((fun x:List ii×Addr×Value=>x.1) ∘ fun x:List Key×Addr×Value=>(x.1.map some,x.2))=(List.map (some:Key->ii)) ∘ fun x=>x.1:=rfl
  rw[e,<- wD]
  have inj:Function.Injective (some:Key->ii):=fun _ _ h=>Option.some.inj h
  refine List.Pairwise.map _ (fun a b hab hc=>hab ?_) h6
  exact List.map_inj_right (fun _ _ h=>Option.some.inj h) |>.mp hc
noncomputable def mG (H:Hp) (a:Addr) (y:V) (r:Option V):Prop :=
 DGet H a y r∨∃ (kvs:List (List Key×V)) (n:Int) (b:Addr),Rd H a (.dT kvs)/\y=.ref b/\H b=some (.tup [.int n,.non])/\r=none
section
variable {X:Cx}{pins:List (Addr×Obj)}{σ:St}{H:Hp}{s:Shared}{a:Addr}{y v:V}{u r:Value}{o:Option V}{A:Around}{E:Value->Shared->Prop}
theorem q0 {P:Program}{w:World}{h:Heap}{n:Int}{b:Addr} (ok:HOk P w H h) (e:H b=some (.tup [.int n,.non])):(tupleKind (fU P w)).is h [some (Sum.inl n),none] b:=by
 obtain⟨_,its,r,o,h1,h2,m,h3⟩:=(show ObjOk P w H h b (.tup [.int n,.non]) from ok b _ e)
 refine⟨o,its.toArray,m,h1,h2,h3,?_⟩
 cases r with
 | cons r1 r2=>
  cases r2 with
  | cons r2 r3=>
   cases r3
   obtain⟨t,rfl⟩:=(show ∃ t,_=Value.int n t from r1)
   obtain rfl:=(show _=Value.none from r2)
   refine .cons ?_ (.cons rfl .nil)
   exact iM n t
theorem kC (xs:List (List Key×Addr×Value)) (n:Int):atKey (xs.map fun x=>(x.1.map (some:Key->ii),x.2)) [some (Sum.inl n),none]=none:=by
 unfold atKey
 rw[Option.map_eq_none_iff,List.find?_eq_none]
 intro x hx
 obtain⟨y,hy,rfl⟩:=wv.mp hx
 intro h
 have h:=of_decide_eq_true h
 have:(none:ii) ∈ y.1.map (some:Key->ii):=by
  rw[show y.1.map (some:Key->ii)=[some (Sum.inl n),none] from h]
  exact .tail _ (.head _)
 obtain⟨z,_,hz⟩:=wv.mp this
 cases hz
theorem qb {Q:Value->Shared->Prop} (hu:A.units+1<cLine) (I:Inv X pins σ H s) (g:mG H a y o) (ry:RelV y u) (h:∀ s',Inv X pins σ H s'->Q (.bool (!o.isSome)) s') :
  wpAny (model X.prog X.w) A (compareOp .NotIn u (.ref a)) Q E s:=by
 rcases g with g | ⟨kvs,n,b,e,ey,eb,rfl⟩
 ·exact mC hu I g ry h
 ·subst ey
  cases (show u=Value.ref b from ry)
  obtain⟨z,hd,xs,rel,dd⟩:=fK I.hok e
  refine wpAny_notIn_heap (tupleKind_room_in1 hu) (q0 I.hok eb) hd (jv dd) ?_
  rw[kC]
  exact h _ (I.tok _)
end
noncomputable def oe (ty td:TE):TE:=fun σ H Q=>ty σ H fun y H1=>td σ H1 fun x H2=>∃ a o,x=.ref a/\mG H2 a y o/\Q (.bl (!o.isSome)) H2
theorem kM {X:Cx}{i o:Expr}{ty td:TE} (hu:X.A.units+1<cLine) (hi:PE X i ty) (ho:PE X o td):PC X .NotIn i o (oe ty td):=by
 intro pins s σ H Q I h
 refine thn (hi pins s σ H _ I h) fun iv s1 ⟨y,H1,I1,ry,q1⟩=>thn (ho pins s1 σ H1 _ I1 q1) fun u s2 ⟨x,H2,I2,rx,a,ov,ex,g,q2⟩=>?_
 subst ex
 obtain rfl:u=Value.ref a:=rx
 exact qb hu I2 g ry fun s3 I3=>⟨.bl (!ov.isSome),H2,I3,U,q2⟩
section
variable {X:Cx}
theorem qH {ix:Nat}{nm:Str}{pos' spos:Pos}{elt tg iter:Expr}{ifs:List Expr}{scope:Scope}{pos:Pos}{wi:TI}{k:Nat}{g:TG}{tc:TT}{te:TE} (hNd:X.N.Nodup) (hix:X.N[ix]?=some nm) (hLx:Loc X.env.scope nm) (N':List Str) (hc:X.calm=true) (hi:PI X tg iter wi)
  (hg:∀ C s₀ H₀ fp pins,PG (blk X scope N' C s₀ H₀ fp pins) tg g) (ht:∀ C s₀ H₀ fp pins,PTs (blk X scope N' C s₀ H₀ fp pins) ifs tc) (he:∀ C s₀ H₀ fp pins,PE (blk X scope N' C s₀ H₀ fp pins) elt te)
  (hk:scope.kind=.function) (hcell:∀ y ∈ scope.names,y.2≠.cell) (hnames:∀ y ∈ scope.names,y.2=.local->scope.names.lookup y.1=some .local)
  {esc:Scope} (hsc:X.env.scope=esc) (hfr':∀ y ∈ scope.names,y.2=.free->esc.names.lookup y.1=some .cell∨esc.names.lookup y.1=some .free)
  (hlen:N'.length=k+X.N.length)
  (hN:∀ (i:Nat) (x:Str),N'[i+k]?=some x->(x,NameKind.free) ∈ scope.names->X.N[i]?=some x)
  (hN2:∀ x ∈ N'.drop k,scope.names.lookup x≠some .local)
  (hs:∀ x,foldedSetIterable iter X.env x=pure x:=by intro _; rfl)
  (hsw:swapsWith (.ListComp elt [⟨tg,iter,ifs,0⟩] scope pos) (some (.Name nm pos')) spos.line X.env=pure true:=by rfl)
  (hf:X.fn nm=true∨X.env.scope.names.lookup nm=some .local:=by first | exact .inl rfl | exact .inr rfl | assumption) :
  PS X (.Assign [.Name nm pos'] (.ListComp elt [⟨tg,iter,ifs,0⟩] scope pos) spos) (tG (tLC wi k g tc te) (pX ix)):=by
 intro pins s σ H Dn I h
 have hfr:∀ y ∈ scope.names,y.2=.free->X.env.kindOf y.1=some .cell∨X.env.kindOf y.1=some .free:=fun y hy hf=>by
  show X.env.scope.names.lookup y.1=_∨X.env.scope.names.lookup y.1=_
  rw[hsc]; exact hfr' y hy hf
 have hcells:∀ y ∈ scope.names,y.2=.free->∃ c,X.env.cells.lookup y.1=some c:=fun y hy hf=>I.ok.has y.1 (hfr y hy hf)
 have hclos:=hV scope X.env hcells
 rw[exec_Assign_Name_used _ _ _ _ hsw]
 refine wpAny_bind (wpAny_standAt (wpAny_bind ?_))
 show wpAny _ X.A (do let _ <- comprehension (.ListComp elt [⟨tg,iter,ifs,0⟩] scope pos) scope X.env _ (newList []) false (eval iter X.env) (some (assign (.Name nm pos') X.env))) _ _ s
 refine wpAny_bind (wpAny_mono (wpAny_comprehension_free (Q:=fun _ s'=>SP X pins Dn .next s') (use:=some (assign (.Name nm pos') X.env)) rfl hs hclos hk hnames ?_) (fun _ s' hq=>wpAny_pure (wpAny_pure hq)) fun _ _ e=>e)
 refine(thn (hi pins s σ H _ I h) fun v s1 h1=>thn h1 fun itv s2 h2=>?_)
 obtain⟨it,fp,tn,J,H2,e,I2,T,st2,f2,R⟩:=h2
 subst e
 refine wpAny_newObj_type ?_
 have hD:H2 s2.heap.objs.size=none:=I2.hok.fresh (Nat.le_refl _)
 obtain⟨W,⟨m0,w0⟩,turn⟩:=R _ hD
 generalize eD:s2.heap.objs.size=D at *
 have I3:Inv X pins σ (upd H2 D (.lst [])) { s2 with heap:=s2.heap.push { cls:=.type "list",dict:=none,data:=.seq ([]:List Value).toArray } } :=
  I2.laid (a:=D) (o:=.lst []) (t':=s2.toks) (fun b u e=>Heap.get?_push_of_some _ e) (Nat.le_of_eq eD) ⟨Nat.zero_le _,[],0,.nil,by rw[<- eD]; exact Heap.get?_push_size _ rfl⟩
 generalize e3:({ s2 with heap:=s2.heap.push { cls:=.type "list",dict:=none,data:=.seq ([]:List Value).toArray } }:Shared)=s3 at *
 have st3:tn 0 s3.heap:=T.keep _ _ _ st2 fun b _ o e=>by rw[<- e3]; exact Heap.get?_push_of_some _ e
 have lt2:∀ b ∈ fp,b<s2.heap.objs.size:=fun b hb=>by
  obtain⟨o,e,_⟩:=T.obj _ _ st2 b hb
  exact Heap.lt_size e
 have neD:∀ b ∈ fp,b≠D:=fun b hb=>by
  have:=lt2 b hb
  rw[eD] at this
  exact Nat.ne_of_lt this
 have f3:∀ b ∈ fp,fg X pins (upd H2 D (.lst [])) b:=fun b hb=>⟨by rw[aQ (neD b hb)]; exact(f2 b hb).1,(f2 b hb).2⟩
 generalize upd H2 D (.lst [])=H3 at *
 refine wpAny_newFunctionEnv hcell (by intro y hy; simp at hy) (fun h₁ hns₁ hsb₁=>?_) hk
 try dsimp only at hns₁ hsb₁ ⊢
 have lt3:∀ b ∈ fp,b<s3.heap.objs.size:=fun b hb=>by
  obtain⟨o,e,_⟩:=T.obj _ _ st3 b hb
  exact Heap.lt_size e
 generalize eC:s3.heap.objs.size=C at *
 have kp:∀ b o,s3.heap.get? b=some o->h₁.get? b=some o:=fun b o e=>(hsb₁.2 b (by rw[<- eC]; exact Nat.ne_of_lt (Heap.lt_size e))).trans (Heap.get?_push_of_some _ e)
 have subC:∀ x c,(dI X.env.cells scope.names []).lookup x=some c->X.env.cells.lookup x=some c:=fun x c e=>fb scope.names [] hcells (fun y d z=>by simp at z) e
 have hCnone:H3 C=none:=I3.hok.fresh (Nat.le_of_eq eC)
 have ok':(blk X scope N' C s3 H3 fp pins).Ok:={
  mod:=I3.ok.mod
  kind:=hk
  glob:=I3.ok.glob
  blt:=I3.ok.blt
  above:=Nat.le_of_eq eC
  inj:=fun x y c a b=>I3.ok.inj x y c (subC x c a) (subC y c b)
  has:=fun x hx=>dc scope.names [] (cL scope.names hcell hx)
  cab:=fun x c a _=>absurd a Bool.false_ne_true
  hd:=I3.ok.hd
  frames:=I3.ok.frames
  stk:=.inl rfl
  exf:=fun b hb=>⟨by have:=lt3 b hb; exact Nat.ne_of_lt this,fun x c e=>(f3 b hb).2.2.2.2.1 x c (subC x c e)⟩
  bs:=I3.bs
  bsz:=Nat.le_trans I3.ok.bsz I3.sz
  noex:=fun b o e hb=>by
   rcases (f3 b hb).2.2.2.1 with z | z
   ·exact I3.ok.noex b o e z
   ·exact absurd (Nat.lt_of_lt_of_le (Heap.lt_size e) (Nat.le_trans I3.ok.bsz z)) (Nat.lt_irrefl _)
  exfs:=fun b hb z=>by
   rcases wt.mp (I3.stkSub b z) with e | e
   ·exact(f3 b hb).2.1 e
   ·exact(f3 b hb).2.2.1 e
  funs:=I3.stack
  frf:=I3.stkFree }
 have s4os:({ s3 with heap:=h₁,toks:=s3.toks+([]:List (Str×Value)).length }:Shared).os=s3.os:=rfl
 generalize e4:({ s3 with heap:=h₁,toks:=s3.toks+([]:List (Str×Value)).length }:Shared)=s4 at *
 have h4:s4.heap=h₁:=by rw[<- e4]
 have J4:Inv (blk X scope N' C s3 H3 fp pins) [] (List.replicate k none++σ) H3 s4:=by
  refine⟨ok',s4os,by rw[<- e4]; exact I3.bare,?_,⟨_,by rw[h4]; exact hns₁,fun i x v e1 e2 e5=>?_⟩,fun x c e=>?_,hCnone,fun x c e=>I3.freeC x c (subC x c e),fun p hp=>?_,?_,?_⟩
  ·rw[h4]; exact Un.kept kp
  ·have hik:¬ i<k:=fun hlt=>by
    rw[wr (by rw[ww]; exact hlt),List.getElem?_replicate] at e2
    split at e2 <;> cases e2
   obtain⟨j,rfl⟩:∃ j,i=j+k:=⟨i - k,by omega⟩
   have e2':σ[j]?=some (some v):=by
    rw[wn (by rw[ww]; omega),ww] at e2
    have:j+k - k=j:=by omega
    rw[this] at e2; exact e2
   have nl:(relabel scope X.env).names.lookup x≠some .local:=fun z=>by
    have q:∀ (l:List (Str×NameKind)),(l.map fun(n,k)=>if (k == NameKind.free && X.env.scope.kind == .function && X.env.kindOf n == some .cell) then(n,NameKind.cell) else(n,k)).lookup x=some .local->l.lookup x=some .local:=by
     intro l
     induction l with
     | nil=>intro z; simp at z
     | cons y l ih=>
      obtain⟨n,kk⟩:=y
      intro z
      by_cases hcc:(kk == NameKind.free && X.env.scope.kind == .function && X.env.kindOf n == some .cell)=true
      ·simp only[wu,if_pos hcc,wE] at z ⊢
       cases hx:x == n with
       | true=>simp only[hx] at z; cases z
       | false=>simp only[hx] at z ⊢; exact ih z
      ·simp only[wu,if_neg hcc,wE] at z ⊢
       cases hx:x == n with
       | true=>simp only[hx] at z ⊢; exact z
       | false=>simp only[hx] at z ⊢; exact ih z
    exact hN2 x (wj (i:=j) (by rw[List.getElem?_drop,Nat.add_comm]; exact e1)) (q _ z)
   have hcf:(relabel scope X.env).names.lookup x=some .cell∨(relabel scope X.env).names.lookup x=some .free:=by
    rcases e5 with z | z | z
    ·exact absurd z nl
    ·exact .inl z
    ·exact .inr z
   have hmem:(x,NameKind.free) ∈ scope.names:=cL scope.names hcell hcf
   have hx:=hN j x e1 hmem
   obtain⟨mo,_,hl⟩:=I3.loc
   have hkx:=hfr (x,.free) hmem rfl
   obtain⟨u,ru,lk⟩:=hl j x v hx e2' (by
    rcases hkx with z | z
    ·exact .inr (.inl z)
    ·exact .inr (.inr z))
   refine⟨u,ru,.inr ⟨hcf,?_⟩⟩
   rcases lk with ⟨z,_⟩ | ⟨_,c,hc1,hc2⟩
   ·rcases hkx with q | q
    ·rw[q] at z; cases z
    ·rw[q] at z; cases z
   ·obtain⟨c',hc'⟩:=dc (cells:=X.env.cells) scope.names [] hmem
    have:=subC x c' hc'
    rw[hc1] at this; cases this
    obtain⟨oc,h5,h6⟩:=hc2
    exact⟨c,hc',oc,by rw[h4]; exact kp _ _ h5,h6⟩
  ·obtain⟨v,oc,h5,h6⟩:=I3.cell x c (subC x c e)
   exact⟨v,oc,by rw[h4]; exact kp _ _ h5,h6⟩
  ·have hp':p ∈ X.pn++pins:=by simpa using hp
   obtain⟨a1,a2,a3,a4,a5⟩:=I3.pin p hp'
   refine⟨by rw[h4]; exact kp _ _ a1,a2,?_,fun z=>?_,a5⟩
   ·have:=Heap.lt_size a1
    rw[eC] at this
    exact Nat.ne_of_lt this
   ·rcases wt.mp (I3.stkSub p.1 z) with q | q
    ·exact a3 q
    ·exact a4 q
  ·rw[h4]; exact I3.hok.kept kp
  ·rw[wf,ww,I3.len]; exact hlen.symm
 have stat:∀ {H':Hp},(∀ b ∈ fp,H' b=none)->∀ b ∈ fp,fg (blk X scope N' C s3 H3 fp pins) [] H' b:=fun hn b hb=>
  ⟨hn b hb,(ok'.exf b hb).1,ok'.exfs b hb,.inl hb,fun x c e=>(ok'.exf b hb).2 x c e,fun p hp=>(f3 b hb).2.2.2.2.2 p (by simpa using hp)⟩
 have fr4:∀ b ∈ fp,H3 b=none:=fun b hb=>(f3 b hb).1
 have st4:tn 0 s4.heap:=T.keep _ _ _ st3 fun b _ o e=>by rw[h4]; exact kp _ _ e
 have loop:codeAny (model X.prog X.w) X.A (.compLoop (.ListComp elt [⟨tg,iter,ifs,0⟩] scope pos) 0 (.ref it) (.ref D) (compEnvC scope (dI X.env.cells scope.names []) C X.env))
   (compPost (model X.prog X.w) X.A X.xe (some (assign (.Name nm pos') X.env)) (fun _ s'=>SP X pins Dn .next s') (.ref D) C) s4:=by
  refine fN (fun n s'=>∃ i ys H',Inv (blk X scope N' C s3 H3 fp pins) [] (List.replicate k none++σ) H' s'/\tn i s'.heap/\(∀ b ∈ fp,H' b=none)/\W i n ys H') ?_ m0 ⟨0,[],H3,J4,st4,fr4,w0⟩
  rintro n s5 ⟨i,ys,H5,I5,st5,fr5,w5⟩
  obtain⟨hDl,stp⟩:=turn i n ys H5 w5
  rcases stp with ⟨stop,qn⟩ | ⟨go,step⟩
  ·refine thn (T.done (blk X scope N' C s3 H3 fp pins) rfl rfl rfl hc i [] s5 _ H5 (fun _ _=>False) I5 (stat fr5) st5 stop) fun r s6 ⟨hr,I6⟩=>?_
   subst hr
   obtain⟨m6,ns6,_⟩:=id I6.loc
   have hC5:H5 C=none:=I6.free
   have un6:Un (frs X.stack) fp H3 H5 s3.heap s6.heap:=I6.base
   have IX:Inv X pins σ H5 s6:=by
    refine I3.call' (s':=s6) (ch:=fp) I6.os un6 I6.hok I6.bare (fun b hb=>?_)
    exact⟨(f3 b hb).2.2.2.1,(f3 b hb).2.1,(f3 b hb).2.2.2.2.1,(f3 b hb).2.2.2.2.2⟩
   have fpC:fg X pins H5 C:=I3.fpOk (Nat.le_of_eq eC) hC5
   obtain⟨oC,esC,epC,gC,dC,rC⟩:=ns6
   have IXp:=IX.pinned (fp:=[C]) (fun b hb=>by rw[wo.mp hb]; exact fpC) (fun b hb=>by rw[wo.mp hb]; exact⟨oC,gC,fun v z=>by rw[dC] at z; cases z⟩)
   have sto:=aj (pos:=pos') hNd hix hLx hf _ s6 σ H5 (.ref D) (.ref D) (fun σ' H'=>σ'=σ.set ix (some (.ref D))/\H'=H5) IXp rfl ⟨U,U⟩
   show wpAny _ _ (assign (.Name nm pos') X.env (.ref D)) _ _ s6
   refine thn sto fun _ s7 ⟨σ7,H7,I7,e7,e7'⟩=>?_
   subst e7 e7'
   have gC7:s7.heap.get? C=some oC:=(I7.pin (C,oC) (wb _ (wb _ (bV (wo.mpr rfl) gC)))).1
   refine⟨_,⟨oC,esC,epC,gC7,dC,rC⟩,fun h' hsb=>⟨σ.set ix (some (.ref D)),_,?_,qn⟩⟩
   refine(I7.unpinned).call' (s':={ s7 with heap:=h' }) (ch:=[C]) rfl ⟨fun b o e a1 a2 a3=>?_,fun b o e a1 a2 a3=>?_,fun _ _ _ n _=>n,fun b o e a3=>?_,fun _ _ q=>q,fun _ _ _ q=>q,fun _ ps q=>⟨#[],by rw[q]; simp⟩⟩ ?_ I7.bare (fun b hb=>?_)
   ·exact(hsb.2 b (fun z=>a3 (wo.mpr z))).trans e
   ·exact⟨o.slots,(hsb.2 b (fun z=>a3 (wo.mpr z))).trans e⟩
   ·exact⟨o,(hsb.2 b (fun z=>a3 (wo.mpr z))).trans e⟩
   ·intro b u e
    refine(I7.hok b u e).stay (fun c w' hcc q=>(hsb.2 c ?_).trans q) (fun _ q=>q) fun _ _ q=>q
    rintro rfl
    rcases hcc with z | z
    ·rw[z,e] at hC5; cases hC5
    ·rw[z] at hC5; cases hC5
   ·rw[wo.mp hb]
    exact⟨fpC.2.2.2.1,fpC.2.1,fpC.2.2.2.2.1,fpC.2.2.2.2.2⟩
  ·refine thn (T.item (blk X scope N' C s3 H3 fp pins) rfl rfl rfl hc i [] s5 _ H5 (fun _ _=>False) I5 (stat fr5) st5 go) fun r s6 ⟨u,hr,h6⟩=>?_
   subst hr
   refine thn h6 fun _ s7 ⟨x,H7,I7,r7,y7,st7,fr7⟩=>?_
   have I7':=I7.pinned (stat fr7) (T.obj _ _ st7)
   refine thn (hg C s3 H3 fp pins _ s7 _ H7 x u _ I7' r7 (step x H7 y7)) fun _ s8 ⟨σ8,H8,I8,d8,q8⟩=>?_
   refine thn (ht C s3 H3 fp pins _ s8 σ8 H8 _ I8 q8) fun b s9 ⟨H9,I9,q9⟩=>?_
   have kz:∀ (j:Nat) v,(List.replicate k none++σ)[j]?=some (some v)->σ8[j]?=some (some v):=fun j v e=>by
    have hik:¬ j<k:=fun hlt=>by
     rw[wr (by rw[ww]; exact hlt),List.getElem?_replicate] at e
     split at e <;> cases e
    rw[wn (by rw[ww]; omega),ww,<- d8,List.getElem?_drop] at e
    have:k+(j - k)=j:=by omega
    rw[this] at e; exact e
   have again:∀ {Hz:Hp}{sz:Shared}{zs:List V}{m':Nat},Inv (blk X scope N' C s3 H3 fp pins) ([]++fq fp s7.heap) σ8 Hz sz->m'<n->W (i+1) m' zs Hz ->
     ∃ m,m<n/\∃ i ys H',Inv (blk X scope N' C s3 H3 fp pins) [] (List.replicate k none++σ) H' sz/\tn i sz.heap/\(∀ b ∈ fp,H' b=none)/\W i m ys H':=fun {Hz sz zs m'} Iz hm wz=>by
    refine⟨m',hm,i+1,zs,Hz,(Iz.unpinned).weak ?_ kz,T.keep _ _ _ st7 fun b hb o e=>(Iz.pin (b,o) (wb _ (wb _ (bV hb e)))).1,fun b hb=>?_,wz⟩
    ·rw[Iz.len]; exact I5.len
    ·obtain⟨o,e,d⟩:=T.obj _ _ st7 b hb
     exact(Iz.pin (b,o) (wb _ (wb _ (bV hb e)))).2.1
   cases b with
   | false=>
    obtain⟨m',hm,w9⟩:=(show ∃ m',m'<n/\W (i+1) m' ys H9 by simpa using q9)
    rw[if_neg Bool.false_ne_true]
    exact again I9 hm w9
   | true=>
    rw[if_pos rfl] at q9 ⊢
    refine thn (he C s3 H3 fp pins _ s9 σ8 H9 _ I9 q9) fun u9 s10 ⟨y,H10,I10,r10,hz,hD10,m',hm,w10⟩=>?_
    refine thn (aL (X:=blk X scope N' C s3 H3 fp pins) _ s10 σ8 H10 (.ref D) [y] (.ref D) [u9] (fun _ H'=>H'=upd H10 D (.lst (ys++[y]))) I10 rfl (.cons r10 .nil) ⟨D,ys,y,U,U,hD10,hz,U⟩) fun _ s11 ⟨_,H11,I11,_,e11⟩=>?_
    subst e11
    exact again I11 hm w10
 exact codeAny_compStart_list loop (T.self _ 0 _ _ _ st4 loop)
end
section
variable {X:Cx}
theorem iF {pins:List (Addr×Obj)}{s:Shared}{σ:St}{H:Hp}{a:Addr}{ns:List Int} (I:Inv X pins σ H s) (h:SqL X.K H a (ns.map V.int)):Reads s.heap (.ref a) (.list (ns.map PyData.int)) [a]:=by
 obtain⟨its,r,⟨o,n,e,c,d,dd⟩,hz⟩:=I.list h
 exact reads_list_at e c dd (by simpa using d3 r)
theorem gx (ns:List Int):SeqAt.shaped (.list (ns.map PyData.int))=true:=by
 simp[SeqAt.shaped,PyData.canLay0,PyData.depth,PySem.W.ke_canLayAll0,PySem.W.ke_depthAll]
theorem oB (ns ms:List Int):PySem.Spec.same (.list (ns.map PyData.int)) (.list (ms.map PyData.int))=decide (ns=ms):=by
 simp only[PySem.Spec.same]; exact PySem.W.ke_sameAll ns ms
theorem lY (ns:List Int):(Shape.list .int).has (.list (ns.map PyData.int))=true:=by
 simp only[Shape.has]
 induction ns with
 | nil=>rfl
 | cons n ns ih=>simp[Shape.hasAll,Shape.has] at ih ⊢; try exact ih
noncomputable def rLst (K:PySem.W.Frag) (neg:Bool):R2:=fun x y H Q=>∃ (a b:Addr) (ns ms:List Int),x=.ref a/\y=.ref b/\SqL K H a (ns.map V.int)/\SqL K H b (ms.map V.int)/\Q (.bl (if neg then !decide (ns=ms) else decide (ns=ms))) H
theorem t0 (hu:X.A.units+64<cLine):OpR X (compareOp .NotEq) (rLst X.K true):=by
 intro pins s σ H x y u v Q I rx ry h
 obtain⟨a,b,ns,ms,rfl,rfl,ha,hb,q⟩:=h
 cases (show u=Value.ref a from rx)
 cases (show v=Value.ref b from ry)
 exact ne_dataH_same (iF I ha) (iF I hb) (gx _) (gx _) hu (SeqAt.noMix_of_shape (.list .int) rfl _ _ (lY ns) (lY ms)) (by rw[oB]; exact aU I q (by simp))
end
mutual
noncomputable def DV (K:PySem.W.Frag) (H:Hp):PyData->V->Prop
 | .none,v=>v=.non
 | .bool b,v=>v=.bl b
 | .int i,v=>v=.int i
 | .str x,v=>v=.str x
 | .list ds,v=>∃ (a:Addr) (xs:List V),v=.ref a/\SqL K H a xs/\DVs K H ds xs
 | .tuple ds,v=>∃ (a:Addr) (xs:List V),v=.ref a/\SqT K H a xs/\DVs K H ds xs
 | .dict _,_=>False
noncomputable def DVs (K:PySem.W.Frag) (H:Hp):List PyData->List V->Prop
 | [],xs=>xs=[]
 | d::ds,xs=>∃ v r,xs=v::r/\DV K H d v/\DVs K H ds r
end
noncomputable def CXr (P:Program) (w:World):CXT:=fun outer H s E e s'=>∃ (a:Addr) (C a0:Value) (H':Hp) (B:Heap),e=.ref a/\Heap.FlyingW B outer a C a0 s'.heap/\s'.os=s.os/\AllBare s'.gens/\Un (frs outer) [] H H' s.heap s'.heap /\
 (∀ b o,s.heap.get? b=some o->H b=none->b ∉ frs outer->B.get? b=some o)/\(∀ b o,s.heap.get? b=some o->b ∉ frs outer->∃ o',B.get? b=some o')/\HOk P w H' B/\E C (some a) H'
noncomputable abbrev TJ:=Str->St->Hp->VK->Prop
end L2
namespace L2
open PySem PySem.Spec PyProof.Rows PySem.Calls
noncomputable def ExcAt (x D:Addr) (h:Heap):Prop:=∃ o vs,h.get? x=some o/\o.cls=.ref D/\o.data=.fields vs
structure ExcCls (K:PySem.W.Frag) (D:Addr):Prop where
 ga:W.findIn K (.ref D) "__getattribute__" = some (some (.builtin "BaseException.__getattribute__"))
 gh:W.findIn K (.ref D) "__getattr__" = some none
 be:PySem.W.mroIn K D (.type "BaseException")=some true
 hd:W.hasDictIn K D=true
 at_:W.findIn K (.ref D) "__class__" = some (some (.builtin "object.__class__"))
 gt:PySem.W.specialIn K (.builtin "object.__class__") "__get__" = some (some (.builtin "getset_descriptor.__get__"))
 tk:PySem.W.takesIn K (.builtin "object.__class__")=some true
 ob:PySem.W.mroIn K D (.type "object")=some true
section
variable {K:PySem.W.Frag}{x D:Addr}
open PySem.W Builtin Builtin.ObjectAttr in
open PySem.W Builtin Builtin.ObjectAttr Builtin.Getset_descriptor in
open PySem.W Builtin Builtin.ObjectAttr in
open PySem.W Builtin Builtin.ObjectAttr in
open PySem.W Builtin Builtin.ObjectAttr in
end
end L2
namespace L2
open PySem PySem.Spec PyProof.Rows
structure Flt (P:Program) (w:World) (outer:List Env) (H:Hp) (s:Shared) (H':Hp) (B h:Heap):Prop where
 stays:B.StaysIn h
 frames:h.FunFrames B outer
 slot:∀ b o,s.heap.get? b=some o->H b=none->b ∈ frs outer->∃ sl,h.get? b=some { o with slots:=sl }
 free:∀ b o,s.heap.get? b=some o->H b=none->H' b=none
 tups:∀ b xs,H b=some (.tup xs)->H' b=some (.tup xs)
 frzs:∀ b o u,H b=some (.frz o u)->H' b=some (.frz o u)
 tbls:∀ b ps,H b=some (.tbl ps)->∃ more,H' b=some (.tbl (ps++more))
 kb:∀ b o,s.heap.get? b=some o->H b=none->b ∉ frs outer->B.get? b=some o
 tb:∀ b o,s.heap.get? b=some o->b ∉ frs outer->∃ o',B.get? b=some o'
 hok:HOk P w H' B
structure RoomQ (k:Nat) (A:Around):Prop where
 dp:A.depth+3*k+5<recursionLimit
 un:A.units+16*k+200<cLine
structure FnOkQ (P:Program) (w:World) (K:PySem.W.Frag) (mg:Str->Option Value) (base:Heap) (k:Nat) (f:Addr) (fd:FuncData) (ps:List Str) (sp:Sp):Prop where
 len:∀ vs H Q E,sp vs H Q E->vs.length=ps.length
 run:∀ (A:Around) (outer:List Env) (s:Shared) (H:Hp) (args:Args) (us:List Value) (vs:List V) (Q:VK) (E:XK),RoomQ k A->Env0 P w K mg base A outer s H->BindsTo s fd args (ps.zip us)->Vals vs us->sp vs H Q E ->
  codeAny (model P w) A (.call (.ref f) args) (CR CX0 outer P w H s Q E) s
structure Deed (P:Program) (w:World) (K:PySem.W.Frag) (mg:Str->Option Value) (base:Heap) (k:Nat) (s:Shared) (H:Hp) (outer:List Env) (g:Addr) (sp:Hp->VK->XK->Prop):Prop where
 fn:PySem.W.FnAt g s.heap
 un:H g=none
 nf:g ∉ frs outer
 run:∀ (A':Around) (outer':List Env) (s':Shared) (H':Hp) (Q:VK) (E:XK),Room k A'->Env0 P w K mg base A' outer' s' H' ->
  (∀ b o,s.heap.get? b=some o->H b=none->b ∉ frs outer->s'.heap.get? b=some o/\H' b=none)->(∀ b o u,H b=some (.frz o u)->H' b=some (.frz o u))->sp H' Q E->codeAny (model P w) A' (.call (.ref g) ⟨[],[]⟩) (CR (CXr P w) outer' P w H' s' Q E) s'
structure LamAt (h:Heap) (H:Hp) (fs:List Addr) (N:List Str) (σ:St) (qual:Str) (params:Arguments) (body:Expr) (scope:Scope) (cl:List (Str×Addr)) (g c':Addr):Prop where
 fn:∃ pm ctv,h.get? g=some (PySem.W.kla_obj "<lambda>" qual params body scope cl pm c' ctv)
 gn:H g=none/\g ∉ fs
 code:∃ o vs t,H c'=some (.frz o (.own 0))/\o.data=.fields vs/\vs[1]?=some (.str qual t)
 cells:∀ x c,cl.lookup x=some c->(∃ v,h.IsCell c v)/\H c=none/\c ∉ fs
 vals:∀ (i:Nat) (x:Str) (v:V),N[i]?=some x->σ[i]?=some (some v)->∃ u c,RelV v u/\cl.lookup x=some c/\h.IsCell c (some u)
structure RefOk (P:Program) (w:World) (K:PySem.W.Frag) (mg:Str->Option Value) (base:Heap) (k kd:Nat) (f:Addr) (rs:(Hp->VK->XK->Prop)->Hp->VK->Prop):Prop where
 run:∀ (A:Around) (outer:List Env) (s:Shared) (H:Hp) (g:Addr) (spD:Hp->VK->XK->Prop) (Q:VK),Room k A->Env0 P w K mg base A outer s H->Deed P w K mg base kd s H outer g spD->rs spD H Q ->
  codeAny (model P w) A (.call (.ref f) ⟨[.ref g],[]⟩) (CR CX0 outer P w H s Q E0) s
noncomputable def cC (i:Int):Prop:=i.natAbs.log2<1920
theorem ot {i:Int} (h:i.natAbs<2 ^ 1000):cC i:=by
 unfold cC
 by_cases h0:i.natAbs=0
 ·rw[h0]; decide
 ·have:=(Nat.log2_lt h0).mpr (show i.natAbs<2 ^ 1000 from h)
  omega
noncomputable def Asc (n:Nat) (y:Str):Prop:=y.length<=n/\∀ c ∈ y.cps.toList,c<128
section
variable {X:Cx}
theorem fitOf {n:Nat} (h:n<=sizeLine):Builtin.Str.tooLong n=false:=by unfold Builtin.Str.tooLong; exact decide_eq_false (by omega)
theorem ly:∀ {ys:List Str}{us:List Value},Vals (ys.map V.str) us->∃ l:List (Str×Tok),us=strValues l/\l.map (·.1)=ys
 | [],_,.nil=>⟨[],U,U⟩
 | y::ys,_,.cons r t=>by
  obtain⟨k,e⟩:=(show ∃ k,_=Value.str y k from r)
  subst e
  obtain⟨l,rfl,rfl⟩:=ly t
  exact⟨(y,k)::l,U,U⟩
noncomputable def rJoin (K:PySem.W.Frag):V->List V->Hp->VK->Prop:=fun x vs H Q=>∃ (z:Str) (a:Addr) (ys:List Str),x=.str z/\vs=[.ref a]/\SqL K H a (ys.map V.str)/\JoinOk z ys=true/\Q (.str (Txt.join z ys)) H
theorem fX:MtM X "str.join" (rJoin X.K):=by
 intro pins s σ H x vs v us Q I rx rv h
 obtain⟨z,a,ys,rfl,rfl,ha,hok,q⟩:=h
 obtain⟨t,rfl⟩:=rx
 obtain⟨u,rfl,ru⟩:=rv.one
 cases ru
 obtain⟨its,r2,pl,hz⟩:=I.list ha
 obtain⟨l,rfl,rfl⟩:=ly r2
 exact SC.join (l:=l) pl.isList rfl hok fun t' k=>⟨.str (Txt.join z (l.map (·.1))),H,I.tok _,⟨t',U⟩,q⟩
end
theorem md (k M:Nat):∀ (l:List Str) (acc:Nat),(∀ y ∈ l,y.length<=M)->l.foldl (fun a y=>a+y.length+k) acc<=acc+l.length*(M+k)
 | [],acc,_=>by simp
 | y::l,acc,h=>by
  have h1:=h y we
  have h2:=md k M l (acc+y.length+k) fun z hz=>h z (wc _ hz)
  rw[List.foldl_cons,wl,Nat.succ_mul]
  omega
theorem kT {sep:Str}{ys:List Str}{M:Nat} (h:∀ y ∈ ys,y.length<=M) (hs:ys.length*(M+sep.length)<=sizeLine):JoinOk sep ys=true:=by
 unfold JoinOk
 rw[List.foldl_toArray]
 have:=md sep.length M ys 0 h
 rw[fitOf (by omega)]
 rfl
noncomputable def tCut (t:TS):TS:=fun D σ H=>∃ Pn:St->Hp->Prop,t { D with nx:=Pn } σ H/\∀ σ' H',Pn σ' H'->D.nx σ' H'
theorem di {X:Cx}{st:Stmt}{t:TS} (h:PS X st t):PS X st (tCut t):=by
 intro pins s σ H D I ⟨Pn,ht,hn⟩
 refine thn (h pins s σ H { D with nx:=Pn } I ht) fun f s1 q=>?_
 cases f with
 | next=>obtain⟨σ',H',I',q⟩:=q; exact⟨σ',H',I',hn _ _ q⟩
 | ret v=>exact q
 | brk=>exact q
 | cont=>exact q
structure Tb (L:Kn) (Pt:Addr) (qual:Str):Prop where
 ex:∃ ps:Array Value,(Pt,HO.tbl ps) ∈ L/\TriplesOk ps.toList/\∀ pos,codeAmong pos ps.toList=none∨∃ (c':Addr) (oc:Obj) (vs:Array Value) (t:Tok),codeAmong pos ps.toList=some (.ref c')/\(c',HO.frz oc (.own 0)) ∈ L/\oc.data=.fields vs/\vs[1]?=some (.str qual t)
section
variable {X:Cx}
noncomputable def tP:V->List V->Hp->VK->Prop:=fun x vs H Q=>∃ (z y:Str),x=.str z/\vs=[.str y]/\(y.length == 0)=false/\z.length<=sizeLine/\(Txt.split z y).length<=sizeLine/\∀ l,H l=none->Q (.ref l) (upd H l (.lst ((Txt.split z y).map V.str)))
theorem lj : ∀ (l : List (Str×Tok)), Vals ((l.map (·.1)).map V.str) (strValues l)
  | []=>.nil
  | (_, k) :: l => .cons ⟨k, rfl⟩ (lj l)
theorem jV:MtM X "str.split" tP:=by
 intro pins s σ H x vs v us Q I rx rv h
 obtain⟨z,y,rfl,rfl,hy,hz,hn,q⟩:=h
 obtain⟨t,rfl⟩:=rx
 obtain⟨u,rfl,ru⟩:=rv.one
 obtain⟨u,rfl⟩:=ru
 have fin:∀ (l:List (Str×Tok)) (k:Nat),s.toks<=k->l.map (·.1)=Txt.split z y->EP X pins σ Q (.ref s.heap.objs.size) { s with toks:=k,heap:=s.heap.push { cls:=.type "list",data:=.seq (strValues l).toArray } }:=fun l k hk e=>by
  rw[<- e] at hn q
  exact⟨.ref s.heap.objs.size,_,I.laid (t':=k) (fun b o e=>Heap.get?_push_of_some _ e) (Nat.le_refl _) (show ObjOk X.prog X.w _ _ _ (.lst ((l.map (·.1)).map V.str)) from⟨by rw[v9]; exact hn,strValues l,0,lj l,Heap.get?_push_size _ rfl⟩),U,q _ (I.hok.fresh (Nat.le_refl _))⟩
 cases h1:(decide (z.length<y.length) || decide (Builtin.Str.strKind z<Builtin.Str.strKind y))
 ·cases hf:(Builtin.Str.occurrences z y 0 z.length (z.length+1)).isEmpty
  ·have e:Txt.split z y=Builtin.Str.partsBetween z (Builtin.Str.occurrences z y 0 z.length (z.length+1)) y.length:=(if_neg (ne_true_of_eq_false h1)).trans (if_neg (ne_true_of_eq_false hf))
   refine call_meets F.slot_str_split (typeIs_str _ _ _) F.entry_str_split (F.args_str_split_2 _ _) (meets_str_split_sep z y t u h1 hy hf hz (by rw[<- e]; exact hn)) ?_
   rw[strsFrom_eq]
   exact fin (numbered s.toks _) _ (Nat.le_add_right _ _) ((numbered_texts _ _).trans e.symm)
  ·exact call_meets F.slot_str_split (typeIs_str _ _ _) F.entry_str_split (F.args_str_split_2 _ _) (meets_str_split_not_found z y t u h1 hy hf)
    (fin [(z,t)] s.toks (Nat.le_refl _) ((if_neg (ne_true_of_eq_false h1)).trans (if_pos hf)).symm)
 ·exact call_meets F.slot_str_split (typeIs_str _ _ _) F.entry_str_split (F.args_str_split_2 _ _) (meets_str_split_cannot_occur z y t u h1)
   (fin [(z,t)] s.toks (Nat.le_refl _) (if_pos h1).symm)
theorem jA:cD X (.type "int") (fun xs H Q=>∃ n:Int,xs=[.str (toString n)]/\0<=n/\n<10 ^ 10/\Q (.int n) H):=by
 intro pins s σ H xs us Q I r h
 obtain⟨n,rfl,h0,h1,q⟩:=h
 obtain⟨u,rfl,t,rfl⟩:=cS r
 exact PySem.W.KIN.call_num h0 h1 ⟨.int n,H,I.tok _,⟨_,U⟩,q⟩
end
noncomputable def Its (z:Str):It:=⟨fun i _=>i<z.cps.size,fun i H x H'=>H'=H/\∃ c,z.cps[i]?=some c/\x=.str ⟨#[c]⟩,fun i _=>z.cps.size<=i⟩
variable{K:PySem.W.Frag}
theorem nX {P:Program}{w:World}{tg:Expr} (it:Addr) (z:Str) (t:Tok):Turn P w K tg (Its z) [it] it (fun i h=>h.IsStrIter it "str_ascii_iterator" z t i) where
 mem:=by simp
 obj:=fun i h st b hb=>by
  have e:b=it:=by simpa using hb
  subst e
  obtain⟨o,e,c,d⟩:=st
  exact⟨o,e,fun v z=>by rw[d] at z; cases z⟩
 keep:=fun i h h' st k=>by obtain⟨o,e,r⟩:=st; exact⟨o,k it (by simp) o e,r⟩
 item:=by
  intro X hP hw hK hc i pins s σ H E I hf st hg
  subst hP hw hK
  obtain⟨f0,f1,f2,f3,f4,f5⟩:=hf it (by simp)
  have hx:z.cps[i]?=some (z.cps[i]'hg):=Array.getElem?_eq_getElem hg
  refine wpAny_pyNext_ascii_item st hx fun h' st' sb=>?_
  have I1:Inv X pins σ H { s with heap:=h',toks:=s.toks+1 }:=I.turned (t':=s.toks+1) (fun b o hb e=>(sb.2 b hb).trans e) f0 f1 f3 f4 f5
  obtain⟨o,e,c,d⟩:=id st'
  exact⟨_,U,l9 (s:={ s with heap:=h',toks:=s.toks+1 }) e c d (by decide) ⟨.str _,H,I1,⟨_,U⟩,⟨U,_,hx,U⟩,st',fun b hb=>(hf b hb).1⟩⟩
 done:=by
  intro X hP hw hK hc i pins s σ H E I hf st hg
  subst hP hw hK
  obtain⟨f0,f1,f2,f3,f4,f5⟩:=hf it (by simp)
  exact wpAny_pyNext_ascii_end (I.ok.hd hc) st (Array.getElem?_eq_none hg) fun h' eb=>⟨U,I.turned (t':=s.toks) (fun b o hb e=>eb b o hb e) f0 f1 f3 f4 f5⟩
 self:=fun _ _ _ _ _ st h=>wpAny_pyIter_striter_ascii st h
noncomputable def iStr (tl:TE):TI:=fun σ H R=>tl σ H fun x H1=>∃ z,x=.str z/\z.cps.all (· < 128)=true/\R (Its z) H1
theorem tV {X:Cx}{tg:Expr}{l:Expr}{tl:TE} (hl:PE X l tl):PI X tg l (iStr tl):=by
 intro pins s σ H R I h
 refine thn (hl pins s σ H _ I h) fun v s1 ⟨x,H1,I1,r1,q1⟩=>?_
 obtain⟨z,rfl,ha,q⟩:=q1
 obtain⟨t,rfl⟩:=r1
 refine wpAny_pyIter_ascii ha ?_
 refine⟨s1.heap.objs.size,[s1.heap.objs.size],_,_,H1,U,I1.kept (t':=s1.toks) fun b o e=>Heap.get?_push_of_some _ e,nX _ z t,⟨_,Heap.get?_push_size _ rfl,U,U⟩,fun b hb=>?_,q⟩
 have e:b=s1.heap.objs.size:=by simpa using hb
 subst e
 exact I1.fpOk (Nat.le_refl _) (I1.hok.fresh (Nat.le_refl _))
theorem rj {z:Str}{g:TG}{tb:TS}{D:Ends}{σ:St}{H:Hp} (Pv:Nat->St->Hp->Prop) (h0:Pv 0 σ H)
  (hs:∀ i c σ H,z.cps[i]?=some c->Pv i σ H->g (.str ⟨#[c]⟩) σ H fun σ2 H2=>tb { D with nx:=Pv (i+1),ct:=Pv (i+1),bk:=D.nx } σ2 H2) (hd:∀ σ H,Pv z.cps.size σ H->D.nx σ H) :
  ∃ W:Nat->Nat->St->Hp->Prop,(∃ m,W 0 m σ H)/\∀ i m σ H,W i m σ H ->
   ((Its z).stop i H/\D.nx σ H)∨((Its z).go i H/\∃ N:St->Hp->Prop,(∀ σ' H',N σ' H'->∃ m',m'<m/\W (i+1) m' σ' H')/\∀ x H',(Its z).yld i H x H'->g x σ H' fun σ2 H2=>tb { D with nx:=N,ct:=N,bk:=D.nx } σ2 H2):=by
 refine⟨fun i m σ H=>m=z.cps.size - i/\i<=z.cps.size/\Pv i σ H,⟨_,U,Nat.zero_le _,h0⟩,?_⟩
 rintro i m σ H ⟨rfl,hi,p⟩
 by_cases hlt:i<z.cps.size
 ·refine .inr ⟨hlt,Pv (i+1),fun σ' H' p'=>⟨z.cps.size - (i+1),by omega,U,hlt,p'⟩,fun x H' y=>?_⟩
  obtain⟨rfl,c,hc,rfl⟩:=y
  exact hs i c σ H' hc p
 ·have e:i=z.cps.size:=by omega
  subst e
  exact .inl ⟨Nat.le_refl _,hd σ H p⟩
theorem ku {c:Nat}:∀ {l1 l2 r1 r2:List Nat},c ∉ l1->c ∉ l2->l1++c::r1=l2++c::r2->l1=l2/\r1=r2
 | [],[],_,_,_,_,e=>⟨U,(List.cons.inj e).2⟩
 | [],b::_,_,_,_,h2,e=>absurd (wt.mpr (.inl (List.cons.inj e).1)) h2
 | a::_,[],_,_,h1,_,e=>absurd (wt.mpr (.inl (List.cons.inj e).1.symm)) h1
 | a::l1,b::l2,r1,r2,h1,h2,e=>by
  have e1:=(List.cons.inj e).1
  have:=ku (fun m=>h1 (wc _ m)) (fun m=>h2 (wc _ m)) (List.cons.inj e).2
  exact⟨by rw[e1,this.1],this.2⟩
theorem Str.appL (x y:Str):(x++y).cps.toList=x.cps.toList++y.cps.toList:=by
 show(x.cps++y.cps).toList=_
 simp
theorem oi {x y:Str} (h:x.cps.toList=y.cps.toList):x=y:=Str.ext' (Array.toList_inj.mp h)
theorem j7 {c:Nat}:∀ {as bs:List Str},as≠[]->bs≠[]->(∀ a ∈ as,c ∉ a.cps.toList)->(∀ b ∈ bs,c ∉ b.cps.toList)->Str.join ⟨#[c]⟩ as=Str.join ⟨#[c]⟩ bs->as=bs
 | [],_,h,_,_,_,_=>absurd rfl h
 | _,[],_,h,_,_,_=>absurd rfl h
 | [a],[b],_,_,_,_,e=>by
  have e:a=b:=e
  rw[e]
 | [a],b::b'::r,_,_,ha,_,e=>by
  have e:a=b++⟨#[c]⟩++Str.join ⟨#[c]⟩ (b'::r):=e
  refine absurd ?_ (ha a we)
  rw[e,Str.appL,Str.appL]
  simp
 | a::a'::r,[b],_,_,_,hb,e=>by
  have e:a++⟨#[c]⟩++Str.join ⟨#[c]⟩ (a'::r)=b:=e
  refine absurd ?_ (hb b we)
  rw[<- e,Str.appL,Str.appL]
  simp
 | a::a'::r,b::b'::r',_,_,ha,hb,e=>by
  have e:a++⟨#[c]⟩++Str.join ⟨#[c]⟩ (a'::r)=b++⟨#[c]⟩++Str.join ⟨#[c]⟩ (b'::r'):=e
  have e2:=congrArg (fun x:Str=>x.cps.toList) e
  rw[Str.appL,Str.appL,Str.appL,Str.appL] at e2
  have e3:a.cps.toList++c::(Str.join ⟨#[c]⟩ (a'::r)).cps.toList=b.cps.toList++c::(Str.join ⟨#[c]⟩ (b'::r')).cps.toList:=by simpa using e2
  obtain⟨h1,h2⟩:=ku (ha a we) (hb b we) e3
  rw[oi h1,j7 (as:=a'::r) (bs:=b'::r') (by simp) (by simp) (fun x hx=>ha x (wc _ hx)) (fun x hx=>hb x (wc _ hx)) (oi h2)]
theorem oj (x y:Str):Txt.split x y≠[]:=by
 unfold Txt.split
 split
 ·simp
 ·split
  ·simp
  ·rw[StrLaws.partsBetween_eq]
   cases Builtin.Str.occurrences x y 0 x.length (x.length+1) <;> simp[StrLaws.partsFrom]
theorem gu {c:Nat}{ys:List Str} (hne:ys≠[]) (hf:∀ y ∈ ys,c ∉ y.cps.toList):Txt.split (Str.join ⟨#[c]⟩ ys) ⟨#[c]⟩=ys :=
 j7 (oj _ _) hne (StrLaws.split_free _ c) hf (StrLaws.join_split _ _)
noncomputable def SqB (b:Bool) (K:PySem.W.Frag) (H:Hp) (a:Addr) (xs:List V):Prop:=match b with | true=>SqL K H a xs | false=>SqT K H a xs
noncomputable def ItB (b:Bool) (K:PySem.W.Frag) (a:Addr):It:=match b with | true=>Itl K a | false=>Itt K a
theorem ItB.go {b:Bool}{H:Hp}{a:Addr}{xs:List V}{i:Nat}{x:V} (h:SqB b K H a xs) (e:xs[i]?=some x):(ItB b K a).go i H:=by
 cases b <;> exact⟨xs,x,h,e⟩
theorem ItB.yld {b:Bool}{H H':Hp}{a:Addr}{xs:List V}{i:Nat}{x:V} (y:(ItB b K a).yld i H x H') (h:SqB b K H a xs):H'=H/\xs[i]?=some x:=by
 cases b <;> exact⟨y.1,y.2 xs h⟩
theorem ItB.stop {b:Bool}{H:Hp}{a:Addr}{xs:List V}{i:Nat} (h:SqB b K H a xs) (e:xs.length<=i):(ItB b K a).stop i H:=by
 cases b <;> exact⟨xs,h,e⟩
noncomputable def iSeq (K:PySem.W.Frag) (tl:TE):TI:=fun σ H R=>tl σ H fun x H1=>∃ a b,x=.ref a/\(∃ xs,SqB b K H1 a xs)/\R (ItB b K a) H1
theorem tW {X:Cx}{tg:Expr}{l:Expr}{tl:TE} (hl:PE X l tl):PI X tg l (iSeq X.K tl):=by
 intro pins s σ H R I h
 refine thn (hl pins s σ H _ I h) fun v s1 ⟨x,H1,I1,r1,q1⟩=>?_
 obtain⟨a,b,e,⟨xs,hq⟩,q⟩:=q1
 subst e
 cases r1
 cases b with
 | true=>
  obtain⟨its,rv,p,hz⟩:=I1.list hq
  refine wpAny_pyIter_list p.isList ?_
  refine⟨s1.heap.objs.size,[s1.heap.objs.size],_,_,H1,U,I1.kept (t':=s1.toks) fun b o e=>Heap.get?_push_of_some _ e,iC a _,⟨_,Heap.get?_push_size _ rfl,U,U⟩,fun b hb=>?_,q⟩
  have e:b=s1.heap.objs.size:=by simpa using hb
  subst e
  exact I1.fpOk (Nat.le_refl _) (I1.hok.fresh (Nat.le_refl _))
 | false=>
  obtain⟨its,rv,p,hz⟩:=I1.tuple hq
  refine wpAny_pyIter_tuple (show s1.heap.IsTuple a its.toArray from p) ?_
  refine⟨s1.heap.objs.size,[s1.heap.objs.size],_,_,H1,U,I1.kept (t':=s1.toks) fun b o e=>Heap.get?_push_of_some _ e,gf a _,⟨_,Heap.get?_push_size _ rfl,U,U⟩,fun b hb=>?_,q⟩
  have e:b=s1.heap.objs.size:=by simpa using hb
  subst e
  exact I1.fpOk (Nat.le_refl _) (I1.hok.fresh (Nat.le_refl _))
noncomputable def nT (n:Int):Str:=Str.ofString (toString n)
theorem gK (m:Nat):(nT (m:Int)).cps.toList=(Nat.toDigits 10 m).map Char.toNat:=PySem.W.KIN.signs_num m
theorem iI (m:Nat):∀ c ∈ (nT (m:Int)).cps.toList,48<=c/\c<=57:=fun c hc=>by
 rw[gK] at hc
 obtain⟨ch,hch,e⟩:=wv.mp hc
 have r:=digit_range (Nat.isDigit_of_mem_toDigits (by decide) (by decide) hch)
 rw[<- e]
 exact r
theorem p7 (m:Nat):Nat.toDigits 10 m≠[]:=fun e=>by
 have h:=toDigits_len_ge 10 m
 rw[e] at h
 exact absurd h (by decide)
theorem nT_ne (m:Nat):(nT (m:Int)).cps.toList≠[]:=fun e=>by
 rw[gK] at e
 exact p7 m (List.map_eq_nil_iff.mp e)
theorem p8 (m:Nat):(Nat.toDigits 10 m).head?.map Char.toNat=some 48->m=0:=by
 induction m using Nat.strongRecOn with
 | _ m ih=>
  intro e
  by_cases h:m<10
  ·rw[Nat.toDigits_of_lt_base h] at e
   have:∀ d:Nat,d<10->([Nat.digitChar d].head?.map Char.toNat=some 48)->d=0:=by decide
   exact this m h e
  ·have hm:m % 10<10:=Nat.mod_lt m (by decide)
   have t:Nat.toDigits 10 (m / 10)++Nat.toDigits 10 (m % 10)=Nat.toDigits 10 (10*(m / 10)+m % 10):=Nat.toDigits_append_toDigits (by decide) (by omega) hm
   rw[Nat.div_add_mod] at t
   rw[<- t,List.head?_append,show ∀ (a b:Option Char),a.isSome=true->a.or b=a from fun a b h=>by cases a <;> first | rfl | cases h] at e
   rotate_left
   ·rw[List.isSome_head?]; exact p7 _
   have:=ih (m / 10) (by omega) e
   omega
theorem qQ {m:Nat}{c:Nat} (h:(nT (m:Int)).cps.toList[0]?=some c) (hc:c=48):m=0:=by
 subst hc
 rw[gK,<- List.head?_eq_getElem?,List.head?_map] at h
 exact p8 m h
theorem jc {n:Int} (h0:0<=n) (h1:n<10 ^ 10):(nT n).length<=10:=PySem.W.KT.len_num h0 h1
end L2
namespace L2.So
open PySem PyProof.Rows
section
variable {M:Model}{A:Around}{E:Value->Shared->Prop}{s:Shared}{κ:SortKind}{g:Keyed->Int}{U:Keyed->Prop}
noncomputable def Cmp (M:Model) (A:Around) (s:Shared) (κ:SortKind) (g:Keyed->Int) (U:Keyed->Prop):Prop :=
 ∀ x y,U x->U y->∀ Q:Bool->Prop,Q (decide (g x<g y))->wpAny M A (keyLt' κ x.1 y.1) (fun b s'=>s'=s/\Q b) (fun _ _=>False) s
noncomputable def G (g:Keyed->Int) (xs:Array Keyed) (i:Nat):Int:=(xs[i]?.map g).getD 0
theorem bS {xs ys:Array Keyed}{i j:Nat} (h:xs[i]?=ys[j]?):G g xs i=G g ys j:=by unfold G; rw[h]
noncomputable def Asc (g:Keyed->Int) (xs:Array Keyed) (lo hi:Nat):Prop:=∀ i j,lo<=i->i<j->j<hi->G g xs i<G g xs j
noncomputable def All (U:Keyed->Prop) (xs:Array Keyed):Prop:=∀ (i:Nat) p,xs[i]?=some p->U p
noncomputable def Dis (g:Keyed->Int) (xs:Array Keyed):Prop:=∀ i j,i<j->j<xs.size->G g xs i≠G g xs j
structure Stt (κ:SortKind) (g:Keyed->Int) (U:Keyed->Prop) (st:SortSt):Prop where
 k:kindOf st=κ
 f:failedOf st=none
 u:All U (arrOf st)
 d:Dis g (arrOf st)
theorem w_lt (hC:Cmp M A s κ g U) {st:SortSt}{x y:Keyed}{Q:Option Bool->SortSt->Prop} (hk:kindOf st=κ) (hx:U x) (hy:U y) (h:Q (some (decide (g x<g y))) st):wpS M A E s (lt' x y) Q st:=by
 rw[lt'_eq]
 refine wpS_bind (wpS_get ?_)
 rw[hk]
 refine wpS_bind (wpS_lift (wpAny_attempt (wpAny_mono (hC x y hx hy (fun b=>b=decide (g x<g y)) rfl) (fun b s' hb=>⟨hb.1,?_⟩) fun _ _ e=>e.elim)))
 obtain⟨_,rfl⟩:=hb
 exact wpS_pure h
theorem bn {arr:Array Keyed}{i:Nat}{p:Keyed}{Q:Keyed->SortSt->Prop}{st:SortSt} (e:arr[i]?=some p) (h:Q p st):wpS M A E s (elem' arr i) Q st:=by
 rw[elem'_eq,e]
 exact wpS_pure h
theorem at_ {xs:Array Keyed}{i:Nat} (h:i<xs.size):∃ p,xs[i]?=some p/\G g xs i=g p:=⟨xs[i],getElem?_pos xs i h,by unfold G; rw[getElem?_pos xs i h]; rfl⟩
theorem fh (hC:Cmp M A s κ g U) {st:SortSt}{i j:Nat}{Q:Option Bool->SortSt->Prop} (hs:Stt κ g U st) (hi:i<(arrOf st).size) (hj:j<(arrOf st).size) (h:Q (some (decide (G g (arrOf st) i<G g (arrOf st) j))) st):wpS M A E s (ltAt' i j) Q st:=by
 obtain⟨p,e1,e2⟩:=at_ (g:=g) hi
 obtain⟨q,e3,e4⟩:=at_ (g:=g) hj
 rw[e2,e4] at h
 rw[ltAt'_eq]
 refine wpS_bind (wpS_get ?_)
 exact wpS_bind (bn e1 (wpS_bind (bn e3 (w_lt hC hs.k (hs.u i p e1) (hs.u j q e3) h))))
theorem Dis.ne {xs:Array Keyed} (h:Dis g xs) {i j:Nat} (hi:i<xs.size) (hj:j<xs.size) (n:i≠j):G g xs i≠G g xs j:=by
 rcases Nat.lt_or_gt_of_ne n with h1 | h1
 ·exact h i j h1 hj
 ·exact(h j i h1 hi).symm
theorem Asc.snoc {xs:Array Keyed}{lo n:Nat} (h:Asc g xs lo (lo+n)) (h1:1<=n) (hlt:G g xs (lo+n - 1)<G g xs (lo+n)):Asc g xs lo (lo+n+1):=by
 intro i j hi hij hj
 by_cases e:j=lo+n
 ·subst e
  by_cases e2:i=lo+n - 1
  ·subst e2; exact hlt
  ·exact Int.lt_trans (h i (lo+n - 1) hi (by omega) (by omega)) hlt
 ·exact h i j hi hij (by omega)
noncomputable def Desc (g:Keyed->Int) (xs:Array Keyed) (lo hi:Nat):Prop:=∀ i j,lo<=i->i<j->j<hi->G g xs j<G g xs i
theorem Desc.snoc {xs:Array Keyed}{lo n:Nat} (h:Desc g xs lo (lo+n)) (h1:1<=n) (hlt:G g xs (lo+n)<G g xs (lo+n - 1)):Desc g xs lo (lo+n+1):=by
 intro i j hi hij hj
 by_cases e:j=lo+n
 ·subst e
  by_cases e2:i=lo+n - 1
  ·subst e2; exact hlt
  ·exact Int.lt_trans hlt (h i (lo+n - 1) hi (by omega) (by omega))
 ·exact h i j hi hij (by omega)
structure Swp (st st':SortSt) (lo hi:Nat):Prop where
 k:kindOf st'=kindOf st
 p:pendingOf st'=pendingOf st
 m:gallopOf st'=gallopOf st
 f:failedOf st'=failedOf st
 e:(arrOf st').Perm (arrOf st)
 o:∀ k,k<lo∨hi<=k->(arrOf st')[k]?=(arrOf st)[k]?
theorem All.perm {xs ys:Array Keyed} (h:All U xs) (e:ys.Perm xs):All U ys:=by
 intro i p hp
 have hm:p ∈ ys.toList:=by rw[Array.mem_toList_iff]; exact Array.mem_of_getElem? hp
 have hm2:=(Array.perm_iff_toList_perm.mp e).mem_iff.mp hm
 rw[Array.mem_toList_iff] at hm2
 obtain⟨j,hj⟩:=Array.getElem?_of_mem hm2
 exact h j p hj
theorem dis_iff {xs:Array Keyed}:Dis g xs↔(xs.toList.map g).Nodup:=by
 unfold Dis List.Nodup
 rw[List.pairwise_iff_getElem]
 simp only[v9,Array.length_toList,List.getElem_map,Array.getElem_toList]
 constructor
 ·intro h i j hi hj hij
  have:=h i j hij hj
  unfold G at this
  rw[getElem?_pos xs i hi,getElem?_pos xs j hj] at this
  exact this
 ·intro h i j hij hj
  unfold G
  rw[getElem?_pos xs i (by omega),getElem?_pos xs j hj]
  exact h i j (by omega) hj hij
theorem Dis.perm {xs ys:Array Keyed} (h:Dis g xs) (e:ys.Perm xs):Dis g ys:=by
 rw[dis_iff] at h ⊢
 exact(((Array.perm_iff_toList_perm.mp e).map g).nodup_iff).mpr h
theorem Swp.refl (st:SortSt) (lo hi:Nat):Swp st st lo hi:=⟨rfl,rfl,rfl,rfl,Array.Perm.refl _,fun _ _=>rfl⟩
theorem Swp.stt {st st':SortSt}{lo hi:Nat} (h:Swp st st' lo hi) (hs:Stt κ g U st):Stt κ g U st':=⟨h.k.trans hs.k,h.f.trans hs.f,hs.u.perm h.e,hs.d.perm h.e⟩
theorem Swp.size {st st':SortSt}{lo hi:Nat} (h:Swp st st' lo hi):(arrOf st').size=(arrOf st).size:=h.e.size_eq
theorem Swp.trans {a b c:SortSt}{lo hi:Nat} (h:Swp a b lo hi) (h':Swp b c lo hi):Swp a c lo hi:=⟨h'.k.trans h.k,h'.p.trans h.p,h'.m.trans h.m,h'.f.trans h.f,h'.e.trans h.e,fun k hk=>(h'.o k hk).trans (h.o k hk)⟩
theorem Swp.mono {a b:SortSt}{lo hi lo' hi':Nat} (h:Swp a b lo hi) (h1:lo'<=lo) (h2:hi<=hi'):Swp a b lo' hi':=⟨h.k,h.p,h.m,h.f,h.e,fun k hk=>h.o k (by omega)⟩
theorem qv {st:SortSt}{lo hi:Nat} (h:hi<=(arrOf st).size):Swp st (setArr st (mirror (arrOf st) lo hi ((hi - lo) / 2))) lo hi :=
 ⟨rfl,rfl,rfl,rfl,mirror_perm _ _ _ _,fun k hk=>(getElem?_mirror_all h k).trans (if_neg (by omega))⟩
theorem qD {xs:Array Keyed}{lo hi:Nat} (h:hi<=xs.size) (hd:Desc g xs lo hi):Asc g (mirror xs lo hi ((hi - lo) / 2)) lo hi:=by
 intro i j hi' hij hj
 have e1:(mirror xs lo hi ((hi - lo) / 2))[i]?=xs[lo+hi - 1 - i]?:=(getElem?_mirror_all h i).trans (if_pos (by omega))
 have e2:(mirror xs lo hi ((hi - lo) / 2))[j]?=xs[lo+hi - 1 - j]?:=(getElem?_mirror_all h j).trans (if_pos (by omega))
 rw[bS e1,bS e2]
 exact hd _ _ (by omega) (by omega) (by omega)
theorem rW (hC:Cmp M A s κ g U) {st:SortSt}{lo m:Nat}{Q:Option Nat->SortSt->Prop} (hs:Stt κ g U st) (h1:1<=m) (hz:lo+m<=(arrOf st).size)
  (h:∀ n st',1<=n->n<=m->Swp st st' lo (lo+m)->Asc g (arrOf st') lo (lo+n)->Q (some n) st'):wpS M A E s (countRun' lo m) Q st:=by
 rw[countRun'_eq]
 refine wpS_bind (wpS_mono (wpS_forRange (I:=fun i c st'=>st'=st/\∃ n,c=(none,n)/\n=i/\Asc g (arrOf st) lo (lo+n))
  (Q:=fun c st'=>st'=st/\∃ n,c=(none,n)/\1<=n/\n<=m/\Asc g (arrOf st) lo (lo+n)/\(n<m->G g (arrOf st) (lo+n)<G g (arrOf st) (lo+n - 1))) ?s1 ?f1 ⟨rfl,1,rfl,rfl,fun i j _ _ _=>by omega⟩) ?p1)
 case f1=>
  rintro c st' ⟨rfl,n,rfl,rfl,ha⟩
  exact⟨rfl,_,rfl,by omega,by omega,ha,fun q=>by omega⟩
 case s1=>
  rintro i c st' hi1 hi2 ⟨rfl,n,rfl,rfl,ha⟩
  dsimp only
  refine wpS_bind (fh hC hs (by omega) (by omega) ?_)
  dsimp only
  by_cases hlt:G g (arrOf st') (lo+n)<G g (arrOf st') (lo+n - 1)
  ·rw[if_pos (decide_eq_true hlt)]
   exact wpS_pure ⟨rfl,n,rfl,hi1,by omega,ha,fun _=>hlt⟩
  ·rw[if_neg (by simpa using hlt)]
   refine wpS_pure ⟨rfl,n+1,rfl,rfl,?_⟩
   have:=hs.d.ne (i:=lo+n) (j:=lo+n - 1) (by omega) (by omega) (by omega)
   exact ha.snoc hi1 (by omega)
 case p1=>
  rintro c st' ⟨rfl,n,rfl,hn1,hn2,ha,hb⟩
  dsimp only
  by_cases e1:n=m
  ·rw[if_pos (by simpa using e1)]
   exact wpS_pure (h n st' hn1 hn2 (Swp.refl _ _ _) ha)
  rw[if_neg (by simpa using e1)]
  have hb:=hb (by omega)
  by_cases e2:n > 1
  ·rw[if_pos e2]
   refine wpS_bind (fh hC hs (by omega) (by omega) ?_)
   dsimp only
   rw[if_pos (decide_eq_true (ha lo (lo+n - 1) (Nat.le_refl _) (by omega) (by omega)))]
   exact wpS_pure (h n st' hn1 hn2 (Swp.refl _ _ _) ha)
  rw[if_neg e2]
  obtain rfl:n=1:=by omega
  refine wpS_bind (wpS_lift (wpAny_rule ⟨rfl,?_⟩))
  refine wpS_bind (wpS_mono (wpS_forRange (I:=fun i c st2=>st2=st'/\∃ n,c=(none,n,0)/\n=i/\Desc g (arrOf st') lo (lo+n))
   (Q:=fun c st2=>st2=st'/\∃ n,c=(none,n,0)/\2<=n/\n<=m/\Desc g (arrOf st') lo (lo+n)) ?s2 ?f2 ⟨rfl,2,rfl,rfl,?i2⟩) ?p2)
  case i2=>
   intro i j h1 h2 h3
   obtain rfl:i=lo:=by omega
   obtain rfl:j=i+1:=by omega
   exact hb
  case f2=>
   rintro c st2 ⟨rfl,n,rfl,rfl,hd⟩
   exact⟨rfl,_,rfl,by omega,by omega,hd⟩
  case s2=>
   rintro i c st2 hi1 hi2 ⟨rfl,n,rfl,rfl,hd⟩
   dsimp only
   refine wpS_bind (fh hC hs (by omega) (by omega) ?_)
   dsimp only
   by_cases hlt:G g (arrOf st2) (lo+n)<G g (arrOf st2) (lo+n - 1)
   ·rw[if_pos (decide_eq_true hlt),if_neg (by decide)]
    exact wpS_pure ⟨rfl,n+1,rfl,rfl,hd.snoc (by omega) hlt⟩
   ·rw[if_neg (by simpa using hlt)]
    refine wpS_bind (fh hC hs (by omega) (by omega) ?_)
    dsimp only
    have:=hs.d.ne (i:=lo+n) (j:=lo+n - 1) (by omega) (by omega) (by omega)
    rw[if_pos (decide_eq_true (by omega))]
    exact wpS_pure ⟨rfl,n,rfl,by omega,by omega,hd⟩
  case p2=>
   rintro c st2 ⟨rfl,n,rfl,hn1,hn2,hd⟩
   dsimp only
   rw[if_neg (by decide),reverseSlice'_eq]
   refine wpS_bind (wpS_modify ?_)
   have w1:=(qv (st:=st2) (lo:=lo) (hi:=lo+n) (by omega)).mono (Nat.le_refl lo) (show lo+n<=lo+m by omega)
   have a1:=qD (xs:=arrOf st2) (lo:=lo) (hi:=lo+n) (by omega) hd
   obtain⟨st3,e3⟩:∃ st3,setArr st2 (mirror (arrOf st2) lo (lo+n) ((lo+n - lo) / 2))=st3:=⟨_,rfl⟩
   have a1:Asc g (arrOf st3) lo (lo+n):=by rw[<- e3]; exact a1
   rw[e3] at w1 ⊢
   have hs3:=w1.stt hs
   have z3:=w1.size
   refine wpS_bind (wpS_mono (wpS_forRange (I:=fun i c st'=>st'=st3/\∃ n,c=(none,n)/\n=i/\Asc g (arrOf st3) lo (lo+n))
    (Q:=fun c st'=>st'=st3/\∃ n,c=(none,n)/\1<=n/\n<=m/\Asc g (arrOf st3) lo (lo+n)) ?s3 ?f3 ⟨rfl,n,rfl,rfl,a1⟩) ?p3)
   case f3=>
    rintro c st' ⟨rfl,n,rfl,rfl,ha⟩
    exact⟨rfl,_,rfl,by omega,by omega,ha⟩
   case s3=>
    rintro i c st' hi1 hi2 ⟨rfl,n,rfl,rfl,ha⟩
    dsimp only
    refine wpS_bind (fh hC hs3 (by omega) (by omega) ?_)
    dsimp only
    by_cases hlt:G g (arrOf st') (lo+n)<G g (arrOf st') (lo+n - 1)
    ·rw[if_pos (decide_eq_true hlt)]
     exact wpS_pure ⟨rfl,n,rfl,by omega,by omega,ha⟩
    ·rw[if_neg (by simpa using hlt)]
     refine wpS_pure ⟨rfl,n+1,rfl,rfl,?_⟩
     have:=hs3.d.ne (i:=lo+n) (j:=lo+n - 1) (by omega) (by omega) (by omega)
     exact ha.snoc (by omega) (by omega)
   case p3=>
    rintro c st' ⟨rfl,n,rfl,hn1,hn2,ha⟩
    exact wpS_pure (h n st' hn1 hn2 w1 ha)
theorem qw {st:SortSt}{lo hi src d:Nat} (h1:lo<=src - d) (h2:src<hi) (h3:src<(arrOf st).size) (h4:d<=src):Swp st (setArr st (bubble (arrOf st) src d)) lo hi :=
 ⟨rfl,rfl,rfl,rfl,bubble_perm _ _ _,fun k hk=>by
  show(bubble (arrOf st) src d)[k]?=_
  rw[getElem?_bubble h3 d h4 k,if_neg (by omega),if_neg (by omega)]⟩
theorem rY (hC:Cmp M A s κ g U) {st:SortSt}{lo n ok:Nat}{Q:Bool->SortSt->Prop} (hs:Stt κ g U st) (hok:1<=ok) (hn:ok<=n) (hz:lo+n<=(arrOf st).size) (ha:Asc g (arrOf st) lo (lo+ok))
  (h:∀ st',Swp st st' lo (lo+n)->Asc g (arrOf st') lo (lo+n)->Q true st'):wpS M A E s (binarySort' lo n ok) Q st:=by
 rw[binarySort'_eq]
 refine wpS_bind (wpS_mono (wpS_forRange (I:=fun i c st'=>c=(none,())/\Swp st st' lo (lo+n)/\Asc g (arrOf st') lo (lo+i))
  (Q:=fun c st'=>c=(none,())/\Swp st st' lo (lo+n)/\Asc g (arrOf st') lo (lo+n)) ?s1 ?f1 ⟨rfl,Swp.refl _ _ _,?i1⟩) ?p1)
 case i1=>rw[Nat.max_eq_left hok]; exact ha
 case f1=>
  rintro c st' ⟨rfl,hw,ha⟩
  refine⟨rfl,hw,?_⟩
  rw[show max (max ok 1) n=n by omega] at ha
  exact ha
 case p1=>
  rintro c st' ⟨rfl,hw,ha⟩
  exact wpS_pure (h st' hw ha)
 case s1=>
  rintro k c st' hk1 hk2 ⟨rfl,hw,ha⟩
  have hs':=hw.stt hs
  have z:=hw.size
  refine wpS_bind (wpS_mono (wpS_forRange (I:=fun x c st2=>st2=st'/\∃ l r,c=(none,l,r)/\l<=r/\r<=k/\r - l<=k - x/\(∀ i,i<l->G g (arrOf st') (lo+i)<G g (arrOf st') (lo+k))/\(∀ i,r<=i->i<k->G g (arrOf st') (lo+k)<G g (arrOf st') (lo+i)))
   (Q:=fun c st2=>st2=st'/\∃ l r,c=(none,l,r)/\l<=k/\(∀ i,i<l->G g (arrOf st') (lo+i)<G g (arrOf st') (lo+k))/\(∀ i,l<=i->i<k->G g (arrOf st') (lo+k)<G g (arrOf st') (lo+i))) ?s2 ?f2 ⟨rfl,0,k,rfl,by omega,by omega,by omega,fun i hi=>by omega,fun i h1 h2=>by omega⟩) ?p2)
  case f2=>
   rintro c st2 ⟨rfl,l,r,rfl,h1,h2,h3,h4,h5⟩
   obtain rfl:l=r:=by omega
   exact⟨rfl,l,l,rfl,h2,h4,h5⟩
  case s2=>
   rintro x c st2 _ hx ⟨rfl,l,r,rfl,h1,h2,h3,h4,h5⟩
   dsimp only
   by_cases hge:l ≥ r
   ·rw[if_pos hge]
    obtain rfl:l=r:=by omega
    exact wpS_pure ⟨rfl,l,l,rfl,h2,h4,h5⟩
   ·rw[if_neg hge]
    refine wpS_bind (fh hC hs' (by omega) (by omega) ?_)
    dsimp only
    by_cases hlt:G g (arrOf st2) (lo+k)<G g (arrOf st2) (lo+(l+r) / 2)
    ·rw[if_pos (decide_eq_true hlt)]
     refine wpS_pure ⟨rfl,l,(l+r) / 2,rfl,by omega,by omega,by omega,h4,fun i h6 h7=>?_⟩
     by_cases e:i=(l+r) / 2
     ·subst e; exact hlt
     ·exact Int.lt_trans hlt (ha _ _ (by omega) (by omega) (by omega))
    ·rw[if_neg (by simpa using hlt)]
     refine wpS_pure ⟨rfl,(l+r) / 2+1,r,rfl,by omega,by omega,by omega,fun i h6=>?_,h5⟩
     have:=hs'.d.ne (i:=lo+k) (j:=lo+(l+r) / 2) (by omega) (by omega) (by omega)
     by_cases e:i=(l+r) / 2
     ·subst e; omega
     ·have:=ha (lo+i) (lo+(l+r) / 2) (by omega) (by omega) (by omega)
      omega
  case p2=>
   rintro c st2 ⟨rfl,l,r,rfl,hl,h4,h5⟩
   show wpS _ _ _ _ (do moveDown' (lo+k) (lo+l); pure (ForInStep.yield (none,()))) _ _
   rw[moveDown'_eq]
   have hb:=qw (st:=st2) (lo:=lo) (hi:=lo+n) (src:=lo+k) (d:=lo+k - (lo+l)) (by omega) (by omega) (by omega) (by omega)
   refine wpS_bind (wpS_modify (wpS_pure ⟨rfl,hw.trans hb,?_⟩))
   have gb:=getElem?_bubble (xs:=arrOf st2) (src:=lo+k) (by omega) (lo+k - (lo+l)) (by omega)
   rw[show lo+k - (lo+k - (lo+l))=lo+l by omega] at gb
   intro i j hi hij hj
   show G g (bubble (arrOf st2) (lo+k) (lo+k - (lo+l))) i<G g (bubble (arrOf st2) (lo+k) (lo+k - (lo+l))) j
   have gi:=gb i
   have gj:=gb j
   by_cases i1:i=lo+l
   ·rw[if_pos i1] at gi
    rw[if_neg (by omega),if_pos (by omega)] at gj
    rw[bS gi,bS gj,show j - 1=lo+(j - 1 - lo) by omega]
    exact h5 _ (by omega) (by omega)
   ·rw[if_neg i1] at gi
    by_cases i2:lo+l<i/\i<=lo+k
    ·rw[if_pos i2] at gi
     rw[if_neg (by omega),if_pos (by omega)] at gj
     rw[bS gi,bS gj]
     exact ha _ _ (by omega) (by omega) (by omega)
    ·rw[if_neg i2] at gi
     rw[bS gi]
     by_cases j1:j=lo+l
     ·rw[if_pos j1] at gj
      rw[bS gj,show i=lo+(i - lo) by omega]
      exact h4 _ (by omega)
     ·rw[if_neg j1] at gj
      by_cases j2:lo+l<j/\j<=lo+k
      ·rw[if_pos j2] at gj
       rw[bS gj]
       exact ha _ _ (by omega) (by omega) (by omega)
      ·rw[if_neg j2] at gj
       rw[bS gj]
       exact ha _ _ (by omega) (by omega) (by omega)
noncomputable def kc:Bool->Keyed->Array Keyed->Nat->Nat->Nat->StateT SortSt Sem (Option Nat):=sortPriv% PySem.Builtin.gallop
noncomputable def nL (left:Bool) (key:Keyed) (arr:Array Keyed) (base i:Nat):StateT SortSt Sem (Option Bool):=do
 let x <- elem' arr (base+i)
 if left then lt' x key else return (<- lt' key x).map (!·)
noncomputable def uH (left:Bool) (key:Keyed) (arr:Array Keyed) (base n lo0 hi0:Nat):StateT SortSt Sem (Option Nat):=do
 let mut lo:=lo0
 let mut hi:=hi0
 for _ in [0:n] do
  if lo ≥ hi then break
  let m:=lo+(hi - lo) / 2
  let some b3 <- nL left key arr base m | return none
  if b3 then lo:=m+1 else hi:=m
 return some hi
theorem re (left:Bool) (key:Keyed) (arr:Array Keyed) (base n hint:Nat):kc left key arr base n hint=(do
 let mut la:=0
 let mut of:=1
 let mut lo:=0
 let mut hi:=0
 let some b0 <- nL left key arr base hint | return none
 if b0 then
  let mx:=n - hint
  for _ in [0:n] do
   if of ≥ mx then break
   let some b1 <- nL left key arr base (hint+of) | return none
   if !b1 then break
   la:=of
   of:=2*of+1
  lo:=hint+la+1
  hi:=hint+min of mx
 else
  let mx:=hint+1
  for _ in [0:n] do
   if of ≥ mx then break
   let some b2 <- nL left key arr base (hint - of) | return none
   if b2 then break
   la:=of
   of:=2*of+1
  lo:=hint+1 - min of mx
  hi:=hint - la
 uH left key arr base n lo hi):=rfl
noncomputable def bey (g:Keyed->Int) (left:Bool) (key:Keyed) (arr:Array Keyed) (base i:Nat):Bool:=if left then decide (G g arr (base+i)<g key) else !decide (g key<G g arr (base+i))
theorem lg (hC:Cmp M A s κ g U) {st:SortSt}{left:Bool}{key:Keyed}{arr:Array Keyed}{base i:Nat}{Q:Option Bool->SortSt->Prop} (hk:kindOf st=κ) (hu:U key) (ha:All U arr) (hi:base+i<arr.size)
  (h:Q (some (bey g left key arr base i)) st):wpS M A E s (nL left key arr base i) Q st:=by
 obtain⟨p,e1,e2⟩:=at_ (g:=g) hi
 unfold bey at h
 rw[e2] at h
 unfold nL
 refine wpS_bind (bn e1 ?_)
 cases left with
 | true=>exact w_lt hC hk (ha _ _ e1) hu h
 | false=>exact wpS_bind (w_lt hC hk hu (ha _ _ e1) (wpS_pure h))
theorem iy (hC:Cmp M A s κ g U) {st:SortSt}{left:Bool}{key:Keyed}{arr:Array Keyed}{base n hint:Nat}{Q:Option Nat->SortSt->Prop} (hk:kindOf st=κ) (hu:U key) (ha:All U arr) (hz:base+n<=arr.size) (hh:hint<n)
  (hm:∀ i j,i<=j->j<n->bey g left key arr base j=true->bey g left key arr base i=true)
  (h:∀ k,k<=n->(∀ i,i<k->bey g left key arr base i=true)->(∀ i,k<=i->i<n->bey g left key arr base i=false)->Q (some k) st):wpS M A E s (kc left key arr base n hint) Q st:=by
 have hm':∀ i j,i<=j->j<n->bey g left key arr base i=false->bey g left key arr base j=false:=fun i j h1 h2 h3=>by
  cases e:bey g left key arr base j with
  | false=>rfl
  | true=>rw[hm i j h1 h2 e] at h3; cases h3
 have last:∀ lo hi,lo<=hi->hi<=n->(∀ i,i<lo->bey g left key arr base i=true)->(∀ i,hi<=i->i<n->bey g left key arr base i=false) ->
   wpS M A E s (uH left key arr base n lo hi) Q st:=by
  intro lo hi h1 h2 h3 h4
  unfold uH
  refine wpS_bind (wpS_mono (wpS_forRange (I:=fun x c st'=>st'=st/\∃ lo hi,c=(none,lo,hi)/\lo<=hi/\hi<=n/\hi - lo<=n - x/\(∀ i,i<lo->bey g left key arr base i=true)/\(∀ i,hi<=i->i<n->bey g left key arr base i=false))
   (Q:=fun c st'=>st'=st/\∃ lo hi,c=(none,lo,hi)/\hi<=n/\(∀ i,i<hi->bey g left key arr base i=true)/\(∀ i,hi<=i->i<n->bey g left key arr base i=false)) ?s2 ?f2 ⟨rfl,lo,hi,rfl,h1,h2,by omega,h3,h4⟩) ?p2)
  case f2=>
   rintro c st' ⟨rfl,lo,hi,rfl,h1,h2,h3,h4,h5⟩
   obtain rfl:lo=hi:=by omega
   exact⟨rfl,lo,lo,rfl,h2,h4,h5⟩
  case s2=>
   rintro x c st' _ hx ⟨rfl,lo,hi,rfl,h1,h2,h3,h4,h5⟩
   dsimp only
   by_cases hge:lo ≥ hi
   ·rw[if_pos hge]
    obtain rfl:lo=hi:=by omega
    exact wpS_pure ⟨rfl,lo,lo,rfl,h2,h4,h5⟩
   ·rw[if_neg hge]
    refine wpS_bind (lg hC hk hu ha (by omega) ?_)
    dsimp only
    cases e:bey g left key arr base (lo+(hi - lo) / 2) with
    | true=>
     rw[if_pos rfl]
     exact wpS_pure ⟨rfl,lo+(hi - lo) / 2+1,hi,rfl,by omega,by omega,by omega,fun i hi'=>hm i _ (by omega) (by omega) e,h5⟩
    | false=>
     rw[if_neg (by simp)]
     exact wpS_pure ⟨rfl,lo,lo+(hi - lo) / 2,rfl,by omega,by omega,by omega,h4,fun i h6 h7=>hm' _ i h6 h7 e⟩
  case p2=>
   rintro c st' ⟨rfl,lo,hi,rfl,h2,h4,h5⟩
   exact wpS_pure (h hi h2 h4 h5)
 rw[re]
 refine wpS_bind (lg hC hk hu ha (by omega) ?_)
 dsimp only
 cases e:bey g left key arr base hint with
 | true=>
  rw[if_pos rfl]
  refine wpS_bind (wpS_mono (wpS_forRange (I:=fun x c st'=>st'=st/\∃ la of,c=(none,la,of)/\x+1<=of/\la<of/\hint+la<n/\bey g left key arr base (hint+la)=true)
   (Q:=fun c st'=>st'=st/\∃ la of,c=(none,la,of)/\la<of/\hint+la<n/\bey g left key arr base (hint+la)=true/\(n - hint<=of∨bey g left key arr base (hint+of)=false)) ?s2 ?f2 ⟨rfl,0,1,rfl,by omega,by omega,by omega,e⟩) ?p2)
  case f2=>
   rintro c st' ⟨rfl,la,of,rfl,h1,h2,h3,h4⟩
   exact⟨rfl,la,of,rfl,h2,h3,h4,.inl (by omega)⟩
  case s2=>
   rintro x c st' _ hx ⟨rfl,la,of,rfl,h1,h2,h3,h4⟩
   dsimp only
   by_cases hge:of ≥ n - hint
   ·rw[if_pos hge]
    exact wpS_pure ⟨rfl,la,of,rfl,h2,h3,h4,.inl hge⟩
   ·rw[if_neg hge]
    refine wpS_bind (lg hC hk hu ha (by omega) ?_)
    dsimp only
    cases e:bey g left key arr base (hint+of) with
    | false=>
     rw[if_pos (show(!false)=true from rfl)]
     exact wpS_pure ⟨rfl,la,of,rfl,h2,h3,h4,.inr e⟩
    | true=>
     rw[if_neg (by simp)]
     exact wpS_pure ⟨rfl,of,2*of+1,rfl,by omega,by omega,by omega,e⟩
  case p2=>
   rintro c st' ⟨rfl,la,of,rfl,h2,h3,h4,h5⟩
   refine last (hint+la+1) (hint+min of (n - hint)) (by omega) (by omega) (fun i hi=>hm i _ (by omega) h3 h4) (fun i h6 h7=>?_)
   rcases h5 with h5 | h5
   ·omega
   ·exact hm' _ i (by omega) h7 h5
 | false=>
  rw[if_neg (by simp)]
  refine wpS_bind (wpS_mono (wpS_forRange (I:=fun x c st'=>st'=st/\∃ la of,c=(none,la,of)/\x+1<=of/\la<of/\la<=hint/\bey g left key arr base (hint - la)=false)
   (Q:=fun c st'=>st'=st/\∃ la of,c=(none,la,of)/\la<of/\la<=hint/\bey g left key arr base (hint - la)=false/\(hint+1<=of∨(of<=hint/\bey g left key arr base (hint - of)=true))) ?s3 ?f3 ⟨rfl,0,1,rfl,by omega,by omega,by omega,e⟩) ?p3)
  case f3=>
   rintro c st' ⟨rfl,la,of,rfl,h1,h2,h3,h4⟩
   exact⟨rfl,la,of,rfl,h2,h3,h4,.inl (by omega)⟩
  case s3=>
   rintro x c st' _ hx ⟨rfl,la,of,rfl,h1,h2,h3,h4⟩
   dsimp only
   by_cases hge:of ≥ hint+1
   ·rw[if_pos hge]
    exact wpS_pure ⟨rfl,la,of,rfl,h2,h3,h4,.inl hge⟩
   ·rw[if_neg hge]
    refine wpS_bind (lg hC hk hu ha (by omega) ?_)
    dsimp only
    cases e:bey g left key arr base (hint - of) with
    | true=>
     rw[if_pos rfl]
     exact wpS_pure ⟨rfl,la,of,rfl,h2,h3,h4,.inr ⟨by omega,e⟩⟩
    | false=>
     rw[if_neg (by simp)]
     exact wpS_pure ⟨rfl,of,2*of+1,rfl,by omega,by omega,by omega,e⟩
  case p3=>
   rintro c st' ⟨rfl,la,of,rfl,h2,h3,h4,h5⟩
   refine last (hint+1 - min of (hint+1)) (hint - la) (by omega) (by omega) (fun i hi=>?_) (fun i h6 h7=>hm' _ i h6 h7 h4)
   rcases h5 with h5 | ⟨h5,h6⟩
   ·omega
   ·exact hm i _ (by omega) (by omega) h6
noncomputable def gmP (n:Nat):StateT SortSt Sem Unit:=(sortPriv% PySem.Builtin.setMinGallop) n
noncomputable def uo:Array Keyed->Array Keyed->StateT SortSt Sem (Array Keyed):=sortPriv% PySem.Builtin.mergeLo
theorem qR (a b:Array Keyed):uo a b=(do
 (rule "list.sort.merge-lo")
 let tot:=a.size+b.size
 let mut out:Array Keyed:=#[<- elem' b 0]
 let mut ia:=0
 let mut ib:=1
 if ib == b.size then return (out++a.extract ia a.size++b.extract ib b.size)
 if ia+1 == a.size then return (out++b.extract ib b.size++a.extract ia a.size)
 let mut mg:=gallopOf (<- get)
 for _ in [0:tot] do
  let mut ac:=0
  let mut bc:=0
  for _ in [0:tot] do
   let some bw <- lt' (<- elem' b ib) (<- elem' a ia) | return (out++a.extract ia a.size++b.extract ib b.size)
   if bw then
    out:=out.push (<- elem' b ib); ib:=ib+1; bc:=bc+1; ac:=0
    if ib == b.size then return (out++a.extract ia a.size++b.extract ib b.size)
    if bc ≥ mg then break
   else
    out:=out.push (<- elem' a ia); ia:=ia+1; ac:=ac+1; bc:=0
    if ia+1 == a.size then return (out++b.extract ib b.size++a.extract ia a.size)
    if ac ≥ mg then break
  (rule "list.sort.gallop")
  mg:=mg+1
  for _ in [0:tot] do
   if mg > 1 then mg:=mg - 1
   gmP mg
   let some k <- kc false (<- elem' b ib) a ia (a.size - ia) 0 | return (out++a.extract ia a.size++b.extract ib b.size)
   ac:=k
   if k > 0 then
    out:=out++a.extract ia (ia+k); ia:=ia+k
    if ia+1 == a.size then return (out++b.extract ib b.size++a.extract ia a.size)
    if ia == a.size then return (out++a.extract ia a.size++b.extract ib b.size)
   out:=out.push (<- elem' b ib); ib:=ib+1
   if ib == b.size then return (out++a.extract ia a.size++b.extract ib b.size)
   let some k <- kc true (<- elem' a ia) b ib (b.size - ib) 0 | return (out++a.extract ia a.size++b.extract ib b.size)
   bc:=k
   if k > 0 then
    out:=out++b.extract ib (ib+k); ib:=ib+k
    if ib == b.size then return (out++a.extract ia a.size++b.extract ib b.size)
   out:=out.push (<- elem' a ia); ia:=ia+1
   if ia+1 == a.size then return (out++b.extract ib b.size++a.extract ia a.size)
   if ac<7 && bc<7 then break
  mg:=mg+1
  gmP mg
 unsupported "internal:list.sort.merge-bound"):=rfl
structure Sm (st st':SortSt):Prop where
 k:kindOf st'=kindOf st
 a:arrOf st'=arrOf st
 p:pendingOf st'=pendingOf st
 f:failedOf st'=failedOf st
theorem Sm.refl (st:SortSt):Sm st st:=⟨rfl,rfl,rfl,rfl⟩
theorem qq {st st0:SortSt}{n:Nat}{Q:Unit->SortSt->Prop} (h0:Sm st0 st) (h:∀ st',Sm st0 st'->Q () st'):wpS M A E s (gmP n) Q st :=
 wpS_modify (h _ ⟨h0.k,h0.a,h0.p,h0.f⟩)
noncomputable def Srt (g:Keyed->Int) (l:List Keyed):Prop:=l.Pairwise fun x y=>g x<g y
structure Mg (g:Keyed->Int) (T O A B:List Keyed):Prop where
 p:(O++(A++B)).Perm T
 a:Srt g (O++A)
 b:Srt g (O++B)
theorem Mg.pa {T O X A B:List Keyed} (h:Mg g T O (X++A) B) (hx:∀ x ∈ X,∀ y ∈ B,g x<g y):Mg g T (O++X) A B:=by
 refine⟨by rw[wm,<- wm X A B]; exact h.p,by rw[wm]; exact h.a,?_⟩
 have h1:=h.a
 have h2:=h.b
 unfold Srt at h1 h2 ⊢
 rw[wk] at h1 h2
 rw[wm,wk,wk]
 refine⟨h1.1,⟨(wk.mp h1.2.1).1,h2.2.1,hx⟩,fun x hx' y hy=>?_⟩
 rcases wq.mp hy with hy | hy
 ·exact h1.2.2 x hx' y (wA _ hy)
 ·exact h2.2.2 x hx' y hy
theorem Mg.pb {T O X A B:List Keyed} (h:Mg g T O A (X++B)) (hx:∀ x ∈ X,∀ y ∈ A,g x<g y):Mg g T (O++X) A B:=by
 have h1:=h.a
 have h2:=h.b
 refine⟨?_,?_,by rw[wm]; exact h.b⟩
 ·refine List.Perm.trans ?_ h.p
  rw[wm]
  refine List.Perm.append_left O ?_
  rw[<- wm,<- wm]
  exact List.perm_append_comm.append_right B
 ·unfold Srt at h1 h2 ⊢
  rw[wk] at h1 h2
  rw[wm,wk,wk]
  refine⟨h1.1,⟨(wk.mp h2.2.1).1,h1.2.1,hx⟩,fun x hx' y hy=>?_⟩
  rcases wq.mp hy with hy | hy
  ·exact h2.2.2 x hx' y (wA _ hy)
  ·exact h1.2.2 x hx' y hy
noncomputable def dr (a:Array Keyed) (i:Nat):List Keyed:=a.toList.drop i
theorem b6 {a:Array Keyed}{i:Nat} (h:i<a.size):∃ p,a[i]?=some p/\dr a i=p::dr a (i+1):=by
 refine⟨a[i],getElem?_pos a i h,?_⟩
 unfold dr
 rw[List.drop_eq_getElem_cons (by rw[Array.length_toList]; exact h)]
 rfl
theorem uL (a:Array Keyed) (i:Nat):(dr a i).length=a.size - i:=by unfold dr; rw[List.length_drop,Array.length_toList]
theorem ju {a:Array Keyed}{i:Nat} (h:i=a.size):dr a i=[]:=by unfold dr; rw[h,<- Array.length_toList,List.drop_length]
theorem k3 {a:Array Keyed}{i:Nat}{p:Keyed} (h:p ∈ dr a i):∃ j,i<=j/\j<a.size/\a[j]?=some p:=by
 obtain⟨k,hk⟩:=List.getElem?_of_mem h
 unfold dr at hk
 rw[List.getElem?_drop] at hk
 rw[Array.getElem?_toList] at hk
 refine⟨i+k,by omega,?_,hk⟩
 by_cases h:i+k<a.size
 ·exact h
 ·rw[Array.getElem?_eq_none (by omega)] at hk; cases hk
theorem bU (a:Array Keyed) (i j:Nat):(a.extract i j).toList=(dr a i).take (j - i):=by
 unfold dr
 rw[Array.toList_extract,List.extract_eq_take_drop]
theorem ed (a:Array Keyed) (i:Nat):(a.extract i a.size).toList=dr a i:=by
 rw[bU,List.take_of_length_le (by rw[uL]; omega)]
theorem kr (a:Array Keyed) (i k:Nat):dr a i=(dr a i).take k++dr a (i+k):=by
 unfold dr
 rw[<- List.drop_drop,List.take_append_drop]
theorem cR {a:Array Keyed}{i:Nat}{p:Keyed} (h:a[i]?=some p):G g a i=g p:=by unfold G; rw[h]; rfl
noncomputable def Gd (g:Keyed->Int) (T:List Keyed) (R:Array Keyed):Prop:=R.toList.Perm T/\Srt g R.toList
theorem Mg.doneB {T:List Keyed}{out a b:Array Keyed}{ia ib:Nat} (h:Mg g T out.toList (dr a ia) (dr b ib)) (e:ib=b.size):Gd g T (out++a.extract ia a.size++b.extract ib b.size):=by
 unfold Gd
 rw[Array.toList_append,Array.toList_append,ed,ed,ju e,wx]
 have h1:=h.p
 rw[ju e,wx] at h1
 exact⟨h1,h.a⟩
theorem Mg.doneA {T:List Keyed}{out a b:Array Keyed}{ia ib:Nat} (h:Mg g T out.toList (dr a ia) (dr b ib)) (e:ia=a.size):Gd g T (out++a.extract ia a.size++b.extract ib b.size):=by
 unfold Gd
 rw[Array.toList_append,Array.toList_append,ed,ed,ju e,wx]
 have h1:=h.p
 rw[ju e,List.nil_append] at h1
 exact⟨h1,h.b⟩
theorem Mg.last {T:List Keyed}{out a b:Array Keyed}{ia ib:Nat} (h:Mg g T out.toList (dr a ia) (dr b ib)) (e:ia+1=a.size) (hl:∀ p ∈ dr a (a.size - 1),∀ q ∈ b.toList,g q<g p):Gd g T (out++b.extract ib b.size++a.extract ia a.size):=by
 unfold Gd
 rw[Array.toList_append,Array.toList_append,ed,ed,wm]
 refine⟨(List.Perm.append_left _ List.perm_append_comm).trans h.p,?_⟩
 have h1:=h.a
 have h2:=h.b
 unfold Srt at h1 h2 ⊢
 rw[wk] at h1 h2
 rw[wk,wk]
 refine⟨h1.1,⟨h2.2.1,h1.2.1,fun x hx y hy=>hl y (by rw[<- e,Nat.add_sub_cancel]; exact hy) x (List.mem_of_mem_drop hx)⟩,fun x hx y hy=>?_⟩
 rcases wq.mp hy with hy | hy
 ·exact h2.2.2 x hx y hy
 ·exact h1.2.2 x hx y hy
theorem d0 {a:Array Keyed} (h:Asc g a 0 a.size):Srt g a.toList:=by
 unfold Srt
 rw[List.pairwise_iff_getElem]
 intro i j hi hj hij
 rw[Array.length_toList] at hi hj
 have:=h i j (Nat.zero_le _) hij hj
 unfold G at this
 rw[getElem?_pos a i hi,getElem?_pos a j hj] at this
 simpa using this
theorem uZ {a:Array Keyed} (h:Srt g a.toList):Asc g a 0 a.size:=by
 unfold Srt at h
 rw[List.pairwise_iff_getElem] at h
 intro i j _ hij hj
 have:=h i j (by rw[Array.length_toList]; omega) (by rw[Array.length_toList]; omega) hij
 unfold G
 rw[getElem?_pos a i (by omega),getElem?_pos a j hj]
 simpa using this
theorem Mg.nes {T O A B:List Keyed} (hd:(T.map g).Nodup) (h:Mg g T O A B) {a b:Keyed} (ha:a ∈ A) (hb:b ∈ B):g a≠g b:=by
 have h1:=((h.p.map g).nodup_iff).mpr hd
 rw[wg,wg] at h1
 have h2:=(List.nodup_append.mp h1).2.1
 exact(List.nodup_append.mp h2).2.2 (g a) (wF ha) (g b) (wF hb)
theorem me {a:Array Keyed} (h:Asc g a 0 a.size) {i:Nat}{p:Keyed} (e:a[i]?=some p) {q:Keyed} (hq:q ∈ dr a i):g p<=g q:=by
 obtain⟨j,h1,h2,h3⟩:=k3 hq
 rw[<- cR (g:=g) e,<- cR (g:=g) h3]
 by_cases e:i=j
 ·subst e; exact Int.le_refl _
 ·exact Int.le_of_lt (h i j (Nat.zero_le _) (by omega) h2)
theorem dH {a:Array Keyed}{i k:Nat}{p:Keyed} (h:p ∈ (dr a i).take k):∃ j,j<k/\i+j<a.size/\a[i+j]?=some p:=by
 obtain⟨n,hn⟩:=List.getElem?_of_mem h
 rw[List.getElem?_take] at hn
 split at hn
 ·unfold dr at hn
  rw[List.getElem?_drop,Array.getElem?_toList] at hn
  refine⟨n,by assumption,?_,hn⟩
  by_cases h:i+n<a.size
  ·exact h
  ·rw[Array.getElem?_eq_none (by omega)] at hn; cases hn
 ·cases hn
structure MI (g:Keyed->Int) (T:List Keyed) (a b out:Array Keyed) (ia ib:Nat):Prop where
 m:Mg g T out.toList (dr a ia) (dr b ib)
 ha:ia+1<a.size
 hb:ib<b.size
theorem Mg.push_b {T:List Keyed}{a b out:Array Keyed}{ia ib:Nat}{p q:Keyed} (h:Mg g T out.toList (dr a ia) (dr b ib)) (ha:Asc g a 0 a.size) (e1:a[ia]?=some p) (e2:b[ib]?=some q) (hlt:g q<g p):Mg g T (out.push q).toList (dr a ia) (dr b (ib+1)):=by
 obtain⟨q',e3,e4⟩:=b6 (a:=b) (i:=ib) (by by_cases h:ib<b.size; exact h; rw[Array.getElem?_eq_none (by omega)] at e2; cases e2)
 rw[e2] at e3
 cases e3
 rw[e4] at h
 rw[Array.toList_push]
 exact h.pb (X:=[q]) fun x hx y hy=>by cases wo.mp hx; exact Int.lt_of_lt_of_le hlt (me ha e1 hy)
theorem Mg.push_a {T:List Keyed}{a b out:Array Keyed}{ia ib:Nat}{p q:Keyed} (h:Mg g T out.toList (dr a ia) (dr b ib)) (hb:Asc g b 0 b.size) (e1:a[ia]?=some p) (e2:b[ib]?=some q) (hlt:g p<g q):Mg g T (out.push p).toList (dr a (ia+1)) (dr b ib):=by
 obtain⟨q',e3,e4⟩:=b6 (a:=a) (i:=ia) (by by_cases h:ia<a.size; exact h; rw[Array.getElem?_eq_none (by omega)] at e1; cases e1)
 rw[e1] at e3
 cases e3
 rw[e4] at h
 rw[Array.toList_push]
 exact h.pa (X:=[p]) fun x hx y hy=>by cases wo.mp hx; exact Int.lt_of_lt_of_le hlt (me hb e2 hy)
theorem Mg.bulk_a {T:List Keyed} (hd:(T.map g).Nodup) {a b out:Array Keyed}{ia ib k:Nat}{q:Keyed} (h:Mg g T out.toList (dr a ia) (dr b ib)) (hb:Asc g b 0 b.size) (e2:b[ib]?=some q)
  (hk:∀ i,i<k->bey g false q a ia i=true):Mg g T (out++a.extract ia (ia+k)).toList (dr a (ia+k)) (dr b ib):=by
 rw[Array.toList_append,bU,Nat.add_sub_cancel_left]
 have h':=h
 rw[kr a ia k] at h'
 refine h'.pa fun x hx y hy=>?_
 obtain⟨j,hj,hj2,e⟩:=dH hx
 have h3:=hk j hj
 unfold bey at h3
 rw[cR e] at h3
 simp at h3
 have hq:q ∈ dr b ib:=by
  obtain⟨q',e3,e4⟩:=b6 (a:=b) (i:=ib) (by by_cases h:ib<b.size; exact h; rw[Array.getElem?_eq_none (by omega)] at e2; cases e2)
  rw[e2] at e3
  cases e3
  rw[e4]
  exact we
 have h4:=h.nes hd (List.mem_of_mem_take hx) hq
 have h5:=me hb e2 hy
 omega
theorem Mg.bulk_b {T:List Keyed}{a b out:Array Keyed}{ia ib k:Nat}{p:Keyed} (h:Mg g T out.toList (dr a ia) (dr b ib)) (ha:Asc g a 0 a.size) (e1:a[ia]?=some p)
  (hk:∀ i,i<k->bey g true p b ib i=true):Mg g T (out++b.extract ib (ib+k)).toList (dr a ia) (dr b (ib+k)):=by
 rw[Array.toList_append,bU,Nat.add_sub_cancel_left]
 have h':=h
 rw[kr b ib k] at h'
 refine h'.pb fun x hx y hy=>?_
 obtain⟨j,hj,hj2,e⟩:=dH hx
 have h3:=hk j hj
 unfold bey at h3
 rw[cR e] at h3
 simp at h3
 have h5:=me ha e1 hy
 omega
theorem ff {left:Bool}{key:Keyed}{arr:Array Keyed}{base n:Nat} (h:Asc g arr 0 arr.size) (hz:base+n<=arr.size):∀ i j,i<=j->j<n->bey g left key arr base j=true->bey g left key arr base i=true:=by
 intro i j hij hj hb
 have:G g arr (base+i)<=G g arr (base+j):=by
  by_cases e:i=j
  ·subst e; exact Int.le_refl _
  ·exact Int.le_of_lt (h _ _ (Nat.zero_le _) (by omega) (by omega))
 unfold bey at hb ⊢
 cases left with
 | true=>simp at hb ⊢; omega
 | false=>simp at hb ⊢; omega
theorem vb {α:Type}{c:Prop} [Decidable c] {m1 m2:StateT SortSt Sem α}{Q:α->SortSt->Prop}{st:SortSt} (h1:wpS M A E s m1 Q st) (h2:wpS M A E s m2 Q st):wpS M A E s (if c then m1 else m2) Q st:=by
 split
 ·exact h1
 ·exact h2
theorem b9 {α:Type}{c:Prop} [Decidable c] {m1 m2:StateT SortSt Sem α}{Q:α->SortSt->Prop}{st:SortSt} (h:c) (h1:wpS M A E s m1 Q st):wpS M A E s (if c then m1 else m2) Q st:=by
 rw[if_pos h]
 exact h1
theorem dZ {α:Type}{c:Prop} [Decidable c] {m1 m2:StateT SortSt Sem α}{Q:α->SortSt->Prop}{st:SortSt} (h:¬ c) (h1:wpS M A E s m2 Q st):wpS M A E s (if c then m1 else m2) Q st:=by
 rw[if_neg h]
 exact h1
theorem lf {α:Type}{c:Prop} [Decidable c] {m1 m2 m3:StateT SortSt Sem α}{Q:α->SortSt->Prop}{st:SortSt} (h1:c->m1=m3) (h2:¬ c->m2=m3) (h:wpS M A E s m3 Q st):wpS M A E s (if c then m1 else m2) Q st:=by
 split
 ·rename_i x; rw[h1 x]; exact h
 ·rename_i x; rw[h2 x]; exact h
theorem rX {α:Type}{c:Prop} [Decidable c] {F:Nat->StateT SortSt Sem α}{Q:α->SortSt->Prop}{st:SortSt} (y:Nat) (h:∀ n,wpS M A E s (F n) Q st):∀ x,wpS M A E s (if c then F x else F y) Q st:=by
 intro x
 split
 ·exact h x
 ·exact h y
theorem om9 {x y:Int} (h:x<=y) (n:x≠y):x<y:=by omega
theorem om5 {n t k:Nat} (e:n - t=k) (h:¬ k > 0) (l:t<=n):n=t:=by omega
theorem om6 {t:Nat} (h:¬ t=1) (h':¬ t=0):2<=t:=by omega
theorem om7 {n:Nat} (h:2<=n) (h':¬ n - 1=1):2<=n - 1:=by omega
theorem om8 {n m t u y r:Nat} (h:n+m+y<=r) (l:t<=n) (l2:u<=m - 1) (t1:1<=t) (m2:2<=m):t - 1+u+(y+1)<=r:=by omega
theorem om1 {A B i j i2 j2 k k2 y r:Nat} (h:A - i+(B - j)+y<=r) (e:i+k=i2) (e2:j+1+k2=j2) (l:i2<A) (l2:j<B):A - (i2+1)+(B - j2)+(y+1)<=r:=by omega
theorem om2 {A i i2 k:Nat} (h:k<=A - i) (e:i+k=i2) (n1:¬ i2+1=A) (n2:¬ i2=A) (l:i+1<A):i2+1<A:=by omega
theorem om3 {A i i2 k:Nat} (e:i+k=i2) (l:i2<A):k<A - i:=by omega
theorem om4 {A i i2 k:Nat} (h:k<=A - (i+1)) (e:i+1+k=i2) (n1:¬ i2=A) (l:i<A):i2<A:=by omega
inductive GR {β:Type} (g:Keyed->Int) (T:List Keyed) (c:Option (Array Keyed)×β):Prop
 | mk (R:Array Keyed) (r:β) (e:c=(some R,r)) (hg:Gd g T R):GR g T c
inductive LoA (g:Keyed->Int) (T:List Keyed) (a b:Array Keyed) (r x:Nat) (c:Option (Array Keyed)×Array Keyed×Nat×Nat×Nat):Prop
 | mk (out:Array Keyed) (ia ib mg:Nat) (e:c=(none,out,ia,ib,mg)) (m:MI g T a b out ia ib) (h:a.size - ia+(b.size - ib)+x<=r):LoA g T a b r x c
inductive LoB (g:Keyed->Int) (T:List Keyed) (a b:Array Keyed) (r x:Nat) (c:Option (Array Keyed)×Array Keyed×Nat×Nat×Nat×Nat):Prop
 | mk (out:Array Keyed) (ia ib ac bc:Nat) (e:c=(none,out,ia,ib,ac,bc)) (m:MI g T a b out ia ib) (h:a.size - ia+(b.size - ib)+x<=r):LoB g T a b r x c
inductive LoC (g:Keyed->Int) (T:List Keyed) (a b:Array Keyed) (r x:Nat) (c:Option (Array Keyed)×Array Keyed×Nat×Nat×Nat×Nat×Nat):Prop
 | mk (out:Array Keyed) (ia ib mg ac bc:Nat) (e:c=(none,out,ia,ib,mg,ac,bc)) (m:MI g T a b out ia ib) (h:a.size - ia+(b.size - ib)+x<=r):LoC g T a b r x c
theorem w_mlo (hC:Cmp M A s κ g U) {st st0:SortSt}{a b:Array Keyed}{T:List Keyed}{Q:Array Keyed->SortSt->Prop} (h0:Sm st0 st) (hk:kindOf st0=κ) (ua:All U a) (ub:All U b) (hd:(T.map g).Nodup) (hT:(a.toList++b.toList).Perm T)
  (sa:Asc g a 0 a.size) (sb:Asc g b 0 b.size) (ha:1<=a.size) (hb:1<=b.size) (h1:G g b 0<G g a 0) (hl:∀ p ∈ dr a (a.size - 1),∀ q ∈ b.toList,g q<g p)
  (h:∀ R st',Sm st0 st'->Gd g T R->Q R st'):wpS M A E s (uo a b) Q st:=by
 rw[qR]
 refine wpS_bind (wpS_lift (wpAny_rule ⟨rfl,?_⟩))
 obtain⟨b0,eb0,_⟩:=b6 (a:=b) (i:=0) (by omega)
 obtain⟨a0,ea0,_⟩:=b6 (a:=a) (i:=0) (by omega)
 refine wpS_bind (bn eb0 ?_)
 dsimp only
 have m0:Mg g T (#[]:Array Keyed).toList (dr a 0) (dr b 0):=⟨hT,d0 sa,d0 sb⟩
 have m1:Mg g T (#[b0]:Array Keyed).toList (dr a 0) (dr b 1):=m0.push_b sa ea0 eb0 (by rw[<- cR (g:=g) eb0,<- cR (g:=g) ea0]; exact h1)
 by_cases c1:1=b.size
 ·refine b9 (by simpa using c1) ?_
  exact wpS_pure (h _ _ h0 (m1.doneB c1))
 refine dZ (by simpa using c1) ?_
 by_cases c2:0+1=a.size
 ·refine b9 (by simpa using c2) ?_
  exact wpS_pure (h _ _ h0 (m1.last c2 hl))
 refine dZ (by simpa using c2) ?_
 refine wpS_bind (wpS_get ?_)
 refine wpS_bind (wpS_mono (wpS_forRange (I:=fun x c st'=>Sm st0 st'/\LoA g T a b (a.size+b.size) x c)
  (Q:=fun c st'=>Sm st0 st'/\GR g T c) ?so ?fo ⟨h0,_,0,1,_,rfl,⟨m1,by omega,by omega⟩,by omega⟩) ?po)
 case fo=>
  rintro c st' ⟨_,out,ia,ib,mg,_,hi,hm⟩
  have:=hi.ha
  exfalso
  omega
 case po=>
  rintro c st' ⟨hs,R,r,rfl,hg⟩
  exact wpS_pure (h _ _ hs hg)
 case so=>
  rintro x c st1 _ hx ⟨hs1,out,ia,ib,mg,rfl,hi,hm⟩
  dsimp only
  obtain⟨r0,er0⟩:∃ r0,(a.size - ia)+(b.size - ib)=r0:=⟨_,rfl⟩
  rw[er0] at hm
  refine wpS_bind (wpS_mono (wpS_forRange (I:=fun y c st'=>Sm st0 st'/\LoB g T a b r0 y c)
   (Q:=fun c st'=>Sm st0 st'/\(GR g T c∨LoB g T a b r0 1 c)) ?s1 ?f1 ⟨hs1,_,ia,ib,_,_,rfl,hi,by omega⟩) ?p1)
  case f1=>
   rintro c st' ⟨_,out,ia,ib,ac,bc,_,hi,hm⟩
   have:=hi.ha
   exfalso
   omega
  case s1=>
   rintro y c st2 _ hy ⟨hs2,out,ia,ib,ac,bc,rfl,hi,hm2⟩
   dsimp only
   have i1:=hi.ha
   have i2:=hi.hb
   obtain⟨q,eq,_⟩:=b6 (a:=b) (i:=ib) (by omega)
   obtain⟨p,ep,epd⟩:=b6 (a:=a) (i:=ia) (by omega)
   refine wpS_bind (bn eq (wpS_bind (bn ep (wpS_bind (w_lt hC (hs2.k.trans hk) (ub _ _ eq) (ua _ _ ep) ?_)))))
   dsimp only
   by_cases hlt:g q<g p
   ·refine b9 (decide_eq_true hlt) ?_
    refine wpS_bind (bn eq ?_)
    have m2:=hi.m.push_b sa ep eq hlt
    by_cases c:ib+1=b.size
    ·refine b9 (by simpa using c) ?_
     exact wpS_pure ⟨hs2,.inl ⟨_,_,rfl,m2.doneB c⟩⟩
    ·refine dZ (by simpa using c) ?_
     split
     ·exact wpS_pure ⟨hs2,.inr ⟨_,_,_,_,_,rfl,⟨m2,i1,by omega⟩,by omega⟩⟩
     ·exact wpS_pure ⟨hs2,_,_,_,_,_,rfl,⟨m2,i1,by omega⟩,by omega⟩
   ·refine dZ (by simpa using hlt) ?_
    refine wpS_bind (bn ep ?_)
    have hne:=hi.m.nes hd (a:=p) (b:=q) (by rw[epd]; exact we) (by obtain⟨q',e3,e4⟩:=b6 (a:=b) (i:=ib) (by omega); rw[eq] at e3; cases e3; rw[e4]; exact we)
    have m2:=hi.m.push_a sb ep eq (by omega)
    by_cases c:ia+1+1=a.size
    ·refine b9 (by simpa using c) ?_
     exact wpS_pure ⟨hs2,.inl ⟨_,_,rfl,m2.last c hl⟩⟩
    ·refine dZ (by simpa using c) ?_
     split
     ·exact wpS_pure ⟨hs2,.inr ⟨_,_,_,_,_,rfl,⟨m2,by omega,i2⟩,by omega⟩⟩
     ·exact wpS_pure ⟨hs2,_,_,_,_,_,rfl,⟨m2,by omega,i2⟩,by omega⟩
  case p1=>
   rintro c st2 ⟨hs2,⟨R,r,rfl,hg⟩ | ⟨out,ia,ib,ac,bc,rfl,hi,hm2⟩⟩
   ·exact wpS_pure ⟨hs2,_,_,rfl,hg⟩
   dsimp only
   refine wpS_bind (wpS_lift (wpAny_rule ⟨rfl,?_⟩))
   obtain⟨r1,er1⟩:∃ r1,(a.size - ia)+(b.size - ib)=r1:=⟨_,rfl⟩
   rw[er1] at hm2
   refine wpS_bind (wpS_mono (wpS_forRange (I:=fun y c st'=>Sm st0 st'/\LoC g T a b r1 y c)
    (Q:=fun c st'=>Sm st0 st'/\(GR g T c∨LoC g T a b r1 0 c)) ?s2 ?f2 ⟨hs2,_,ia,ib,_,_,_,rfl,hi,by omega⟩) ?p2)
   case f2=>
    rintro c st' ⟨_,out,ia,ib,mg,ac,bc,_,hi,hm⟩
    have:=hi.ha
    exfalso
    omega
   case p2=>
    rintro c st3 ⟨hs3,⟨R,r,rfl,hg⟩ | ⟨out,ia,ib,mg,ac,bc,rfl,hi,hm3⟩⟩
    ·exact wpS_pure ⟨hs3,_,_,rfl,hg⟩
    dsimp only
    exact wpS_bind (qq hs3 fun st4 hs4=>wpS_pure ⟨hs4,_,_,_,_,rfl,hi,by omega⟩)
   case s2=>
    rintro y c st3 _ hy ⟨hs3,out,ia,ib,mg,ac,bc,rfl,hi,hm3⟩
    dsimp only
    have i1:=hi.ha
    have i2:=hi.hb
    obtain⟨q,eq,eqd⟩:=b6 (a:=b) (i:=ib) (by omega)
    have hq:q ∈ dr b ib:=by rw[eqd]; exact we
    generalize mg - 1=mg1
    revert mg1
    refine rX (c:=mg > 1) mg fun n=>?_
    refine wpS_bind (qq hs3 fun st4 hs4=>?_)
    refine wpS_bind (bn eq (wpS_bind (iy hC (hs4.k.trans hk) (ub _ _ eq) ua (by omega) (by omega) (ff sa (by omega)) fun k hk1 hk2 hk3=>?_)))
    dsimp only
    have m2:=hi.m.bulk_a hd sb eq hk2
    obtain⟨o2,eo2⟩:∃ o2,out++a.extract ia (ia+k)=o2:=⟨_,rfl⟩
    obtain⟨ia2,eia2⟩:∃ ia2,ia+k=ia2:=⟨_,rfl⟩
    have ek:k=0->out=o2/\ia=ia2:=fun e=>by
     subst e
     refine⟨?_,eia2⟩
     rw[<- eo2]
     apply Array.toList_inj.mp
     rw[Array.toList_append,bU,Nat.add_zero,Nat.sub_self,List.take_zero,wx]
    rw[eia2] at m2 eo2
    rw[eo2] at m2
    by_cases cx:k > 0/\ia2+1=a.size
    ·refine b9 cx.1 ?_
     rw[eia2,eo2]
     refine b9 (by simpa using cx.2) ?_
     exact wpS_pure ⟨hs4,.inl ⟨_,_,rfl,m2.last cx.2 hl⟩⟩
    by_cases cy:k > 0/\ia2=a.size
    ·refine b9 cy.1 ?_
     rw[eia2,eo2,if_neg (by simpa using fun e=>cx ⟨cy.1,e⟩)]
     refine b9 (by simpa using cy.2) ?_
     exact wpS_pure ⟨hs4,.inl ⟨_,_,rfl,m2.doneA cy.2⟩⟩
    have c:ia2+1<a.size:=by
     by_cases ck:k > 0
     ·exact om2 hk1 eia2 (fun e=>cx ⟨ck,e⟩) (fun e=>cy ⟨ck,e⟩) i1
     ·rw[<- (ek (Nat.eq_zero_of_not_pos ck)).2]; exact i1
    apply lf
    ·intro ck
     rw[eia2,eo2,if_neg (by simpa using fun e=>cx ⟨ck,e⟩),if_neg (by simpa using fun e=>cy ⟨ck,e⟩)]
    ·intro ck
     obtain⟨e7,e8⟩:=ek (Nat.eq_zero_of_not_pos ck)
     rw[e7,e8]
    clear cx cy ek
    have c0:ia2<a.size:=Nat.lt_of_succ_lt c
    have hka:g q<g (a[ia2]'c0):=by
     have h3:=hk3 k (Nat.le_refl _) (om3 eia2 c0)
     unfold bey at h3
     rw[eia2,cR (getElem?_pos a ia2 c0)] at h3
     simpa using h3
    obtain⟨p,ep,epd⟩:=b6 (a:=a) (i:=ia2) c0
    rw[getElem?_pos a ia2 c0] at ep
    have epp:=Option.some.inj ep
    rw[epp] at hka
    rw[<- getElem?_pos a ia2 c0] at ep
    refine wpS_bind (bn eq ?_)
    have m3:=m2.push_b sa ep eq hka
    by_cases c1:ib+1=b.size
    ·refine b9 (by simpa using c1) ?_
     exact wpS_pure ⟨hs4,.inl ⟨_,_,rfl,m3.doneB c1⟩⟩
    refine dZ (by simpa using c1) ?_
    refine wpS_bind (bn ep (wpS_bind (iy hC (hs4.k.trans hk) (ua _ _ ep) ub (by omega) (by omega) (ff sb (by omega)) fun k2 hj1 hj2 hj3=>?_)))
    dsimp only
    have m4:=m3.bulk_b sa ep hj2
    obtain⟨o3,eo3⟩:∃ o3,o2.push q++b.extract (ib+1) (ib+1+k2)=o3:=⟨_,rfl⟩
    obtain⟨ib2,eib2⟩:∃ ib2,ib+1+k2=ib2:=⟨_,rfl⟩
    have ek2:k2=0->o2.push q=o3/\ib+1=ib2:=fun e=>by
     subst e
     refine⟨?_,eib2⟩
     rw[<- eo3]
     apply Array.toList_inj.mp
     rw[Array.toList_append,bU,Nat.add_zero,Nat.sub_self,List.take_zero,wx]
    rw[eib2] at m4 eo3
    rw[eo3] at m4
    by_cases c2:k2 > 0/\ib2=b.size
    ·refine b9 c2.1 ?_
     rw[eib2,eo3]
     refine b9 (by simpa using c2.2) ?_
     exact wpS_pure ⟨hs4,.inl ⟨_,_,rfl,m4.doneB c2.2⟩⟩
    have hb2:ib2<b.size:=by
     by_cases ck:k2 > 0
     ·exact om4 hj1 eib2 (fun e=>c2 ⟨ck,e⟩) i2
     ·rw[<- (ek2 (Nat.eq_zero_of_not_pos ck)).2]; exact Nat.lt_of_le_of_ne i2 c1
    apply lf
    ·intro ck2
     rw[eib2,eo3,if_neg (by simpa using fun e=>c2 ⟨ck2,e⟩)]
    ·intro ck2
     obtain⟨e5,e6⟩:=ek2 (Nat.eq_zero_of_not_pos ck2)
     rw[e5,e6]
    clear c2 ek2
    have nx:Mg g T (o3.push p).toList (dr a (ia2+1)) (dr b ib2):=by
     obtain⟨q2,eq2,eqd2⟩:=b6 (a:=b) (i:=ib2) hb2
     have h3:=hj3 k2 (Nat.le_refl _) (om3 eib2 hb2)
     unfold bey at h3
     rw[eib2,cR eq2] at h3
     have hne:=m4.nes hd (a:=p) (b:=q2) (by rw[epd]; exact we) (by rw[eqd2]; exact we)
     simp at h3
     exact m4.push_a sb ep eq2 (om9 h3 hne)
    refine wpS_bind (bn ep ?_)
    by_cases c3:ia2+1+1=a.size
    ·refine b9 (by simpa using c3) ?_
     exact wpS_pure ⟨hs4,.inl ⟨_,_,rfl,nx.last c3 hl⟩⟩
    refine dZ (by simpa using c3) ?_
    have l3:ia2+1+1<a.size:=Nat.lt_of_le_of_ne c c3
    by_cases c4:(decide (k<7) && decide (k2<7))=true
    ·refine b9 c4 ?_
     exact wpS_pure ⟨hs4,.inr ⟨_,_,_,_,_,_,rfl,⟨nx,l3,hb2⟩,Nat.le_trans (Nat.le_add_right _ _) (om1 hm3 eia2 eib2 c0 i2)⟩⟩
    ·refine dZ c4 ?_
     exact wpS_pure ⟨hs4,_,_,_,_,_,_,rfl,⟨nx,l3,hb2⟩,om1 hm3 eia2 eib2 c0 i2⟩
noncomputable def uq:Array Keyed->Array Keyed->StateT SortSt Sem (Array Keyed):=sortPriv% PySem.Builtin.mergeHi
theorem qS (a b:Array Keyed):uq a b=(do
 (rule "list.sort.merge-hi")
 let tot:=a.size+b.size
 let mut na:=a.size - 1
 let mut nb:=b.size
 let mut out:Array Keyed:=#[<- elem' a na]
 if na == 0 then return (a.extract 0 na++b.extract 0 nb++out.reverse)
 if nb == 1 then return (b.extract 0 nb++a.extract 0 na++out.reverse)
 let mut mg:=gallopOf (<- get)
 for _ in [0:tot] do
  let mut ac:=0
  let mut bc:=0
  for _ in [0:tot] do
   let some aw <- lt' (<- elem' b (nb - 1)) (<- elem' a (na - 1)) | return (a.extract 0 na++b.extract 0 nb++out.reverse)
   if aw then
    na:=na - 1; out:=out.push (<- elem' a na); ac:=ac+1; bc:=0
    if na == 0 then return (a.extract 0 na++b.extract 0 nb++out.reverse)
    if ac ≥ mg then break
   else
    nb:=nb - 1; out:=out.push (<- elem' b nb); bc:=bc+1; ac:=0
    if nb == 1 then return (b.extract 0 nb++a.extract 0 na++out.reverse)
    if bc ≥ mg then break
  (rule "list.sort.gallop")
  mg:=mg+1
  for _ in [0:tot] do
   if mg > 1 then mg:=mg - 1
   gmP mg
   let some t1 <- kc false (<- elem' b (nb - 1)) a 0 na (na - 1) | return (a.extract 0 na++b.extract 0 nb++out.reverse)
   let k:=na - t1
   ac:=k
   if k > 0 then
    out:=out++(a.extract t1 na).reverse; na:=t1
    if na == 0 then return (a.extract 0 na++b.extract 0 nb++out.reverse)
   nb:=nb - 1; out:=out.push (<- elem' b nb)
   if nb == 1 then return (b.extract 0 nb++a.extract 0 na++out.reverse)
   let some t2 <- kc true (<- elem' a (na - 1)) b 0 nb (nb - 1) | return (a.extract 0 na++b.extract 0 nb++out.reverse)
   let k:=nb - t2
   bc:=k
   if k > 0 then
    out:=out++(b.extract t2 nb).reverse; nb:=t2
    if nb == 1 then return (b.extract 0 nb++a.extract 0 na++out.reverse)
    if nb == 0 then return (a.extract 0 na++b.extract 0 nb++out.reverse)
   na:=na - 1; out:=out.push (<- elem' a na)
   if na == 0 then return (a.extract 0 na++b.extract 0 nb++out.reverse)
   if ac<7 && bc<7 then break
  mg:=mg+1
  gmP mg
 unsupported "internal:list.sort.merge-bound"):=rfl
structure Mh (g:Keyed->Int) (T A B O:List Keyed):Prop where
 p:((A++B)++O).Perm T
 a:Srt g (A++O)
 b:Srt g (B++O)
theorem Mh.pa {T A X B O:List Keyed} (h:Mh g T (A++X) B O) (hx:∀ x ∈ X,∀ y ∈ B,g y<g x):Mh g T A B (X++O):=by
 have h1:=h.a
 have h2:=h.b
 refine⟨?_,by rw[<- wm]; exact h.a,?_⟩
 ·refine List.Perm.trans ?_ h.p
  rw[<- wm]
  refine List.Perm.append_right O ?_
  rw[wm,wm]
  exact List.Perm.append_left A List.perm_append_comm
 ·unfold Srt at h1 h2 ⊢
  rw[wk] at h1 h2
  rw[wk,wk]
  have h3:=wk.mp h1.1
  refine⟨h2.1,⟨h3.2.1,h1.2.1,fun x hx' y hy=>h1.2.2 x (wb _ hx') y hy⟩,fun y hy x hx'=>?_⟩
  rcases wq.mp hx' with hx' | hx'
  ·exact hx x hx' y hy
  ·exact h2.2.2 y hy x hx'
theorem Mh.pb {T A X B O:List Keyed} (h:Mh g T A (B++X) O) (hx:∀ x ∈ X,∀ y ∈ A,g y<g x):Mh g T A B (X++O):=by
 have h1:=h.a
 have h2:=h.b
 refine⟨?_,?_,by rw[<- wm]; exact h.b⟩
 ·refine List.Perm.trans ?_ h.p
  rw[<- wm,<- wm]
 ·unfold Srt at h1 h2 ⊢
  rw[wk] at h1 h2
  rw[wk,wk]
  have h3:=wk.mp h2.1
  refine⟨h1.1,⟨h3.2.1,h2.2.1,fun x hx' y hy=>h2.2.2 x (wb _ hx') y hy⟩,fun y hy x hx'=>?_⟩
  rcases wq.mp hx' with hx' | hx'
  ·exact hx x hx' y hy
  ·exact h1.2.2 y hy x hx'
theorem Mh.nes {T A B O:List Keyed} (hd:(T.map g).Nodup) (h:Mh g T A B O) {a b:Keyed} (ha:a ∈ A) (hb:b ∈ B):g a≠g b:=by
 have h1:=((h.p.map g).nodup_iff).mpr hd
 rw[wg,wg] at h1
 have h2:=(List.nodup_append.mp h1).1
 exact(List.nodup_append.mp h2).2.2 (g a) (wF ha) (g b) (wF hb)
noncomputable def tk (a:Array Keyed) (n:Nat):List Keyed:=a.toList.take n
theorem cj {a:Array Keyed}{n:Nat} (h1:1<=n) (h:n<=a.size):∃ p,a[n - 1]?=some p/\tk a n=tk a (n - 1)++[p]:=by
 refine⟨a[n - 1],getElem?_pos a (n - 1) (by omega),?_⟩
 unfold tk
 obtain⟨m,rfl⟩:∃ m,n=m+1:=⟨n - 1,by omega⟩
 simp only[Nat.add_sub_cancel]
 rw[List.take_succ,Array.getElem?_toList,getElem?_pos a m (by omega)]
 rfl
theorem kG {a:Array Keyed}{n:Nat}{p:Keyed} (h:p ∈ tk a n):∃ j,j<n/\j<a.size/\a[j]?=some p:=by
 obtain⟨k,hk⟩:=List.getElem?_of_mem h
 unfold tk at hk
 rw[List.getElem?_take] at hk
 split at hk
 ·rw[Array.getElem?_toList] at hk
  refine⟨k,by assumption,?_,hk⟩
  by_cases h:k<a.size
  ·exact h
  ·rw[Array.getElem?_eq_none (by omega)] at hk; cases hk
 ·cases hk
theorem gZ (a:Array Keyed) (n:Nat):(a.extract 0 n).toList=tk a n:=by
 rw[bU]; unfold dr tk; rw[List.drop_zero,Nat.sub_zero]
theorem jJ {a:Array Keyed}{i n:Nat} (h:i<=n):tk a n=tk a i++(a.extract i n).toList:=by
 rw[bU]
 unfold tk dr
 rw[<- List.drop_take]
 conv=>lhs; rw[<- List.take_append_drop i (a.toList.take n)]
 rw[List.take_take,Nat.min_eq_left h]
theorem lx {a:Array Keyed} (h:Asc g a 0 a.size) {n:Nat}{p:Keyed} (hn:n<=a.size) (e:a[n - 1]?=some p) {q:Keyed} (hq:q ∈ tk a n):g q<=g p:=by
 obtain⟨j,h1,h2,h3⟩:=kG hq
 rw[<- cR (g:=g) e,<- cR (g:=g) h3]
 by_cases e:j=n - 1
 ·subst e; exact Int.le_refl _
 ·exact Int.le_of_lt (h j (n - 1) (Nat.zero_le _) (by omega) (by omega))
noncomputable def rv (out:Array Keyed):List Keyed:=out.toList.reverse
theorem lI (out:Array Keyed) (p:Keyed):rv (out.push p)=p::rv out:=by unfold rv; rw[Array.toList_push,List.reverse_append]; rfl
theorem oN (out x:Array Keyed):rv (out++x.reverse)=x.toList++rv out:=by unfold rv; rw[Array.toList_append,List.reverse_append,Array.toList_reverse,List.reverse_reverse]
theorem Mh.done_a {T:List Keyed}{out a b:Array Keyed}{na nb:Nat} (h:Mh g T (tk a na) (tk b nb) (rv out)) (e:na=0):Gd g T (a.extract 0 na++b.extract 0 nb++out.reverse):=by
 unfold Gd
 rw[Array.toList_append,Array.toList_append,gZ,gZ,Array.toList_reverse]
 have e2:tk a na=[]:=by unfold tk; rw[e,List.take_zero]
 have h1:=h.p
 rw[e2,List.nil_append] at h1 ⊢
 exact⟨h1,h.b⟩
theorem Mh.done_b {T:List Keyed}{out a b:Array Keyed}{na nb:Nat} (h:Mh g T (tk a na) (tk b nb) (rv out)) (e:nb=0):Gd g T (a.extract 0 na++b.extract 0 nb++out.reverse):=by
 unfold Gd
 rw[Array.toList_append,Array.toList_append,gZ,gZ,Array.toList_reverse]
 have e2:tk b nb=[]:=by unfold tk; rw[e,List.take_zero]
 have h1:=h.p
 rw[e2,wx] at h1 ⊢
 exact⟨h1,h.a⟩
theorem Mh.first {T:List Keyed}{out a b:Array Keyed}{na nb:Nat} (h:Mh g T (tk a na) (tk b nb) (rv out)) (e:nb=1) (hf:∀ p ∈ tk b 1,∀ q ∈ a.toList,g p<g q):Gd g T (b.extract 0 nb++a.extract 0 na++out.reverse):=by
 unfold Gd
 rw[Array.toList_append,Array.toList_append,gZ,gZ,Array.toList_reverse]
 refine⟨(List.Perm.append_right _ List.perm_append_comm).trans h.p,?_⟩
 have h1:=h.a
 have h2:=h.b
 unfold Srt at h1 h2 ⊢
 rw[wm]
 rw[wk] at h1 h2
 rw[wk,wk]
 refine⟨h2.1,h1,fun x hx y hy=>?_⟩
 rcases wq.mp hy with hy | hy
 ·exact hf x (by rw[<- e]; exact hx) y (List.mem_of_mem_take hy)
 ·exact h2.2.2 x hx y hy
theorem Mh.push_a {T:List Keyed}{a b out:Array Keyed}{na nb:Nat}{p q:Keyed} (h:Mh g T (tk a na) (tk b nb) (rv out)) (hb:Asc g b 0 b.size) (h1:1<=na) (h2:na<=a.size) (h3:nb<=b.size) (e1:a[na - 1]?=some p) (e2:b[nb - 1]?=some q) (hlt:g q<g p):Mh g T (tk a (na - 1)) (tk b nb) (rv (out.push p)):=by
 obtain⟨p',e3,e4⟩:=cj h1 h2
 rw[e1] at e3
 cases e3
 rw[e4] at h
 rw[lI]
 exact h.pa (X:=[p]) fun x hx y hy=>by cases wo.mp hx; exact Int.lt_of_le_of_lt (lx hb h3 e2 hy) hlt
theorem Mh.push_b {T:List Keyed}{a b out:Array Keyed}{na nb:Nat}{p q:Keyed} (h:Mh g T (tk a na) (tk b nb) (rv out)) (ha:Asc g a 0 a.size) (h1:1<=nb) (h2:nb<=b.size) (h3:na<=a.size) (e1:a[na - 1]?=some p) (e2:b[nb - 1]?=some q) (hlt:g p<g q):Mh g T (tk a na) (tk b (nb - 1)) (rv (out.push q)):=by
 obtain⟨p',e3,e4⟩:=cj h1 h2
 rw[e2] at e3
 cases e3
 rw[e4] at h
 rw[lI]
 exact h.pb (X:=[q]) fun x hx y hy=>by cases wo.mp hx; exact Int.lt_of_le_of_lt (lx ha h3 e1 hy) hlt
theorem jp {a:Array Keyed}{i n:Nat}{p:Keyed} (h:p ∈ (a.extract i n).toList):∃ j,i<=j/\j<n/\a[j]?=some p:=by
 rw[bU] at h
 obtain⟨j,h1,h2,h3⟩:=dH h
 exact⟨i+j,by omega,by omega,h3⟩
theorem Mh.bulk_a {T:List Keyed}{a b out:Array Keyed}{na nb t:Nat}{q:Keyed} (h:Mh g T (tk a na) (tk b nb) (rv out)) (hb:Asc g b 0 b.size) (ht:t<=na) (h3:nb<=b.size) (e2:b[nb - 1]?=some q)
  (hk:∀ i,t<=i->i<na->bey g false q a 0 i=false):Mh g T (tk a t) (tk b nb) (rv (out++(a.extract t na).reverse)):=by
 rw[oN]
 rw[jJ ht] at h
 refine h.pa fun x hx y hy=>?_
 obtain⟨j,h1,h2,e⟩:=jp hx
 have h4:=hk j h1 h2
 unfold bey at h4
 rw[Nat.zero_add,cR e] at h4
 simp at h4
 have h5:=lx hb h3 e2 hy
 omega
theorem Mh.bulk_b {T:List Keyed} (hd:(T.map g).Nodup) {a b out:Array Keyed}{na nb t:Nat}{p:Keyed} (h:Mh g T (tk a na) (tk b nb) (rv out)) (ha:Asc g a 0 a.size) (ht:t<=nb) (h1:1<=na) (h3:na<=a.size) (e1:a[na - 1]?=some p)
  (hk:∀ i,t<=i->i<nb->bey g true p b 0 i=false):Mh g T (tk a na) (tk b t) (rv (out++(b.extract t nb).reverse)):=by
 rw[oN]
 have h':=h
 rw[jJ (a:=b) ht] at h'
 refine h'.pb fun x hx y hy=>?_
 obtain⟨j,h6,h2,e⟩:=jp hx
 have h4:=hk j h6 h2
 unfold bey at h4
 rw[Nat.zero_add,cR e] at h4
 simp at h4
 obtain⟨p',e3,e4⟩:=cj h1 h3
 rw[e1] at e3
 cases e3
 have hne:=h'.nes hd (a:=p) (b:=x) (by rw[e4]; simp) (wb _ hx)
 have h5:=lx ha h3 e1 hy
 omega
structure MHI (g:Keyed->Int) (T:List Keyed) (a b out:Array Keyed) (na nb:Nat):Prop where
 m:Mh g T (tk a na) (tk b nb) (rv out)
 a1:1<=na
 a2:na<=a.size
 b1:2<=nb
 b2:nb<=b.size
inductive HiA (g:Keyed->Int) (T:List Keyed) (a b:Array Keyed) (r x:Nat) (c:Option (Array Keyed)×Nat×Nat×Array Keyed×Nat):Prop
 | mk (na nb:Nat) (out:Array Keyed) (mg:Nat) (e:c=(none,na,nb,out,mg)) (m:MHI g T a b out na nb) (h:na+nb+x<=r):HiA g T a b r x c
inductive HiB (g:Keyed->Int) (T:List Keyed) (a b:Array Keyed) (r x:Nat) (c:Option (Array Keyed)×Nat×Nat×Array Keyed×Nat×Nat):Prop
 | mk (na nb:Nat) (out:Array Keyed) (ac bc:Nat) (e:c=(none,na,nb,out,ac,bc)) (m:MHI g T a b out na nb) (h:na+nb+x<=r):HiB g T a b r x c
inductive HiC (g:Keyed->Int) (T:List Keyed) (a b:Array Keyed) (r x:Nat) (c:Option (Array Keyed)×Nat×Nat×Array Keyed×Nat×Nat×Nat):Prop
 | mk (na nb:Nat) (out:Array Keyed) (mg ac bc:Nat) (e:c=(none,na,nb,out,mg,ac,bc)) (m:MHI g T a b out na nb) (h:na+nb+x<=r):HiC g T a b r x c
theorem w_mhi (hC:Cmp M A s κ g U) {st st0:SortSt}{a b:Array Keyed}{T:List Keyed}{Q:Array Keyed->SortSt->Prop} (h0:Sm st0 st) (hk:kindOf st0=κ) (ua:All U a) (ub:All U b) (hd:(T.map g).Nodup) (hT:(a.toList++b.toList).Perm T)
  (sa:Asc g a 0 a.size) (sb:Asc g b 0 b.size) (ha:1<=a.size) (hb:1<=b.size) (hl:G g b (b.size - 1)<G g a (a.size - 1)) (hf:∀ p ∈ tk b 1,∀ q ∈ a.toList,g p<g q)
  (h:∀ R st',Sm st0 st'->Gd g T R->Q R st'):wpS M A E s (uq a b) Q st:=by
 rw[qS]
 refine wpS_bind (wpS_lift (wpAny_rule ⟨rfl,?_⟩))
 obtain⟨a0,ea0,_⟩:=cj (a:=a) (n:=a.size) (by omega) (Nat.le_refl _)
 obtain⟨b0,eb0,_⟩:=cj (a:=b) (n:=b.size) (by omega) (Nat.le_refl _)
 refine wpS_bind (bn ea0 ?_)
 dsimp only
 have m0:Mh g T (tk a a.size) (tk b b.size) (rv (#[]:Array Keyed)):=by
  unfold tk rv
  rw[List.take_of_length_le (by rw[Array.length_toList]; exact Nat.le_refl _),List.take_of_length_le (by rw[Array.length_toList]; exact Nat.le_refl _)]
  exact⟨by simpa using hT,by simpa using d0 sa,by simpa using d0 sb⟩
 have m1:Mh g T (tk a (a.size - 1)) (tk b b.size) (rv (#[a0]:Array Keyed)):=m0.push_a sb (by omega) (Nat.le_refl _) (Nat.le_refl _) ea0 eb0 (by rw[<- cR (g:=g) eb0,<- cR (g:=g) ea0]; exact hl)
 by_cases c1:a.size - 1=0
 ·refine b9 (by simpa using c1) ?_
  exact wpS_pure (h _ _ h0 (m1.done_a c1))
 refine dZ (by simpa using c1) ?_
 by_cases c2:b.size=1
 ·refine b9 (by simpa using c2) ?_
  exact wpS_pure (h _ _ h0 (m1.first c2 hf))
 refine dZ (by simpa using c2) ?_
 refine wpS_bind (wpS_get ?_)
 refine wpS_bind (wpS_mono (wpS_forRange (I:=fun x c st'=>Sm st0 st'/\HiA g T a b (a.size+b.size) x c)
  (Q:=fun c st'=>Sm st0 st'/\GR g T c) ?so ?fo ⟨h0,_,_,_,_,rfl,⟨m1,by omega,by omega,by omega,Nat.le_refl _⟩,by omega⟩) ?po)
 case fo=>
  rintro c st' ⟨_,na,nb,out,mg,_,hi,hm⟩
  have:=hi.a1
  exfalso
  omega
 case po=>
  rintro c st' ⟨hs,R,r,rfl,hg⟩
  exact wpS_pure (h _ _ hs hg)
 case so=>
  rintro x c st1 _ hx ⟨hs1,na,nb,out,mg,rfl,hi,hm⟩
  dsimp only
  obtain⟨r0,er0⟩:∃ r0,na+nb=r0:=⟨_,rfl⟩
  rw[er0] at hm
  refine wpS_bind (wpS_mono (wpS_forRange (I:=fun y c st'=>Sm st0 st'/\HiB g T a b r0 y c)
   (Q:=fun c st'=>Sm st0 st'/\(GR g T c∨HiB g T a b r0 1 c)) ?s1 ?f1 ⟨hs1,_,_,_,_,_,rfl,hi,by omega⟩) ?p1)
  case f1=>
   rintro c st' ⟨_,na,nb,out,ac,bc,_,hi,hm⟩
   have:=hi.a1
   exfalso
   omega
  case s1=>
   rintro y c st2 _ hy ⟨hs2,na,nb,out,ac,bc,rfl,hi,hm2⟩
   dsimp only
   obtain⟨hm',i1,i2,i3,i4⟩:=hi
   obtain⟨p,ep,epd⟩:=cj (a:=a) (n:=na) i1 i2
   obtain⟨q,eq,eqd⟩:=cj (a:=b) (n:=nb) (by omega) i4
   refine wpS_bind (bn eq (wpS_bind (bn ep (wpS_bind (w_lt hC (hs2.k.trans hk) (ub _ _ eq) (ua _ _ ep) ?_)))))
   dsimp only
   by_cases hlt:g q<g p
   ·refine b9 (decide_eq_true hlt) ?_
    refine wpS_bind (bn ep ?_)
    have m2:=hm'.push_a sb i1 i2 i4 ep eq hlt
    by_cases c:na - 1=0
    ·refine b9 (by simpa using c) ?_
     exact wpS_pure ⟨hs2,.inl ⟨_,_,rfl,m2.done_a c⟩⟩
    ·refine dZ (by simpa using c) ?_
     split
     ·exact wpS_pure ⟨hs2,.inr ⟨_,_,_,_,_,rfl,⟨m2,by omega,by omega,i3,i4⟩,by omega⟩⟩
     ·exact wpS_pure ⟨hs2,_,_,_,_,_,rfl,⟨m2,by omega,by omega,i3,i4⟩,by omega⟩
   ·refine dZ (by simpa using hlt) ?_
    refine wpS_bind (bn eq ?_)
    have hne:=hm'.nes hd (a:=p) (b:=q) (by rw[epd]; simp) (by rw[eqd]; simp)
    have m2:=hm'.push_b sa (by omega) i4 i2 ep eq (by omega)
    by_cases c:nb - 1=1
    ·refine b9 (by simpa using c) ?_
     exact wpS_pure ⟨hs2,.inl ⟨_,_,rfl,m2.first c hf⟩⟩
    ·refine dZ (by simpa using c) ?_
     split
     ·exact wpS_pure ⟨hs2,.inr ⟨_,_,_,_,_,rfl,⟨m2,i1,i2,by omega,by omega⟩,by omega⟩⟩
     ·exact wpS_pure ⟨hs2,_,_,_,_,_,rfl,⟨m2,i1,i2,by omega,by omega⟩,by omega⟩
  case p1=>
   rintro c st2 ⟨hs2,⟨R,r,rfl,hg⟩ | ⟨na,nb,out,ac,bc,rfl,hi,hm2⟩⟩
   ·exact wpS_pure ⟨hs2,_,_,rfl,hg⟩
   dsimp only
   refine wpS_bind (wpS_lift (wpAny_rule ⟨rfl,?_⟩))
   obtain⟨r1,er1⟩:∃ r1,na+nb=r1:=⟨_,rfl⟩
   rw[er1] at hm2
   refine wpS_bind (wpS_mono (wpS_forRange (I:=fun y c st'=>Sm st0 st'/\HiC g T a b r1 y c)
    (Q:=fun c st'=>Sm st0 st'/\(GR g T c∨HiC g T a b r1 0 c)) ?s2 ?f2 ⟨hs2,_,_,_,_,_,_,rfl,hi,by omega⟩) ?p2)
   case f2=>
    rintro c st' ⟨_,na,nb,out,mg,ac,bc,_,hi,hm⟩
    have:=hi.a1
    exfalso
    omega
   case p2=>
    rintro c st3 ⟨hs3,⟨R,r,rfl,hg⟩ | ⟨na,nb,out,mg,ac,bc,rfl,hi,hm3⟩⟩
    ·exact wpS_pure ⟨hs3,_,_,rfl,hg⟩
    dsimp only
    exact wpS_bind (qq hs3 fun st4 hs4=>wpS_pure ⟨hs4,_,_,_,_,rfl,hi,by omega⟩)
   case s2=>
    rintro y c st3 _ hy ⟨hs3,na,nb,out,mg,ac,bc,rfl,hi,hm3⟩
    dsimp only
    obtain⟨hm',i1,i2,i3,i4⟩:=hi
    obtain⟨q,eq,eqd⟩:=cj (a:=b) (n:=nb) (by omega) i4
    generalize mg - 1=mg1
    revert mg1
    refine rX (c:=mg > 1) mg fun n=>?_
    clear er0 er1 hm hm2
    refine wpS_bind (qq hs3 fun st4 hs4=>?_)
    refine wpS_bind (bn eq (wpS_bind (iy hC (hs4.k.trans hk) (ub _ _ eq) ua (by omega) (by omega) (ff sa (by omega)) fun t hk1 hk2 hk3=>?_)))
    dsimp only
    have m2:=hm'.bulk_a sb hk1 i4 eq hk3
    obtain⟨o2,eo2⟩:∃ o2,out++(a.extract t na).reverse=o2:=⟨_,rfl⟩
    rw[eo2] at m2
    obtain⟨k,ekk⟩:∃ k,na - t=k:=⟨_,rfl⟩
    rw[ekk]
    have ek:¬ k > 0->out=o2/\na=t:=fun e=>by
     obtain rfl:na=t:=om5 ekk e hk1
     refine⟨?_,rfl⟩
     rw[<- eo2]
     apply Array.toList_inj.mp
     rw[Array.toList_append,Array.toList_reverse,bU,Nat.sub_self,List.take_zero,List.reverse_nil,wx]
    by_cases cx:k > 0/\t=0
    ·refine b9 cx.1 ?_
     rw[eo2]
     refine b9 (by simpa using cx.2) ?_
     exact wpS_pure ⟨hs4,.inl ⟨_,_,rfl,m2.done_a cx.2⟩⟩
    have t1:1<=t:=by
     by_cases ck:k > 0
     ·exact Nat.pos_of_ne_zero fun e=>cx ⟨ck,e⟩
     ·rw[<- (ek ck).2]; exact i1
    apply lf
    ·intro ck
     rw[eo2,if_neg (by simpa using fun e=>cx ⟨ck,e⟩)]
    ·intro ck
     obtain⟨e7,e8⟩:=ek ck
     rw[e7,e8]
    clear cx ek
    have ta:t<=a.size:=Nat.le_trans hk1 i2
    obtain⟨p,ep,epd⟩:=cj (a:=a) (n:=t) t1 ta
    have hpq:g p<g q:=by
     have h3:=hk2 (t - 1) (Nat.sub_lt t1 Nat.one_pos)
     unfold bey at h3
     rw[Nat.zero_add,cR ep] at h3
     have hne:=m2.nes hd (a:=p) (b:=q) (by rw[epd]; simp) (by rw[eqd]; simp)
     simp at h3
     exact om9 h3 hne
    refine wpS_bind (bn eq ?_)
    have m3:=m2.push_b sa (by omega) i4 ta ep eq hpq
    by_cases c1:nb - 1=1
    ·refine b9 (by simpa using c1) ?_
     exact wpS_pure ⟨hs4,.inl ⟨_,_,rfl,m3.first c1 hf⟩⟩
    refine dZ (by simpa using c1) ?_
    refine wpS_bind (bn ep (wpS_bind (iy hC (hs4.k.trans hk) (ua _ _ ep) ub (by omega) (by omega) (ff sb (by omega)) fun t2 hj1 hj2 hj3=>?_)))
    dsimp only
    have m4:=m3.bulk_b hd sa hj1 (by omega) ta ep hj3
    obtain⟨o3,eo3⟩:∃ o3,o2.push q++(b.extract t2 (nb - 1)).reverse=o3:=⟨_,rfl⟩
    rw[eo3] at m4
    obtain⟨k2,ekk2⟩:∃ k,nb - 1 - t2=k:=⟨_,rfl⟩
    rw[ekk2]
    have ek2:¬ k2 > 0->o2.push q=o3/\nb - 1=t2:=fun e=>by
     obtain e2:nb - 1=t2:=om5 ekk2 e hj1
     refine⟨?_,e2⟩
     rw[<- eo3,e2]
     apply Array.toList_inj.mp
     rw[Array.toList_append,Array.toList_reverse,bU,Nat.sub_self,List.take_zero,List.reverse_nil,wx]
    by_cases c2:k2 > 0/\t2=1
    ·refine b9 c2.1 ?_
     rw[eo3]
     refine b9 (by simpa using c2.2) ?_
     exact wpS_pure ⟨hs4,.inl ⟨_,_,rfl,m4.first c2.2 hf⟩⟩
    by_cases c2':k2 > 0/\t2=0
    ·refine b9 c2'.1 ?_
     rw[eo3,if_neg (by simpa using fun e=>c2 ⟨c2'.1,e⟩)]
     refine b9 (by simpa using c2'.2) ?_
     exact wpS_pure ⟨hs4,.inl ⟨_,_,rfl,m4.done_b c2'.2⟩⟩
    have l2:2<=t2:=by
     by_cases ck:k2 > 0
     ·exact om6 (fun e=>c2 ⟨ck,e⟩) (fun e=>c2' ⟨ck,e⟩)
     ·rw[<- (ek2 ck).2]; exact om7 i3 c1
    apply lf
    ·intro ck2
     rw[eo3,if_neg (by simpa using fun e=>c2 ⟨ck2,e⟩),if_neg (by simpa using fun e=>c2' ⟨ck2,e⟩)]
    ·intro ck2
     obtain⟨e5,e6⟩:=ek2 ck2
     rw[e5,e6]
    clear c2 c2' ek2
    have nx:Mh g T (tk a (t - 1)) (tk b t2) (rv (o3.push p)):=by
     obtain⟨q2,eq2,eqd2⟩:=cj (a:=b) (n:=t2) (by omega) (by omega)
     have h3:=hj2 (t2 - 1) (by omega)
     unfold bey at h3
     rw[Nat.zero_add,cR eq2] at h3
     simp at h3
     exact m4.push_a sb t1 ta (by omega) ep eq2 h3
    refine wpS_bind (bn ep ?_)
    by_cases c3:t - 1=0
    ·refine b9 (by simpa using c3) ?_
     exact wpS_pure ⟨hs4,.inl ⟨_,_,rfl,nx.done_a c3⟩⟩
    refine dZ (by simpa using c3) ?_
    have fin:MHI g T a b (o3.push p) (t - 1) t2:=⟨nx,by omega,by omega,by omega,by omega⟩
    refine vb ?_ ?_
    ·exact wpS_pure ⟨hs4,.inr ⟨_,_,_,_,_,_,rfl,fin,Nat.le_trans (Nat.le_add_right _ _) (om8 hm3 hk1 hj1 t1 i3)⟩⟩
    ·exact wpS_pure ⟨hs4,_,_,_,_,_,_,rfl,fin,om8 hm3 hk1 hj1 t1 i3⟩
theorem qV (i:Nat):mergeAt' i=(do
 let s0 <- get
 let (some (sa,na,pw),some (sb,nb,_)):=((pendingOf s0)[i]?,(pendingOf s0)[i+1]?) | unsupported "internal:list.sort.pending"
 set (setPending s0 (((pendingOf s0).setIfInBounds i (sa,na+nb,pw)).eraseIdxIfInBounds (i+1)))
 let some k <- kc false (<- elem' (arrOf s0) sb) (arrOf s0) sa na 0 | return false
 let (sa,na):=(sa+k,na - k)
 if na == 0 then return true
 let some nb <- kc true (<- elem' (arrOf s0) (sa+na - 1)) (arrOf s0) sb nb (nb - 1) | return false
 if nb == 0 then return true
 let x:=(arrOf s0).extract sa sb
 let y:=(arrOf s0).extract sb (sb+nb)
 let r <- if na<=nb then uo x y else uq x y
 modify fun s1=>setArr s1 (r.toList.zipIdx.foldl (fun a (p,j)=>a.setIfInBounds (sa+j) p) (arrOf s1))
 return (failedOf (<- get)).isNone):=rfl
end
end L2.So
namespace L2.So
open PySem PyProof.Rows
section
variable {M:Model}{A:Around}{E:Value->Shared->Prop}{s:Shared}{κ:SortKind}{g:Keyed->Int}{U:Keyed->Prop}
theorem w_set {x st:SortSt}{Q:PUnit->SortSt->Prop} (h:Q ⟨⟩ x):wpS M A E s (set x:StateT SortSt Sem PUnit) Q st:=by
 unfold wpS
 rw[StateT.run_set]
 exact wpAny_pure ⟨rfl,h⟩
theorem iU {left:Bool}{key:Keyed}{arr:Array Keyed}{base n:Nat} (h:Asc g arr base (base+n)):∀ i j,i<=j->j<n->bey g left key arr base j=true->bey g left key arr base i=true:=by
 intro i j hij hj hb
 have:G g arr (base+i)<=G g arr (base+j):=by
  by_cases e:i=j
  ·subst e; exact Int.le_refl _
  ·exact Int.le_of_lt (h _ _ (by omega) (by omega) (by omega))
 unfold bey at hb ⊢
 cases left with
 | true=>simp at hb ⊢; omega
 | false=>simp at hb ⊢; omega
theorem ld (sa:Nat):∀ (l:List Keyed) (d:Nat) (xs:Array Keyed),sa+d+l.length<=xs.size ->
  ((l.zipIdx d).foldl (fun a (x:Keyed×Nat)=>a.setIfInBounds (sa+x.2) x.1) xs).toList=xs.toList.take (sa+d)++l++xs.toList.drop (sa+d+l.length)
 | [],d,xs,_=>by
  rw[List.zipIdx_nil,List.foldl_nil,wx,List.length_nil,Nat.add_zero,List.take_append_drop]
 | p::l,d,xs,h=>by
  rw[wl] at h
  rw[List.zipIdx_cons,List.foldl_cons,ld sa l (d+1) _ (by rw[Array.size_setIfInBounds]; omega)]
  rw[Array.toList_setIfInBounds]
  have hl:sa+d<xs.toList.length:=by rw[Array.length_toList]; omega
  have e1:(xs.toList.set (sa+d) p).take (sa+(d+1))=xs.toList.take (sa+d)++[p]:=by
   rw[show sa+(d+1)=sa+d+1 by omega,List.take_succ,List.getElem?_set_self hl,List.take_set_of_le (Nat.le_refl _)]
   rfl
  have e2:(xs.toList.set (sa+d) p).drop (sa+(d+1)+l.length)=xs.toList.drop (sa+d+(l.length+1)):=by
   rw[List.drop_set_of_lt (by omega)]
   congr 1
   omega
  dsimp only
  rw[e1,e2,wl]
  simp
theorem kD {xs:Array Keyed}{i n j:Nat} (h:i+j<n) (hn:n<=xs.size):G g (xs.extract i n) j=G g xs (i+j):=by
 apply bS
 rw[Array.getElem?_extract,if_pos (by omega)]
theorem oh {xs:Array Keyed}{i n:Nat} (hn:n<=xs.size):(xs.extract i n).size=n - i:=by rw[Array.size_extract]; omega
theorem jD {xs:Array Keyed}{i n:Nat} (hn:n<=xs.size) (h:Asc g xs i n):Asc g (xs.extract i n) 0 (xs.extract i n).size:=by
 intro a b _ hab hb
 rw[oh hn] at hb
 rw[kD (by omega) hn,kD (by omega) hn]
 exact h _ _ (by omega) (by omega) (by omega)
theorem jF {xs:Array Keyed}{i n:Nat} (h:All U xs):All U (xs.extract i n):=by
 intro j p e
 rw[Array.getElem?_extract] at e
 split at e
 ·exact h _ _ e
 ·cases e
structure Fin (st st':SortSt) (g:Keyed->Int):Prop where
 e:(arrOf st').Perm (arrOf st)
 f:failedOf st'=none
 a:Asc g (arrOf st') 0 (arrOf st').size
theorem w_mat (hC:Cmp M A s κ g U) {st:SortSt}{n1 n2 pw x:Nat}{Q:Bool->SortSt->Prop} (hs:Stt κ g U st) (hp:pendingOf st = #[(0,n1,pw),(n1,n2,x)]) (h1:1<=n1) (h2:1<=n2) (hz:n1+n2=(arrOf st).size)
  (a1:Asc g (arrOf st) 0 n1) (a2:Asc g (arrOf st) n1 (n1+n2)) (h:∀ st',Fin st st' g->(pendingOf st').size=1->Q true st'):wpS M A E s (mergeAt' 0) Q st:=by
 rw[qV]
 refine wpS_bind (wpS_get ?_)
 rw[hp]
 have e0:(#[(0,n1,pw),(n1,n2,x)]:Array (Nat×Nat×Nat))[0]?=some (0,n1,pw):=rfl
 have e1:(#[(0,n1,pw),(n1,n2,x)]:Array (Nat×Nat×Nat))[0+1]?=some (n1,n2,x):=rfl
 rw[e0,e1]
 dsimp only
 refine wpS_bind (w_set ?_)
 obtain⟨xs,ex⟩:∃ xs,arrOf st=xs:=⟨_,rfl⟩
 have hU:=hs.u
 have hD:=hs.d
 rw[ex] at hz a1 a2 hU hD ⊢
 obtain⟨st1,e1⟩:∃ st1,setPending st (((#[(0,n1,pw),(n1,n2,x)]:Array (Nat×Nat×Nat)).setIfInBounds 0 (0,n1+n2,pw)).eraseIdxIfInBounds (0+1))=st1:=⟨_,rfl⟩
 rw[e1]
 have k1:kindOf st1=κ:=by rw[<- e1]; exact hs.k
 have f1:failedOf st1=none:=by rw[<- e1]; exact hs.f
 have x1:arrOf st1=xs:=by rw[<- e1]; exact ex
 have p1:(pendingOf st1).size=1:=by
  rw[<- e1]
  show(((#[(0,n1,pw),(n1,n2,x)]:Array (Nat×Nat×Nat)).setIfInBounds 0 (0,n1+n2,pw)).eraseIdxIfInBounds (0+1)).size=1
  simp
 obtain⟨q,eq,eg⟩:=at_ (g:=g) (xs:=xs) (i:=n1) (by omega)
 refine wpS_bind (bn eq (wpS_bind (iy hC k1 (hU _ _ eq) hU (by omega) (by omega) (iU (by rw[Nat.zero_add]; exact a1)) fun k hk1 hk2 hk3=>?_)))
 dsimp only
 have low:∀ i,i<k->G g xs i<G g xs n1:=fun i hi=>by
  have h3:=hk2 i hi
  unfold bey at h3
  rw[Nat.zero_add,<- eg] at h3
  simp at h3
  have:=hD.ne (i:=i) (j:=n1) (by omega) (by omega) (by omega)
  omega
 have high:∀ i,k<=i->i<n1->G g xs n1<G g xs i:=fun i hi hi2=>by
  have h3:=hk3 i hi hi2
  unfold bey at h3
  rw[Nat.zero_add,<- eg] at h3
  simpa using h3
 by_cases c:n1 - k=0
 ·rw[if_pos (by simpa using c)]
  refine wpS_pure (h _ ⟨by rw[x1,ex],f1,?_⟩ p1)
  rw[x1]
  intro i j _ hij hj
  by_cases c1:j<n1
  ·exact a1 i j (Nat.zero_le _) hij c1
  ·by_cases c2:i<n1
   ·have:=low i (by omega)
    by_cases c3:j=n1
    ·subst c3; exact this
    ·exact Int.lt_trans this (a2 n1 j (Nat.le_refl _) (by omega) (by omega))
   ·exact a2 i j (by omega) hij (by omega)
 rw[if_neg (by simpa using c)]
 rw[show 0+k+(n1 - k) - 1=n1 - 1 by omega,Nat.zero_add]
 obtain⟨p,ep,eg2⟩:=at_ (g:=g) (xs:=xs) (i:=n1 - 1) (by omega)
 refine wpS_bind (bn ep (wpS_bind (iy hC k1 (hU _ _ ep) hU (by omega) (by omega) (iU a2) fun nb hj1 hj2 hj3=>?_)))
 dsimp only
 have low2:∀ i,n1<=i->i<n1+nb->G g xs i<G g xs (n1 - 1):=fun i hi hi2=>by
  have h3:=hj2 (i - n1) (by omega)
  unfold bey at h3
  rw[show n1+(i - n1)=i by omega,<- eg2] at h3
  simpa using h3
 have high2:∀ i,n1+nb<=i->i<n1+n2->G g xs (n1 - 1)<G g xs i:=fun i hi hi2=>by
  have h3:=hj3 (i - n1) (by omega) (by omega)
  unfold bey at h3
  rw[show n1+(i - n1)=i by omega,<- eg2] at h3
  simp at h3
  have:=hD.ne (i:=i) (j:=n1 - 1) (by omega) (by omega) (by omega)
  omega
 by_cases c2:nb=0
 ·have:=high2 n1 (by omega) (by omega)
  have:=high (n1 - 1) (by omega) (by omega)
  omega
 rw[if_neg (by simpa using c2)]
 have hx:n1<=xs.size:=by omega
 have hy:n1+nb<=xs.size:=by omega
 have zx:=oh (xs:=xs) (i:=k) hx
 have zy:=oh (xs:=xs) (i:=n1) hy
 have ax:=jD (xs:=xs) (i:=k) hx (fun i j h3 h4 h5=>a1 i j (Nat.zero_le _) h4 h5)
 have ay:=jD (xs:=xs) (i:=n1) hy (fun i j h3 h4 h5=>a2 i j h3 h4 (by omega))
 have mx:∀ p ∈ (xs.extract k n1).toList,∃ j,k<=j/\j<n1/\G g xs j=g p:=fun p hp=>by
  obtain⟨j,h3,h4,h5⟩:=jp hp
  exact⟨j,h3,h4,cR h5⟩
 have my:∀ p ∈ (xs.extract n1 (n1+nb)).toList,∃ j,n1<=j/\j<n1+nb/\G g xs j=g p:=fun p hp=>by
  obtain⟨j,h3,h4,h5⟩:=jp hp
  exact⟨j,h3,h4,cR h5⟩
 obtain⟨T,eT⟩:∃ T,(xs.extract k n1).toList++(xs.extract n1 (n1+nb)).toList=T:=⟨_,rfl⟩
 have eTl:T=(dr xs k).take (n1+nb - k):=by
  rw[<- eT,bU,bU]
  unfold dr
  rw[show n1+nb - k=(n1 - k)+nb by omega,List.take_add,List.drop_drop,show k+(n1 - k)=n1 by omega,Nat.add_sub_cancel_left]
 have whole:xs.toList=xs.toList.take k++T++xs.toList.drop (n1+nb):=by
  rw[eTl]
  unfold dr
  conv=>lhs; rw[<- List.take_append_drop k xs.toList,<- List.take_append_drop (n1+nb - k) (xs.toList.drop k),List.drop_drop]
  rw[show k+(n1+nb - k)=n1+nb by omega,wm]
 have lT:T.length=n1+nb - k:=by rw[<- eT,wf,Array.length_toList,Array.length_toList,zx,zy]; omega
 have hdT:(T.map g).Nodup:=by
  have:=dis_iff.mp hD
  rw[whole,wg,wg] at this
  exact(List.nodup_append.mp (List.nodup_append.mp this).1).2.1
 have fin:∀ R st2,Sm st1 st2->Gd g T R->wpS M A E s (do
   modify fun s1=>setArr s1 (List.foldl (fun a (x:Keyed×Nat)=>a.setIfInBounds (k+x.snd) x.fst) (arrOf s1) R.toList.zipIdx)
   let z <- get
   pure (failedOf z).isNone) Q st2:=by
  intro R st2 hs2 hR
  refine wpS_bind (wpS_modify (wpS_bind (wpS_get (wpS_pure ?_))))
  have lR:R.toList.length=n1+nb - k:=by rw[hR.1.length_eq,lT]
  have hw:=ld k R.toList 0 (arrOf st2) (by rw[lR,hs2.a,x1]; omega)
  rw[Nat.add_zero,lR,hs2.a,x1,show k+(n1+nb - k)=n1+nb by omega] at hw
  have hf:failedOf st2=none:=by rw[hs2.f,f1]
  show Q (failedOf st2).isNone _
  rw[hf]
  refine h _ ⟨?_,hf,?_⟩ (by show(pendingOf st2).size=1; rw[hs2.p]; exact p1)
  ·rw[Array.perm_iff_toList_perm]
   show(List.foldl (fun a (x:Keyed×Nat)=>a.setIfInBounds (k+x.snd) x.fst) (arrOf st2) R.toList.zipIdx).toList.Perm (arrOf st).toList
   rw[hs2.a,x1,hw,ex]
   conv=>rhs; rw[whole]
   exact List.Perm.append_right _ (List.Perm.append_left _ hR.1)
  ·refine uZ ?_
   show Srt g (List.foldl (fun a (x:Keyed×Nat)=>a.setIfInBounds (k+x.snd) x.fst) (arrOf st2) R.toList.zipIdx).toList
   rw[hs2.a,x1,hw]
   have mT:∀ t ∈ R.toList,(∃ j,k<=j/\j<n1/\G g xs j=g t)∨(∃ j,n1<=j/\j<n1+nb/\G g xs j=g t):=fun t ht=>by
    have:=hR.1.mem_iff.mp ht
    rw[<- eT] at this
    rcases wq.mp this with h3 | h3
    ·exact .inl (mx t h3)
    ·exact .inr (my t h3)
   have mP:∀ t ∈ xs.toList.take k,∃ j,j<k/\G g xs j=g t:=fun t ht=>by
    obtain⟨j,h3,h4,h5⟩:=kG (a:=xs) (n:=k) ht
    exact⟨j,h3,cR h5⟩
   have mS:∀ t ∈ xs.toList.drop (n1+nb),∃ j,n1+nb<=j/\j<n1+n2/\G g xs j=g t:=fun t ht=>by
    obtain⟨j,h3,h4,h5⟩:=k3 (a:=xs) (i:=n1+nb) ht
    exact⟨j,h3,by omega,cR h5⟩
   unfold Srt
   rw[wk,wk]
   refine⟨⟨?_,hR.2,fun u hu t ht=>?_⟩,?_,fun t ht v hv=>?_⟩
   ·have:=d0 (jD (xs:=xs) (i:=0) (n:=k) (by omega) (fun i j h3 h4 h5=>a1 i j h3 h4 (by omega)))
    rw[gZ] at this
    exact this
   ·obtain⟨i,h3,h4⟩:=mP u hu
    have hl:=low i h3
    rw[<- h4]
    rcases mT t ht with ⟨j,h5,h6,h7⟩ | ⟨j,h5,h6,h7⟩
    ·rw[<- h7]; exact a1 i j (Nat.zero_le _) (by omega) h6
    ·rw[<- h7]
     by_cases e:j=n1
     ·subst e; exact hl
     ·exact Int.lt_trans hl (a2 n1 j (Nat.le_refl _) (by omega) (by omega))
   ·have:=d0 (jD (xs:=xs) (i:=n1+nb) (n:=xs.size) (Nat.le_refl _) (fun i j h3 h4 h5=>a2 i j (by omega) h4 (by omega)))
    rw[ed] at this
    exact this
   ·obtain⟨i,h3,h3',h4⟩:=mS v hv
    have hh:=high2 i h3 h3'
    rw[<- h4]
    rcases wq.mp ht with ht | ht
    ·obtain⟨j,h5,h6⟩:=mP t ht
     rw[<- h6]
     exact Int.lt_trans (low j h5) (a2 n1 i (Nat.le_refl _) (by omega) (by omega))
    ·rcases mT t ht with ⟨j,h5,h6,h7⟩ | ⟨j,h5,h6,h7⟩
     ·rw[<- h7]
      by_cases e:j=n1 - 1
      ·subst e; exact hh
      ·exact Int.lt_trans (a1 j (n1 - 1) (Nat.zero_le _) (by omega) (by omega)) hh
     ·rw[<- h7]; exact a2 j i h5 (by omega) h3'
 have hlast:∀ p ∈ dr (xs.extract k n1) ((xs.extract k n1).size - 1),∀ q ∈ (xs.extract n1 (n1+nb)).toList,g q<g p:=fun p hp q hq=>by
  obtain⟨j,h3,h4,h5⟩:=k3 hp
  obtain⟨i,h6,h7,h8⟩:=my q hq
  rw[<- cR (g:=g) h5,kD (by omega) hx,<- h8,show k+j=n1 - 1 by omega]
  exact low2 i h6 h7
 have hfirst:∀ p ∈ tk (xs.extract n1 (n1+nb)) 1,∀ q ∈ (xs.extract k n1).toList,g p<g q:=fun p hp q hq=>by
  obtain⟨j,h3,h4,h5⟩:=kG hp
  obtain⟨i,h6,h7,h8⟩:=mx q hq
  rw[<- cR (g:=g) h5,kD (by omega) hy,<- h8,show n1+j=n1 by omega]
  exact high i h6 h7
 refine vb ?_ ?_
 ·refine wpS_bind (w_mlo hC (Sm.refl st1) k1 (jF hU) (jF hU) hdT (by rw[eT]) ax ay (by omega) (by omega) ?_ hlast fin)
  rw[kD (by omega) hy,kD (by omega) hx]
  exact high _ (by omega) (by omega)
 ·refine wpS_bind (w_mhi hC (Sm.refl st1) k1 (jF hU) (jF hU) hdT (by rw[eT]) ax ay (by omega) (by omega) ?_ hfirst fin)
  rw[kD (by omega) hy,kD (by omega) hx,zx,zy,show k+(n1 - k - 1)=n1 - 1 by omega]
  exact low2 _ (by omega) (by omega)
structure One (st st':SortSt) (g:Keyed->Int) (n1:Nat):Prop where
 k:kindOf st'=kindOf st
 f:failedOf st'=failedOf st
 e:(arrOf st').Perm (arrOf st)
 p:pendingOf st' = #[(0,n1,0)]
 a:Asc g (arrOf st') 0 n1
structure Two (st st':SortSt) (g:Keyed->Int) (n1 pw n2:Nat):Prop where
 k:kindOf st'=kindOf st
 f:failedOf st'=failedOf st
 e:(arrOf st').Perm (arrOf st)
 p:pendingOf st' = #[(0,n1,pw),(n1,n2,0)]
 a:Asc g (arrOf st') 0 n1
 b:Asc g (arrOf st') n1 (n1+n2)
theorem mr_ok {n:Nat} (h2:2<=n) (h:n<128):1<=minRun' n n 0/\minRun' n n 0<=n/\n<=2*minRun' n n 0:=by
 obtain⟨m,rfl⟩:∃ m,n=m+2:=⟨n - 2,by omega⟩
 rw[minRun'_succ]
 by_cases h64:m+2<64
 ·rw[if_pos h64]; omega
 ·rw[if_neg h64,minRun'_succ,if_pos (by omega)]; omega
theorem tj (hC:Cmp M A s κ g U) {st:SortSt}{Q:Unit->SortSt->Prop} (hs:Stt κ g U st) (hp:pendingOf st = #[]) (h2:2<=(arrOf st).size) (h128:(arrOf st).size<128)
  (h:∀ st',Fin st st' g->Q () st'):wpS M A E s sortRuns' Q st:=by
 rw[sortRuns'_eq]
 refine wpS_bind (wpS_get ?_)
 obtain⟨n,en⟩:∃ n,(arrOf st).size=n:=⟨_,rfl⟩
 obtain⟨m1,m2,m3⟩:=mr_ok h2 h128
 rw[en] at m1 m2 m3 h2 ⊢
 obtain⟨mr,emr⟩:∃ mr,minRun' n n 0=mr:=⟨_,rfl⟩
 rw[emr] at m1 m2 m3
 dsimp only
 rw[emr]
 refine wpS_bind (wpS_mono (wpS_forRange (I:=fun x c st'=>(x=0/\c=(none,0)/\st'=st)∨(x=1/\∃ n1,c=(none,n1)/\1<=n1/\n1<=n/\n - n1<=mr/\One st st' g n1)∨(2<=x/\c=(none,n)/\∃ n1 pw n2,1<=n1/\1<=n2/\n1+n2=n/\Two st st' g n1 pw n2))
  (Q:=fun c st'=>c=(none,n)/\(One st st' g n∨∃ n1 pw n2,1<=n1/\1<=n2/\n1+n2=n/\Two st st' g n1 pw n2)) ?s1 ?f1 (.inl ⟨rfl,rfl,rfl⟩)) ?p1)
 case f1=>
  rintro c st' (⟨hx,_,_⟩ | ⟨hx,_⟩ | ⟨hx,hc,ht⟩)
  ·omega
  ·omega
  ·exact⟨hc,.inr ht⟩
 case s1=>
  rintro x c st' _ hx (⟨rfl,rfl,rfl⟩ | ⟨rfl,n1,rfl,i1,i2,i3,ho⟩ | ⟨hx2,rfl,n1,pw,n2,i1,i2,i3,ht⟩)
  ·dsimp only
   rw[if_neg (by omega)]
   refine wpS_bind (rW hC hs (by omega) (by omega) fun m st2 r1 r2 r3 r4=>?_)
   dsimp only
   rw[Nat.zero_add] at r4
   have z2:=r3.size
   have pb2:(pendingOf st2).back?=none:=by rw[r3.p,hp]; rfl
   by_cases c:m<mr
   ·rw[if_pos c]
    refine wpS_bind (wpS_lift (wpAny_rule ⟨rfl,?_⟩))
    refine wpS_bind (rY hC (r3.stt hs) r1 (by omega) (by omega) (by rw[Nat.zero_add]; exact r4) fun st3 b1 b2=>?_)
    rw[if_neg (by simp)]
    refine wpS_bind (wpS_get ?_)
    have pb3:(pendingOf st3).back?=none:=by rw[b1.p]; exact pb2
    rw[pb3]
    dsimp only
    refine wpS_bind (wpS_modify (wpS_pure (.inr (.inl ⟨rfl,_,rfl,by omega,by omega,by omega,b1.k.trans r3.k,b1.f.trans r3.f,b1.e.trans r3.e,?_,?_⟩))))
    ·show(pendingOf st3).push _=_
     rw[b1.p,r3.p,hp,Nat.zero_add]
     rfl
    ·exact b2
   ·rw[if_neg c]
    refine wpS_bind (wpS_get ?_)
    rw[pb2]
    dsimp only
    refine wpS_bind (wpS_modify (wpS_pure (.inr (.inl ⟨rfl,_,rfl,by omega,by omega,by omega,r3.k,r3.f,r3.e,?_,?_⟩))))
    ·show(pendingOf st2).push _=_
     rw[r3.p,hp,Nat.zero_add]
     rfl
    ·show Asc g (arrOf st2) 0 (0+m)
     rw[Nat.zero_add]
     exact r4
  ·dsimp only
   have z1:=ho.e.size_eq
   have hs1:Stt κ g U st':=⟨ho.k.trans hs.k,ho.f.trans hs.f,hs.u.perm ho.e,hs.d.perm ho.e⟩
   by_cases c0:n1 ≥ n
   ·rw[if_pos c0]
    obtain rfl:n1=n:=by omega
    exact wpS_pure ⟨rfl,.inl ho⟩
   rw[if_neg c0]
   refine wpS_bind (rW hC hs1 (by omega) (by omega) fun m st2 r1 r2 r3 r4=>?_)
   dsimp only
   have z2:=r3.size
   have low:∀ {st3:SortSt},Swp st' st3 n1 (n1+(n - n1))->Asc g (arrOf st3) 0 n1:=fun hw i j h5 h6 h7=>by
    rw[bS (hw.o i (.inl (by omega))),bS (hw.o j (.inl (by omega)))]
    exact ho.a i j h5 h6 h7
   have fin:∀ (st3:SortSt) (pw:Nat),Swp st' st3 n1 (n1+(n - n1))->Asc g (arrOf st3) n1 n->Two st (setPending (setPending st3 ((pendingOf st3).modify ((pendingOf st3).size - 1) fun x=>(x.1,x.2.1,pw))) ((pendingOf (setPending st3 ((pendingOf st3).modify ((pendingOf st3).size - 1) fun x=>(x.1,x.2.1,pw)))).push (n1,n - n1,0))) g n1 pw (n - n1):=fun st3 pw hw ha=>by
    refine⟨hw.k.trans ho.k,hw.f.trans ho.f,hw.e.trans ho.e,?_,(show Asc g (arrOf st3) 0 n1 from low hw),?_⟩
    ·show((pendingOf st3).modify ((pendingOf st3).size - 1) fun x=>(x.1,x.2.1,pw)).push (n1,n - n1,0)=_
     rw[hw.p,ho.p]
     rfl
    ·rw[show n1+(n - n1)=n by omega]
     exact ha
   have inner:∀ (st3:SortSt) (pw:Nat) (R:Option Unit×Unit->SortSt->Prop),(pendingOf st3).size=1->R (none,()) st3->wpS M A E s (forIn [0:n] ((none,()):Option Unit×Unit) fun _ _=>do
     let z <- get
     match if (pendingOf z).size > 1 then(pendingOf z)[(pendingOf z).size - 2]? else none with
     | some (_,_,older)=>
      if older<=pw then pure (ForInStep.done (none,()))
      else do
       let z2 <- mergeAt' ((pendingOf z).size - 2)
       if (!z2)=true then pure (ForInStep.done (some (),())) else pure (ForInStep.yield (none,()))
     | _=>pure (ForInStep.done (none,()))) R st3:=by
    intro st3 pw R hz3 hR
    refine wpS_forRange (I:=fun _ c st4=>c=(none,())/\st4=st3) ?_ ?_ ⟨rfl,rfl⟩
    ·rintro y c st4 _ _ ⟨rfl,rfl⟩
     refine wpS_bind (wpS_get ?_)
     rw[if_neg (by omega)]
     exact wpS_pure hR
    ·rintro c st4 ⟨rfl,rfl⟩
     exact hR
   have pk:∀ {st3:SortSt},Swp st' st3 n1 (n1+(n - n1))->(pendingOf st3).back?=some (0,n1,0)/\(pendingOf st3).size=1:=fun hw=>by
    rw[hw.p,ho.p]
    exact⟨rfl,rfl⟩
   by_cases c:m<mr
   ·rw[if_pos c]
    refine wpS_bind (wpS_lift (wpAny_rule ⟨rfl,?_⟩))
    rw[show min (n - n1) mr=n - n1 by omega]
    refine wpS_bind (rY hC (r3.stt hs1) r1 (by omega) (by omega) r4 fun st3 b1 b2=>?_)
    have hw:=r3.trans b1
    rw[if_neg (by simp)]
    refine wpS_bind (wpS_get ?_)
    rw[(pk hw).1]
    dsimp only
    refine wpS_bind (inner st3 _ _ (pk hw).2 ?_)
    dsimp only
    refine wpS_bind (wpS_modify (wpS_bind (wpS_modify (wpS_pure (.inr (.inr ⟨by omega,?_,n1,_,n - n1,by omega,by omega,by omega,fin st3 _ hw (by rw[show n1+(n - n1)=n by omega] at b2; exact b2)⟩))))))
    rw[show n1+(n - n1)=n by omega]
   ·rw[if_neg c]
    obtain rfl:m=n - n1:=by omega
    refine wpS_bind (wpS_get ?_)
    rw[(pk r3).1]
    dsimp only
    refine wpS_bind (inner st2 _ _ (pk r3).2 ?_)
    dsimp only
    refine wpS_bind (wpS_modify (wpS_bind (wpS_modify (wpS_pure (.inr (.inr ⟨by omega,?_,n1,_,n - n1,by omega,by omega,by omega,fin st2 _ r3 (by rw[show n1+(n - n1)=n by omega] at r4; exact r4)⟩))))))
    rw[show n1+(n - n1)=n by omega]
  ·dsimp only
   rw[if_pos (by omega)]
   exact wpS_pure ⟨rfl,.inr ⟨n1,pw,n2,i1,i2,i3,ht⟩⟩
 case p1=>
  rintro c st' ⟨rfl,ht⟩
  dsimp only
  refine wpS_bind (wpS_mono (wpS_forRange (I:=fun x c st2=>c=(none,())/\((x=0/\∃ n1 pw n2,1<=n1/\1<=n2/\n1+n2=n/\Two st st2 g n1 pw n2)∨(Fin st st2 g/\(pendingOf st2).size=1)))
   (Q:=fun c st2=>c=(none,())/\Fin st st2 g) ?s2 ?f2 ⟨rfl,?i2⟩) ?p2)
  case i2=>
   rcases ht with ho | ht
   ·refine .inr ⟨⟨ho.e,ho.f.trans hs.f,?_⟩,by rw[ho.p]; rfl⟩
    rw[ho.e.size_eq,en]
    exact ho.a
   ·exact .inl ⟨rfl,ht⟩
  case f2=>
   rintro c st2 ⟨rfl,⟨hx,_⟩ | ⟨hf,_⟩⟩
   ·omega
   ·exact⟨rfl,hf⟩
  case p2=>
   rintro c st2 ⟨rfl,hf⟩
   exact wpS_pure (h _ hf)
  case s2=>
   rintro x c st2 _ hx ⟨rfl,⟨rfl,n1,pw,n2,i1,i2,i3,ht⟩ | ⟨hf,hz1⟩⟩
   ·have z2:=ht.e.size_eq
    have hs2:Stt κ g U st2:=⟨ht.k.trans hs.k,ht.f.trans hs.f,hs.u.perm ht.e,hs.d.perm ht.e⟩
    refine wpS_bind (wpS_get ?_)
    have zp:(pendingOf st2).size=2:=by rw[ht.p]; rfl
    rw[if_neg (by omega)]
    rw[zp]
    rw[if_neg (by simp)]
    refine wpS_bind (w_mat hC hs2 ht.p i1 i2 (by omega) ht.a ht.b fun st3 hf3 hz3=>?_)
    rw[if_neg (by simp)]
    exact wpS_pure ⟨rfl,.inr ⟨⟨hf3.e.trans ht.e,hf3.f,hf3.a⟩,hz3⟩⟩
   ·refine wpS_bind (wpS_get ?_)
    rw[if_pos (by omega)]
    exact wpS_pure ⟨rfl,hf⟩
end
end L2.So
namespace L2.So
open PySem PyProof.Rows
variable{vs:List Value}
section
variable {prog:Program}{w:World}{A:Around}{E:Value->Shared->Prop}{s:Shared}{κ:SortKind}{g:Keyed->Int}{U:Keyed->Prop}
theorem jQ {p:Keyed} (h:p ∈ (pairsOf vs).toList):p.1=p.2/\p.2 ∈ vs:=by
 rw[pairsOf_toList] at h
 have:=mem_zip_self h
 exact⟨this.1,this.1 ▸ this.2⟩
theorem iJ (f:Keyed->Int):∀ vs:List Value,((vs.zip vs).map f)=vs.map fun v=>f (v,v)
 | []=>rfl
 | v::vs=>by rw[List.zip_cons_cons,wu,wu,iJ f vs]
theorem iD:∀ vs:List Value,((vs.zip vs).map (·.2))=vs
 | []=>rfl
 | v::vs=>by rw[List.zip_cons_cons,wu,iD vs]
theorem o8 {xs:Array Keyed} (h:xs.Perm (pairsOf vs)):(xs.map (·.2)).toList.Perm vs:=by
 rw[Array.toList_map]
 refine((Array.perm_iff_toList_perm.mp h).map _).trans ?_
 rw[pairsOf_toList,iD]
theorem qL {xs:Array Keyed} (h:xs.Perm (pairsOf vs)) (ha:Asc g xs 0 xs.size):(xs.map (·.2)).toList.Pairwise fun x y=>g (x,x)<g (y,y):=by
 have:=d0 ha
 unfold Srt at this
 rw[Array.toList_map,List.pairwise_map]
 have eq:∀ p ∈ xs.toList,(p.2,p.2)=p:=fun p hp=>by
  have:=jQ ((Array.perm_iff_toList_perm.mp h).mem_iff.mp hp)
  exact Prod.ext this.1.symm rfl
 refine List.Pairwise.imp_of_mem ?_ this
 intro x y hx hy hlt
 rw[eq x hx,eq y hy]
 exact hlt
theorem lsort {a:Addr}{n:Nat}{P:PySem.Fin->Shared->Prop} (ho:s.heap.get? a=some (seqObj "list" vs.toArray n)) (h128:vs.length<128)
  (hkind:∀ h',(∀ b o,b≠a->s.heap.get? b=some o->h'.get? b=some o)->2<=vs.length->∀ Q':SortKind->Shared->Prop,Q' κ { s with heap:=h' }->wpAny (model prog w) A (keyKind' vs.toArray) Q' E { s with heap:=h' })
  (hcmp:∀ h',(∀ b o,b≠a->s.heap.get? b=some o->h'.get? b=some o)->Cmp (model prog w) A { s with heap:=h' } κ g U)
  (hU:∀ v ∈ vs,U (v,v)) (hd:(vs.map fun v=>g (v,v)).Nodup)
  (h:∀ (out:List Value) c h',out.Perm vs->out.Pairwise (fun x y=>g (x,x)<g (y,y))->(∀ b o,b≠a->s.heap.get? b=some o->h'.get? b=some o)->h'.get? a=some (seqObj "list" out.toArray c)->P (.done (.ret .none)) { s with heap:=h' }) :
  wpAny (model prog w) A (Builtin.«list.sort» ⟨[.ref a],[]⟩) P E s:=by
 have ha:a<s.heap.objs.size:=Heap.lt_size ho
 have hz:∀ k:Nat,k<=1000000->k<=sizeLine:=fun k hk=>Nat.le_of_lt (sizeOk hk)
 rw[list_sort_plain]
 refine wpAny_bind (listItems_at ho rfl ?_)
 refine wpAny_bind (listUpdate_at ho rfl ?_ (hz _ (by rw[wp]; omega)) (Nat.zero_le _))
 obtain⟨e1,ho1⟩:∃ e1,(s.heap.update a (Obj.mapSeq fun _=>#[])).get? a=some (seqObj "list" #[] e1):=⟨_,get?_update_seq ho (fun _=>#[])⟩
 refine wpAny_bind (seqEpoch_at ho1 rfl ?_)
 refine wpAny_bind (wpAny_newTuple ?_ (hz _ (by show vs.length<=_; omega)))
 refine wpAny_bind (wpAny_newList ?_ (Nat.zero_le _))
 refine wpAny_holding ?_
 obtain⟨h6,e6⟩:∃ h6,((s.heap.update a (Obj.mapSeq fun _=>#[])).push (seqObj "tuple" vs.toArray 0)).push (seqObj "list" #[] 0)=h6:=⟨_,rfl⟩
 show wpAny (model prog w) A _ P E { s with heap:=((s.heap.update a (Obj.mapSeq fun _=>#[])).push (seqObj "tuple" vs.toArray 0)).push (seqObj "list" #[] 0) }
 rw[e6]
 have ho6:h6.get? a=some (seqObj "list" #[] e1):=by
  rw[<- e6,Heap.get?_push_ne _ _ _ (by rw[size_push',Heap.size_update]; exact Nat.ne_of_lt (Nat.lt_succ_of_lt ha)),Heap.get?_push_ne _ _ _ (by rw[Heap.size_update]; exact Nat.ne_of_lt ha)]
  exact ho1
 have kp6:∀ b o,b≠a->s.heap.get? b=some o->h6.get? b=some o:=fun b o hb e=>by
  rw[<- e6]
  exact Heap.get?_push_of_some _ (Heap.get?_push_of_some _ (by rw[Heap.get?_update_ne _ _ _ _ hb]; exact e))
 have fin:∀ xs:Array Keyed,xs.Perm (pairsOf vs)->Asc g xs 0 xs.size->P (.done (.ret .none)) { s with heap:=h6.update a (Obj.mapSeq fun _=>xs.map (·.2)) }:=fun xs hp hs=>by
  have e7:=get?_update_seq ho6 (fun _=>xs.map (·.2))
  have e8:seqObj "list" (xs.map (·.2))=seqObj "list" (xs.map (·.2)).toList.toArray:=by rw[Array.toArray_toList]
  rw[e8] at e7
  exact h (xs.map (·.2)).toList _ _ (o8 hp) (qL hp hs) (fun b o hb e=>by rw[Heap.get?_update_ne _ _ _ _ hb]; exact kp6 b o hb e) e7
 dsimp only
 by_cases h2:vs.toArray.size<2
 ·rw[if_pos h2,if_pos h2]
  rw[wp] at h2
  refine wpAny_bind (wpAny_pure ?_)
  rw[StateT.run_pure]
  refine wpAny_bind (wpAny_pure ?_)
  dsimp only
  refine wpAny_bind (seqEpoch_at ho6 rfl ?_)
  refine wpAny_bind (listUpdate_at ho6 rfl ?_ (Nat.zero_le _) (Nat.le_succ_of_le (hz _ (by rw[Array.size_map]; show(pairsOf vs).size<=_; rw[pairsOf_size]; omega))))
  simp only[bne_self_eq_false,Bool.false_eq_true,if_false]
  refine wpAny_pure (fin (pairsOf vs) (Array.Perm.refl _) ?_)
  intro i j _ hij hj
  rw[pairsOf_size] at hj
  omega
 ·rw[if_neg h2,if_neg h2]
  rw[wp] at h2
  refine wpAny_bind (hkind h6 kp6 (by omega) _ ?_)
  have hs:Stt κ g U (SortSt.mk' κ (pairsOf vs) #[] 7 none):=by
   refine⟨rfl,rfl,fun i p hp=>?_,?_⟩
   ·have hm:p ∈ (pairsOf vs).toList:=by rw[Array.mem_toList_iff]; exact Array.mem_of_getElem? hp
    obtain⟨e1,e2⟩:=jQ hm
    have:=hU p.2 e2
    rw[show(p.2,p.2)=p from Prod.ext e1.symm rfl] at this
    exact this
   ·refine dis_iff.mpr ?_
    show((pairsOf vs).toList.map g).Nodup
    rw[pairsOf_toList,iJ]
    exact hd
  refine wpAny_bind (wpAny_mono (tj (st:=SortSt.mk' κ (pairsOf vs) #[] 7 none) (Q:=fun _ st'=>Fin (SortSt.mk' κ (pairsOf vs) #[] 7 none) st' g) (hcmp h6 kp6) hs rfl (by show 2<=(pairsOf vs).size; rw[pairsOf_size]; omega) (by show(pairsOf vs).size<128; rw[pairsOf_size]; omega) fun st' hf=>hf) ?_ fun _ _ e=>e)
  rintro⟨⟨⟩,st'⟩ s' ⟨rfl,hf⟩
  dsimp only
  have zf:=hf.e.size_eq
  refine wpAny_bind (seqEpoch_at ho6 rfl ?_)
  refine wpAny_bind (listUpdate_at ho6 rfl ?_ (Nat.zero_le _) (Nat.le_succ_of_le (hz _ (by rw[Array.size_map,zf]; show(pairsOf vs).size<=_; rw[pairsOf_size]; omega))))
  rw[hf.f]
  simp only[bne_self_eq_false,Bool.false_eq_true,if_false]
  exact wpAny_pure (fin (arrOf st') hf.e hf.a)
noncomputable def pk (i j:Int):Int:=i*1000000+j
noncomputable def hk (h:Heap) (v:Value):Int:=match v with
 | .ref a=>(match h.get? a with
  | some o=>(match o.data with
   | .seq xs _=>(match xs.toList with
    | [.int i _,.int j _]=>pk i j
    | _=>0)
   | _=>0)
  | none=>0)
 | _=>0
noncomputable def isP (h:Heap) (v:Value):Prop:=∃ a o i j t u n,v=.ref a/\h.get? a=some o/\o.cls=.type "tuple" /\ o.data=.seq #[.int i t,.int j u] n/\0<=j/\j<1000000
theorem hk_eq {h:Heap}{a:Addr}{o:Obj}{i j:Int}{t u:Tok}{n:Nat} (e:h.get? a=some o) (d:o.data=.seq #[.int i t,.int j u] n):hk h (.ref a)=pk i j:=by
 unfold hk
 simp only[e,d]
theorem pk_lt {i j i' j':Int} (h1:0<=j) (h2:j<1000000) (h3:0<=j') (h4:j'<1000000):decide (pk i j<pk i' j')=if i == i' then decide (j<j') else decide (i<i'):=by
 unfold pk
 by_cases e:i=i'
 ·subst e
  rw[if_pos (beq_self_eq_true i)]
  exact decide_eq_decide.mpr (by omega)
 ·rw[if_neg (by simpa using e)]
  exact decide_eq_decide.mpr (by omega)
theorem nH {h0:Heap}{a:Addr} (ha:∀ v,isP h0 v->v≠.ref a) (h':Heap) (kp:∀ b o,b≠a->h0.get? b=some o->h'.get? b=some o):Cmp (model prog w) A { s with heap:=h' } (tuples' true) (fun p=>hk h0 p.1) (fun p=>isP h0 p.1):=by
 intro x y hx hy Q hq
 obtain⟨x1,x2⟩:=x
 obtain⟨y1,y2⟩:=y
 have nx:=ha _ hx
 have ny:=ha _ hy
 obtain⟨b,o,i,j,t,u,n,rfl,e1,_,d1,b1,b2⟩:=hx
 obtain⟨c,o',i',j',t',u',n',rfl,e2,_,d2,b3,b4⟩:=hy
 dsimp only at nx ny ⊢
 have hq:Q (decide (hk h0 (.ref b)<hk h0 (.ref c))):=hq
 rw[hk_eq e1 d1,hk_eq e2 d2,pk_lt b1 b2 b3 b4] at hq
 have nx':b≠a:=fun e=>nx (by rw[e])
 have ny':c≠a:=fun e=>ny (by rw[e])
 refine PySem.W.kat_lt (s:={ s with heap:=h' }) (kp b o nx' e1) d1 (kp c o' ny' e2) d2 ?_
 refine PySem.W.kat_cons (wpAny_eqBool_int ?_)
 cases e:i == i' with
 | true=>
  rw[e,if_pos rfl] at hq
  refine PySem.W.kat_yes (PySem.W.kat_cons (wpAny_eqBool_int ?_))
  cases e':j == j' with
  | true=>
   refine PySem.W.kat_yes (PySem.W.kat_nil ⟨rfl,?_⟩)
   have:j=j':=by simpa using e'
   subst this
   simpa using hq
  | false=>
   refine PySem.W.kat_no (PySem.W.kat_one _ _ (PyProof.Rows.lt_int ?_))
   exact⟨rfl,hq⟩
 | false=>
  rw[e,if_neg (by simp)] at hq
  refine PySem.W.kat_no ?_
  exact oneLt_int ⟨rfl,hq⟩
theorem lu {h0:Heap}{a:Addr} (ha:∀ v,isP h0 v->v≠.ref a) {h':Heap} (kp:∀ b o,b≠a->h0.get? b=some o->h'.get? b=some o):∀ vs:List Value,(∀ v ∈ vs,isP h0 v)->∃ fs,PySem.W.KatTups h' vs fs/\fs.length=vs.length/\∀ f ∈ fs,∃ i t,f=.int i t
 | [],_=>⟨[],trivial,rfl,fun _ h=>by cases h⟩
 | v::vs,hv=>by
  obtain⟨fs,h1,h2,h3⟩:=lu ha kp vs fun x hx=>hv x (wc _ hx)
  have nv:=ha v (hv v we)
  obtain⟨b,o,i,j,t,u,n,rfl,e1,c1,d1,_,_⟩:=hv v we
  refine⟨.int i t::fs,PySem.W.KatTups.cons (kp b o (fun e=>nv (by rw[e])) e1) c1 d1 rfl h1,by rw[wl,wl,h2],fun f hf=>?_⟩
  rcases wt.mp hf with rfl | hf
  ·exact⟨i,t,rfl⟩
  ·exact h3 f hf
theorem kS {h0:Heap}{a:Addr} (ha:∀ v,isP h0 v->v≠.ref a) {h':Heap} (kp:∀ b o,b≠a->h0.get? b=some o->h'.get? b=some o) (hv:∀ v ∈ vs,isP h0 v) (h2:2<=vs.length) {Q':SortKind->Shared->Prop}
  (h:Q' (tuples' true) { s with heap:=h' }):wpAny (model prog w) A (keyKind' vs.toArray) Q' E { s with heap:=h' }:=by
 obtain⟨fs,t,hl,hi⟩:=lu ha kp vs hv
 refine PySem.W.kat_kind (T:=.type "int") t (by omega) (fun v hv'=>?_) (by rfl) h
 obtain⟨i,t,rfl⟩:=hi v hv'
 exact PySem.W.Looks.of_pure rfl
theorem sorted_pairs {x:Value}{s2:Shared}{Q:Value->Shared->Prop} (hcol:∀ (A:Around) (E:Value->Shared->Prop) (Q':List Value->Shared->Prop),Q' vs s2->wpAny (model prog w) A (collect x) Q' E s)
  (kp2:∀ b o,s.heap.get? b=some o->s2.heap.get? b=some o) (big:s.heap.objs.size<=s2.heap.objs.size) (h128:vs.length<128) (hv:∀ v ∈ vs,isP s.heap v) (hd:(vs.map (hk s.heap)).Nodup)
  (h:∀ D (out:List Value) c h',s.heap.objs.size<=D->out.Perm vs->out.Pairwise (fun x y=>hk s.heap x<hk s.heap y)->(∀ b o,s.heap.get? b=some o->h'.get? b=some o)->h'.get? D=some (seqObj "list" out.toArray c)->Q (.ref D) { s2 with heap:=h' }) :
  wpAny (model prog w) A (call (.builtin "sorted") [x]) Q E s:=by
 refine Calls.call_function_entry kind_sorted plain_sorted entry_sorted (args_sorted1 _) ?_
 unfold Builtin.«sorted»
 refine wpAny_bind (m:=checkCount "sorted" 1 1 _) (wpAny_pure ?_)
 refine wpAny_bind (hcol _ _ _ ?_)
 refine wpAny_bind (wpAny_newList ?_ (Nat.le_of_lt (sizeOk (by omega))))
 have hoL:(s2.heap.push (seqObj "list" vs.toArray 0)).get? s2.heap.objs.size=some (seqObj "list" vs.toArray 0):=Heap.get?_push_size _ rfl
 have na:∀ v,isP s.heap v->v≠.ref s2.heap.objs.size:=fun v hv e=>by
  obtain⟨b,o,i,j,t,u,n,rfl,e1,_⟩:=hv
  cases e
  exact absurd (Nat.lt_of_lt_of_le (Heap.lt_size e1) big) (Nat.lt_irrefl _)
 have kp3:∀ {h':Heap},(∀ b o,b≠s2.heap.objs.size->(s2.heap.push (seqObj "list" vs.toArray 0)).get? b=some o->h'.get? b=some o)->∀ b o,b≠s2.heap.objs.size->s.heap.get? b=some o->h'.get? b=some o:=fun k b o hb e=>k b o hb (Heap.get?_push_of_some _ (kp2 b o e))
 refine wpAny_bind (wpAny_holding (wpAny_call_entry slot_list_sort ⟨_,hoL,rfl⟩ entry_list_sort (lsort (s:={ s2 with heap:=s2.heap.push (seqObj "list" vs.toArray 0) }) (κ:=tuples' true) (g:=fun p=>hk s.heap p.1) (U:=fun p=>isP s.heap p.1) hoL h128 (fun h' kp h2 Q' hq=>kS na (kp3 kp) hv h2 hq) (fun h' kp=>nH na h' (kp3 kp)) hv hd fun out c h' hp ho kp e=>⟨_,rfl,?_⟩) (args_list_sort _)))
 exact wpAny_pure ⟨_,rfl,h _ out c h' big hp ho (fun b o e'=>kp3 kp b o (fun q=>by subst q; exact absurd (Nat.lt_of_lt_of_le (Heap.lt_size e') big) (Nat.lt_irrefl _)) e') e⟩
end
theorem perm_lift {α β:Type} (f:α->β) {a b:List β} (h:a.Perm b):∀ ps:List α,b=ps.map f->∃ qs:List α,qs.Perm ps/\a=qs.map f:=by
 induction h with
 | nil=>intro ps e; exact⟨[],by cases ps <;> simp_all,rfl⟩
 | cons x _ ih=>
  intro ps e
  cases ps with
  | nil=>cases e
  | cons p ps=>
   rw[wu] at e
   injection e with e1 e2
   obtain⟨qs,h1,h2⟩:=ih ps e2
   exact⟨p::qs,h1.cons p,by rw[wu,h2,e1]⟩
 | swap x y l=>
  intro ps e
  match ps,e with
  | p::q::ps,e=>
   rw[wu,wu] at e
   injection e with e1 e2
   injection e2 with e2 e3
   exact⟨q::p::ps,List.Perm.swap _ _ _,by rw[wu,wu,e1,e2,e3]⟩
 | trans _ _ ih1 ih2=>
  intro ps e
  obtain⟨qs,h1,h2⟩:=ih2 ps e
  obtain⟨rs,h3,h4⟩:=ih1 qs h2
  exact⟨rs,h3.trans h1,h4⟩
theorem pk_inj {i j i' j':Int} (h1:0<=j) (h2:j<1000000) (h3:0<=j') (h4:j'<1000000) (e:pk i j=pk i' j'):(i,j)=(i',j'):=by
 unfold pk at e
 obtain rfl:i=i':=by omega
 obtain rfl:j=j':=by omega
 rfl
end L2.So
namespace L2
open PySem PySem.Spec PyProof.Rows
noncomputable abbrev Pr:=Addr×Int×Int
structure PrOk (K:PySem.W.Frag) (H:Hp) (ps:List Pr):Prop where
 t:∀ z ∈ ps,SqT K H z.1 [.int z.2.1,.int z.2.2]
 b:∀ z ∈ ps,0<=z.2.2/\z.2.2<1000000
 d:(ps.map (·.2)).Nodup
 l:ps.length<128
noncomputable def prV (ps:List Pr):List V:=ps.map fun z=>.ref z.1
noncomputable def va (x y:Pr):Prop:=So.pk x.2.1 x.2.2<So.pk y.2.1 y.2.2
section
variable {X:Cx}
theorem lL:∀ (ps:List Pr) {its:List Value},Vals (prV ps) its->its=ps.map fun z=>Value.ref z.1
 | [],_,r=>by cases r; rfl
 | z::ps,_,r=>by
  cases r with
  | cons h r=>rw[lL ps r,show _=Value.ref z.1 from h]; rfl
theorem i6 {pins} {s:Shared}{σ:St}{H:Hp} (I:Inv X pins σ H s) {ps:List Pr} (ok:PrOk X.K H ps):∀ z ∈ ps,So.isP s.heap (.ref z.1)/\So.hk s.heap (.ref z.1)=So.pk z.2.1 z.2.2:=by
 intro z hz
 obtain⟨its,rv,⟨o,ho,hc,n,hd⟩,_⟩:=I.tuple (ok.t z hz)
 cases rv with
 | cons h1 r1=>
  cases r1 with
  | cons h2 r2=>
   cases r2
   obtain⟨t,rfl⟩:=h1
   obtain⟨u,rfl⟩:=h2
   exact⟨⟨z.1,o,z.2.1,z.2.2,t,u,n,U,ho,hc,hd,(ok.b z hz).1,(ok.b z hz).2⟩,So.hk_eq ho hd⟩
theorem oU {pins} {s:Shared}{σ:St}{H:Hp} (I:Inv X pins σ H s) {ps:List Pr} (ok:PrOk X.K H ps):((ps.map fun z=>Value.ref z.1).map (So.hk s.heap)).Nodup:=by
 rw[wD]
 have e:ps.map (So.hk s.heap ∘ fun z=>Value.ref z.1)=ps.map fun z=>So.pk z.2.1 z.2.2:=List.map_congr_left fun z hz=>(i6 I ok z hz).2
 rw[e]
 have hd:=ok.d
 unfold List.Nodup at hd ⊢
 rw[List.pairwise_map] at hd ⊢
 refine List.Pairwise.imp_of_mem ?_ hd
 intro x y hx hy hne e
 have:=So.pk_inj (ok.b x hx).1 (ok.b x hx).2 (ok.b y hy).1 (ok.b y hy).2 e
 exact hne (by exact this)
theorem mN {pins} {s s2:Shared}{σ:St}{H:Hp}{x:Value}{Q:VK} (I:Inv X pins σ H s) {ps:List Pr} (ok:PrOk X.K H ps)
  (hcol:∀ (A:Around) (E:Value->Shared->Prop) (Q':List Value->Shared->Prop),Q' (ps.map fun z=>Value.ref z.1) s2->wpAny (model X.prog X.w) A (collect x) Q' E s)
  (kp2:∀ b o,s.heap.get? b=some o->s2.heap.get? b=some o) (big:s.heap.objs.size<=s2.heap.objs.size) (e2:∃ h2,s2={ s with heap:=h2 })
  (q:∀ l qs,H l=none->qs.Perm ps->qs.Pairwise va->Q (.ref l) (upd H l (.lst (prV qs)))):wpAny (model X.prog X.w) X.A (call (.builtin "sorted") [x]) (EP X pins σ Q) X.xe s:=by
 obtain⟨h2,rfl⟩:=e2
 refine So.sorted_pairs hcol kp2 big (by rw[v9]; exact ok.l) (fun v hv=>?_) (oU I ok) fun D out c h' hD hp ho kp e=>?_
 ·obtain⟨z,hz,rfl⟩:=wv.mp hv
  exact(i6 I ok z hz).1
 obtain⟨qs,hq1,rfl⟩:=So.perm_lift _ hp ps rfl
 refine⟨.ref D,_,I.laid (t':=s.toks) kp hD (show ObjOk X.prog X.w _ h' _ (.lst (prV qs)) from⟨?_,_,c,?_,e⟩),U,q D qs (I.hok.fresh hD) hq1 ?_⟩
 ·unfold prV
  rw[v9,hq1.length_eq]
  exact Nat.le_of_lt (sizeOk (by have:=ok.l; omega))
 ·unfold prV
  have:∀ l:List Pr,Vals (l.map fun z=>V.ref z.1) (l.map fun z=>Value.ref z.1):=fun l=>by
   induction l with
   | nil=>exact .nil
   | cons a l ih=>exact .cons rfl ih
  exact this qs
 ·rw[List.pairwise_map] at ho
  refine List.Pairwise.imp_of_mem ?_ ho
  intro a b ha hb hlt
  rw[(i6 I ok a (hq1.mem_iff.mp ha)).2,(i6 I ok b (hq1.mem_iff.mp hb)).2] at hlt
  exact hlt
theorem jw:cD X (.builtin "sorted") (fun xs H Q=>∃ a ps,xs=[.ref a]/\SqL X.K H a (prV ps)/\PrOk X.K H ps/\∀ l qs,H l=none->qs.Perm ps->qs.Pairwise va->Q (.ref l) (upd H l (.lst (prV qs)))):=by
 intro pins s σ H xs us Q I r h
 obtain⟨a,ps,rfl,hq,ok,q⟩:=h
 obtain⟨u,rfl,ru⟩:=cS r
 cases (show u=Value.ref a from ru)
 obtain⟨its,rv,p,hz⟩:=I.list hq
 have ei:=lL ps rv
 subst ei
 refine mN I ok (fun A E Q' hq'=>collect_list p.isList hq' ?_) (fun b o e=>?_) ?_ ⟨_,U⟩ q
 ·rw[v9]; exact Nat.le_of_lt (sizeOk (by have:=ok.l; omega))
 ·have hlt:b≠s.heap.objs.size:=Nat.ne_of_lt (Heap.lt_size e)
  show((s.heap.push _).update _ _).get? b=_
  rw[Heap.get?_update_ne _ _ _ _ hlt]
  exact Heap.get?_push_of_some _ e
 ·show _<=((s.heap.push _).update _ _).objs.size
  rw[Heap.size_update,size_push']
  exact Nat.le_succ _
end
end L2
namespace L2.So
open PySem
noncomputable def EA (h:Heap) (d:Addr) (es:Array DictEntry) (ep:Nat):Prop:=∃ o,h.get? d=some o/\o.ExactDict/\o.data=.dict es ep
section
variable {prog:Program}{w:World}{A:Around}{E:Value->Shared->Prop}{s:Shared}{d it:Addr}{es:Array DictEntry}{ep i:Nat}
theorem EA.ty (h:EA s.heap d es ep):s.TypeIs (.ref d) "dict":=let ⟨o,e,c,_⟩:=h; ⟨o,e,c.1⟩
theorem rA (lo:(d == sysModules)=false) (h:EA s.heap d es ep) {Q:Value->Shared->Prop}
  (q:Q (.ref s.heap.objs.size) { s with heap:=s.heap.push { cls:=.type "dict_keyiterator",data:=.fields #[.ref d,.int 0 0,.int es.size 0,.int ep 0] } }):wpAny (model prog w) A (pyIter (.ref d)) Q E s:=by
 have ty:=h.ty
 obtain⟨o,e,_,dt⟩:=h
 refine wpAny_pyIter_slot ty F.slot_dict_iter (wpAny_call_entry F.slot_dict_iter ty F.entry_dict_iter ?body (F.args_dict_iter_1 _))
 case body=>
  show wpAny _ _ (Builtin.Dict.dictSlotNone _ _ >>= _) _ _ s
  refine wpAny_bind (show wpAny _ _ (Builtin.Dict.dictSlotNone _ _) _ _ s from ?_)
  unfold Builtin.Dict.dictSlotNone
  refine wpAny_bind (wpAny_notOrdered_dict ty (show wpAny _ _ (pure (Value.ref d)) _ _ s from wpAny_pure ?_))
  refine wpAny_bind (wpAny_pure (show wpAny _ _ (Builtin.Dict.showsAll d >>= _) _ _ s from ?_))
  unfold Builtin.Dict.showsAll
  rw[if_neg (by rw[lo]; simp)]
  refine wpAny_bind (wpAny_pure (wpAny_bind (wpAny_dictEntries e dt (wpAny_bind (wpAny_dictEpoch e dt ?_)))))
  refine wpAny_bind (wpAny_newObj_type (wpAny_pure ⟨_,rfl,"dict_keyiterator",_,⟨_,Heap.get?_push_size _ rfl,rfl⟩,F.slot_dict_keyiterator_next.lookup,?_⟩))
  simpa [rawInt] using q
theorem rB (hit:s.heap.IsKeyIter it d i es.size ep) (h:EA s.heap d es ep) (hi:i<es.size) {Q:Option Value->Shared->Prop}
  (q:∀ h',h'.IsKeyIter it d (i+1) es.size ep->Heap.SameBut it s.heap h'->Q (some es[i].key) { s with heap:=h' }):wpAny (model prog w) A (pyNext (.ref it)) Q E s:=by
 have ty:=hit.typeIs
 obtain⟨o,e,c,dt⟩:=id hit
 obtain⟨o2,e2,_,dt2⟩:=h
 unfold pyNext
 refine wpAny_bind (wpAny_attempt (wpAny_callSpecial?_slot (name:=Str.ofString "__next__") ty F.slot_dict_keyiterator_next (wpAny_call_entry F.slot_dict_keyiterator_next ty F.entry_dict_keyiterator_next ?body (F.args_dict_keyiterator_next_1 _))))
 case body=>
  refine wpAny_bind (wpAny_pure (wpAny_bind (wpAny_bind ?_)))
  refine wpAny_bind (wpAny_typeNameOfWhole_keyiter ty (wpAny_pure (wpAny_bind (wpAny_fieldsOf e dt ?_))))
  have own:Builtin.Dict_items.ownsTuple "dict_keyiterator" = false:=by decide
  simp only[own,Bool.false_eq_true,if_false]
  show wpAny _ _ (if (Value.ref d == Value.none)=true then _ else _) _ _ s
  rw[if_neg (show ¬ ((Value.ref d == Value.none)=true) from Bool.false_ne_true)]
  refine wpAny_bind (wpAny_pure (wpAny_bind (wpAny_dictEntries e2 dt2 ?_)))
  rw[if_neg (by simp)]
  refine wpAny_bind (wpAny_pure (wpAny_bind (wpAny_dictEpoch e2 dt2 ?_)))
  rw[if_neg (by simp)]
  refine wpAny_pure ?_
  simp only[show ¬ ((i:Int)<0) from by omega,if_false,Int.toNat_natCast,Array.getElem?_eq_getElem hi]
  refine wpAny_bind (wpAny_bind (wpAny_typeNameOfWhole_keyiter ty (wpAny_pure ?_)))
  refine wpAny_bind (wpAny_isOneOf_keyiter ty ?_)
  show wpAny _ _ (setField (.ref it) 1 (rawInt ((i:Int)+1)) >>= _) _ _ s
  refine wpAny_bind (wpAny_setField e dt (by simp) ?_)
  have hit2:(s.heap.update it (Obj.mapFields (·.setIfInBounds 1 (rawInt ((i:Int)+1))))).IsKeyIter it d (i+1) es.size ep :=
   ⟨_,Heap.get?_update_self _ e (Obj.isFreed_of_fields (Obj.data_mapFields dt _)),(Obj.cls_mapFields ..).trans c,by rw[Obj.data_mapFields dt]; simp[rawInt]⟩
  refine wpAny_bind (wpAny_holding (wpAny_bind (wpAny_isOneOf_keyiter (s:={ s with heap:=s.heap.update it (Obj.mapFields (·.setIfInBounds 1 (rawInt ((i:Int)+1)))) }) hit2.typeIs ?_)))
  exact wpAny_pure (wpAny_pure ⟨_,rfl,wpAny_pure (q _ hit2 (Heap.SameBut.update ..))⟩)
theorem uK (hh:A.handled=none) (hit:s.heap.IsKeyIter it d es.size es.size ep) (h:EA s.heap d es ep) {Q:Option Value->Shared->Prop}
  (q:∀ h',Heap.ExtBut it s.heap h'->Q none { s with heap:=h' }):wpAny (model prog w) A (pyNext (.ref it)) Q E s:=by
 have ty:=hit.typeIs
 obtain⟨o,e,c,dt⟩:=id hit
 obtain⟨o2,e2,_,dt2⟩:=h
 unfold pyNext
 refine wpAny_bind (wpAny_attempt (wpAny_callSpecial?_slot (name:=Str.ofString "__next__") ty F.slot_dict_keyiterator_next (wpAny_call_entry F.slot_dict_keyiterator_next ty F.entry_dict_keyiterator_next ?body (F.args_dict_keyiterator_next_1 _))))
 case body=>
  refine wpAny_bind (wpAny_pure (wpAny_bind (wpAny_bind ?_)))
  refine wpAny_bind (wpAny_typeNameOfWhole_keyiter ty (wpAny_pure (wpAny_bind (wpAny_fieldsOf e dt ?_))))
  have own:Builtin.Dict_items.ownsTuple "dict_keyiterator" = false:=by decide
  simp only[own,Bool.false_eq_true,if_false]
  show wpAny _ _ (if (Value.ref d == Value.none)=true then _ else _) _ _ s
  rw[if_neg (show ¬ ((Value.ref d == Value.none)=true) from Bool.false_ne_true)]
  refine wpAny_bind (wpAny_pure (wpAny_bind (wpAny_dictEntries e2 dt2 ?_)))
  rw[if_neg (by simp)]
  refine wpAny_bind (wpAny_pure (wpAny_bind (wpAny_dictEpoch e2 dt2 ?_)))
  rw[if_neg (by simp)]
  refine wpAny_pure ?_
  simp only[show ¬ ((es.size:Int)<0) from by omega,if_false,Int.toNat_natCast,Array.getElem?_eq_none (Nat.le_refl es.size)]
  refine wpAny_bind (wpAny_bind (wpAny_typeNameOfWhole_keyiter ty (wpAny_pure ?_)))
  show wpAny _ _ (setField (.ref it) 0 .none >>= _) _ _ s
  refine wpAny_bind (wpAny_setField e dt (by simp) ?_)
  show wpAny _ _ (newExc (.type "StopIteration") [] >>= _) _ _ _
  refine wpAny_bind ?_
  simp only[newExc,newTuple]
  refine wpAny_bind (wpAny_newObj_type ?_ (by size_fits))
  refine wpAny_bind (m:=firstArgMember _ _) (wpAny_of_eq (a:=Value.none) rfl ?_)
  refine wpAny_newObj_type ?_ (by size_fits)
  simp only[raiseNew]
  refine wpAny_bind (wpAny_handled ?_)
  rw[show A.in1.handled=none from hh]
  refine wpAny_bind (wpAny_pure (wpAny_throw ?_))
  refine wpAny_bind (wpAny_isInstance (T := "StopIteration") (b:=true) ⟨_,Heap.get?_push_size _ rfl,rfl⟩ isSubtype_stop ?_)
  exact wpAny_pure (q _ (((Heap.SameBut.update ..).extBut.push _).push _))
theorem EA.to {h h':Heap} (x:EA h d es ep) (k:∀ o,h.get? d=some o->h'.get? d=some o):EA h' d es ep:=let ⟨o,e,r⟩:=x; ⟨o,k o e,r⟩
theorem p4 (hh:A.handled=none) (I d:Addr) (hne:d≠I) (es:Array DictEntry) (ep:Nat) :
  Walks prog w A I [I,d] [I] es.size (fun i v=>∃ h:i<es.size,v=es[i].key) (fun i h=>h.IsKeyIter I d i es.size ep/\EA h d es ep) where
 sub:=fun b hb=>by simp at hb; simp[hb]
 frame:=fun _ _ _ st hk=>⟨let ⟨o,e,r⟩:=st.1; ⟨o,hk I (by simp) o e,r⟩,st.2.to fun o e=>hk d (by simp) o e⟩
 item:=fun i s Q E hi st hQ=>rB st.1 st.2 hi fun h' k1 k2=>hQ _ h' s.toks ⟨hi,rfl⟩ ⟨k1,st.2.to fun o e=>k2.extBut d o hne e⟩ fun b o hb e=>k2.extBut b o (fun h=>hb (by simp[h])) e
 done:=fun s Q E st hQ=>uK hh st.1 st.2 fun h' k=>hQ h' s.toks fun b o hb e=>k b o (fun h=>hb (by simp[h])) e
 self:=fun _ _ _ _ st hQ=>wpAny_pyIter_keyiter st.1 hQ
theorem ea_src (lo:(d == sysModules)=false):PySem.W.KdlSrc prog w "dict" d d es.size (fun i v=>∃ h:i<es.size,v=es[i].key) (fun h=>EA h d es ep) where
 type:=fun s hm=>EA.ty hm
 there:=fun _ hm=>let ⟨_,e,_⟩:=hm; ⟨Heap.lt_size e,Heap.lt_size e⟩
 keep:=fun _ _ hm hk=>hm.to fun o e=>hk d (.inl rfl) o e
 notList:=by decide
 notTuple:=by decide
 hint:=fun _ _ _ _ hm hq=>PySem.W.kdl_hint_dict (EA.ty hm) hq
 iter:=fun A s hh hm=>⟨_,_,(fun _ _ hq=>rA lo hm hq),p4 hh _ d (Nat.ne_of_lt (let ⟨_,e,_⟩:=hm; Heap.lt_size e)) es ep,⟨⟨_,Heap.get?_push_size _ rfl,rfl,rfl⟩,hm.to fun o e=>Heap.get?_push_of_some _ e⟩⟩
end
end L2.So
namespace L2
open PySem PySem.Spec PyProof.Rows
section
variable {X:Cx}
theorem gH {α β:Type}{R:α->β->Prop}:∀ {xs:List α}{ys:List β},Paired R xs ys->xs.length=ys.length/\∀ (i:Nat) x y,xs[i]?=some x->ys[i]?=some y->R x y
 | _,_,.nil=>⟨U,fun i x y h=>by simp at h⟩
 | _,_,.cons h r=>by
  obtain⟨l,g⟩:=gH r
  refine⟨by rw[wl,wl,l],fun i x y h1 h2=>?_⟩
  cases i with
  | zero=>cases h1; cases h2; exact h
  | succ i=>exact g i x y h1 h2
theorem jx (hc:X.calm=true):cD X (.type "list") (fun xs H Q=>∃ (p:Addr) (kvs:List (List Key×V)),xs=[.ref p]/\H p=some (.dT kvs)/\∀ l (as:List Addr),H l=none->as.length=kvs.length->(kvs.map (·.1)).Nodup->(∀ (i:Nat) k v a,kvs[i]?=some (k,v)->as[i]?=some a->H a=some (.tup (k.map kV)))->Q (.ref l) (upd H l (.lst (as.map V.ref)))):=by
 intro pins s σ H xs us Q I r h
 obtain⟨p,kvs,rfl,hp,q⟩:=h
 obtain⟨u,rfl,ru⟩:=cS r
 cases (show u=Value.ref p from ru)
 obtain⟨z,lo,zs,pr,o,es,ep,g1,g2,g3,g4,g5⟩:=(show ObjOk X.prog X.w H s.heap p (.dT kvs) from I.hok p _ hp)
 obtain⟨len,get⟩:=gH pr
 have sz:es.size=kvs.length:=by rw[<- Array.length_toList,g4,v9,len]
 refine PySem.W.kdl_call (So.ea_src (es:=es) (ep:=ep) lo) (I.ok.hd hc) ⟨o,g1,g2,g3⟩ (by rw[sz]; exact z) fun h' tk acc c hk hS hi=>?_
 have key:∀ (i:Nat) (h:i<es.size) y,zs[i]?=some y->es[i].key=.ref y.2.1:=fun i h y hy=>by
  have e:es.toList[i]?=some es[i]:=by rw[Array.getElem?_toList,Array.getElem?_eq_getElem h]
  rw[g4,wd,hy] at e
  rw[<- Option.some.inj e]
  rfl
 refine⟨.ref s.heap.objs.size,_,I.laid hk (Nat.le_refl _) (show ObjOk X.prog X.w _ h' _ (.lst ((zs.map (·.2.1)).map V.ref)) from⟨?_,acc.toList,c,?_,by rw[Array.toArray_toList]; exact hS⟩),U,q _ (zs.map (·.2.1)) (I.hok.fresh (Nat.le_refl _)) (by rw[v9,len]) ?_ fun i k v a h1 h2=>?_⟩
 ·rw[v9,v9,<- len]; exact z
 ·refine cV (P:=fun i v=>∃ h:i<es.size,v=es[i].key) (by rw[v9,v9,Array.length_toList,hi.1,sz,len]) (fun i v e=>hi.2 i v (by simpa using e)) (fun i v x ⟨h,e1⟩ ex=>?_)
  rw[wd,wd] at ex
  cases hy:zs[i]? with
  | none=>rw[hy] at ex; cases ex
  | some y=>
   rw[hy] at ex
   cases ex
   rw[e1,key i h y hy]
   exact rfl
 ·have e:kvs.map (·.1)=zs.map (·.1):=List.ext_getElem? fun i=>by
   rw[wd,wd]
   cases h1:kvs[i]? with
   | none=>rw[List.getElem?_eq_none (by rw[<- len]; exact List.getElem?_eq_none_iff.mp h1)]; rfl
   | some x=>
    have hl:=(List.getElem?_eq_some_iff.mp h1).1
    have h2:=wa (l:=zs) (i:=i) (by rw[<- len]; exact hl)
    rw[h2]
    exact congrArg some (get i _ _ h1 h2).1
  rw[e]
  exact g5
 ·rw[wd] at h2
  obtain⟨y,hy,rfl⟩:=Option.map_eq_some_iff.mp h2
  exact(get i _ y h1 hy).2.1
end
end L2
set_option maxHeartbeats 4000000
namespace P
open PySem L2
noncomputable def top (i:Nat):Stmt:=PySem.Challenge.pw_lazyrails_k50_whole_yards_read_back.main.body.getD i (.Pass ⟨0,0,0,0⟩)
noncomputable abbrev sf:Stmt:=top 77
noncomputable abbrev lF:Stmt:=top 55
noncomputable abbrev sG:Stmt:=top 74
noncomputable abbrev r9:Stmt:=top 70
noncomputable abbrev lG:Stmt:=top 64
noncomputable abbrev oI:Stmt:=top 61
noncomputable abbrev lC:Stmt:=top 60
noncomputable abbrev oH:Stmt:=top 62
noncomputable abbrev sk:Stmt:=top 66
noncomputable abbrev oJ:Stmt:=top 65
noncomputable abbrev sj:Stmt:=top 67
noncomputable abbrev oF:Stmt:=top 69
noncomputable abbrev lB:Stmt:=top 71
noncomputable abbrev se:Stmt:=top 52
noncomputable abbrev vt:Stmt:=top 51
noncomputable abbrev su:Stmt:=top 31
noncomputable abbrev vq:Stmt:=top 28
noncomputable abbrev sr:Stmt:=top 26
noncomputable abbrev sF:Stmt:=top 27
noncomputable abbrev vF:Stmt:=top 29
noncomputable abbrev vM:Stmt:=top 32
noncomputable abbrev oE:Stmt:=top 68
noncomputable abbrev sn:Stmt:=top 63
noncomputable abbrev tM:Stmt:=top 41
noncomputable abbrev vK:Stmt:=top 44
noncomputable abbrev oG:Stmt:=top 45
noncomputable abbrev sE:Stmt:=top 42
noncomputable abbrev tL:Stmt:=top 19
noncomputable abbrev vJ:Stmt:=top 18
noncomputable abbrev sD:Stmt:=top 17
noncomputable abbrev vQ:Stmt:=top 43
noncomputable abbrev lH:Stmt:=top 46
noncomputable abbrev lE:Stmt:=top 47
noncomputable abbrev vE:Stmt:=top 48
noncomputable abbrev vI:Stmt:=top 49
noncomputable abbrev vD:Stmt:=top 30
noncomputable abbrev vf:Stmt:=top 57
noncomputable abbrev lA:Stmt:=top 56
noncomputable abbrev vC:Stmt:=top 73
noncomputable abbrev kJ:Stmt:=top 72
noncomputable abbrev vB:Stmt:=top 38
noncomputable abbrev tN:Stmt:=top 20
noncomputable abbrev vA:Stmt:=top 40
noncomputable abbrev vz:Stmt:=top 39
noncomputable abbrev si:Stmt:=top 76
noncomputable abbrev kI:Stmt:=top 75
noncomputable abbrev oM:Stmt:=top 59
noncomputable abbrev sg:Stmt:=top 58
noncomputable abbrev oK:Stmt:=top 53
noncomputable abbrev vp:Stmt:=aZ (top 34) 0
noncomputable abbrev sC:Stmt:=aZ (top 34) 1
noncomputable abbrev vP:Stmt:=aZ (top 34) 22
noncomputable abbrev vO:Stmt:=aZ (top 34) 24
noncomputable abbrev vL:Stmt:=aZ (top 34) 2
noncomputable abbrev sB:Stmt:=aZ (top 34) 16
noncomputable abbrev vS:Stmt:=aZ (top 34) 23
noncomputable abbrev vo:Stmt:=aZ (top 34) 3
noncomputable abbrev sA:Stmt:=aZ (top 34) 8
noncomputable abbrev sx:Stmt:=aZ (top 34) 7
noncomputable abbrev vR:Stmt:=aZ (top 34) 25
noncomputable abbrev vj:Stmt:=aZ (top 34) 4
noncomputable abbrev vy:Stmt:=aZ (top 34) 6
noncomputable abbrev vx:Stmt:=aZ (top 34) 9
noncomputable abbrev vH:Stmt:=aZ (top 34) 19
noncomputable abbrev vi:Stmt:=aZ (top 34) 14
noncomputable abbrev vh:Stmt:=aZ (top 34) 18
noncomputable abbrev vg:Stmt:=aZ (top 34) 17
noncomputable abbrev sI:Stmt:=aZ (top 34) 13
noncomputable abbrev vG:Stmt:=aZ (top 34) 12
noncomputable abbrev vw:Stmt:=aZ (top 34) 20
noncomputable abbrev sH:Stmt:=aZ (top 34) 15
noncomputable abbrev vv:Stmt:=aZ (top 34) 21
noncomputable abbrev vN:Stmt:=aZ (top 34) 10
set_option genInjectivity false in
set_option genSizeOf false in
structure Adr where
 f_law:Addr
 d_law:FuncData
 v_law:Value
 f_draws:Addr
 d_draws:FuncData
 f_J21:Addr
 d_J21:FuncData
 f_set:Addr
 d_set:FuncData
 f_built:Addr
 d_built:FuncData
 f_kind:Addr
 d_kind:FuncData
 f_kinds:Addr
 d_kinds:FuncData
 f_many:Addr
 d_many:FuncData
 f_Jd1:Addr
 d_Jd1:FuncData
 f_ends:Addr
 d_ends:FuncData
 f_Je1:Addr
 d_Je1:FuncData
 f_size:Addr
 d_size:FuncData
 f_links:Addr
 d_links:FuncData
 f_run:Addr
 d_run:FuncData
 f_Jq:Addr
 d_Jq:FuncData
 f_Ja1:Addr
 d_Ja1:FuncData
 f_Jr:Addr
 d_Jr:FuncData
 f_Jb1:Addr
 d_Jb1:FuncData
 f_J31:Addr
 d_J31:FuncData
 f_Je:Addr
 d_Je:FuncData
 f_J7:Addr
 d_J7:FuncData
 f_walk:Addr
 d_walk:FuncData
 f_Jc1:Addr
 d_Jc1:FuncData
 f_Js:Addr
 d_Js:FuncData
 f_J9:Addr
 d_J9:FuncData
 f_rank:Addr
 d_rank:FuncData
 f_J41:Addr
 d_J41:FuncData
 f_Jt:Addr
 d_Jt:FuncData
 f_Ja:Addr
 d_Ja:FuncData
 f_J51:Addr
 d_J51:FuncData
 f_J2:Addr
 d_J2:FuncData
 f_build:Addr
 d_build:FuncData
 f_enter:Addr
 d_enter:FuncData
 f_Jf:Addr
 d_Jf:FuncData
 f_Jb:Addr
 d_Jb:FuncData
 f_Jg:Addr
 d_Jg:FuncData
 f_is:Addr
 d_is:FuncData
 f_whole:Addr
 d_whole:FuncData
 f_Jh:Addr
 d_Jh:FuncData
 f_line:Addr
 d_line:FuncData
 f_Ji:Addr
 d_Ji:FuncData
 f_Jj:Addr
 d_Jj:FuncData
 f_Jk:Addr
 d_Jk:FuncData
 f_Jl:Addr
 d_Jl:FuncData
 f_Jf1:Addr
 d_Jf1:FuncData
 f_same:Addr
 d_same:FuncData
 f_Jg1:Addr
 d_Jg1:FuncData
 f_Jh1:Addr
 d_Jh1:FuncData
 f_back:Addr
 d_back:FuncData
 f_Ju:Addr
 d_Ju:FuncData
 f_J61:Addr
 d_J61:FuncData
 v_J61:Value
 f_J3:Addr
 d_J3:FuncData
 f_J5:Addr
 d_J5:FuncData
 f_J8:Addr
 d_J8:FuncData
 v_J8:Value
 f_J71:Addr
 d_J71:FuncData
 f_J0:Addr
 d_J0:FuncData
 f_Jv:Addr
 d_Jv:FuncData
 f_J81:Addr
 d_J81:FuncData
 f_J91:Addr
 d_J91:FuncData
 f_J1:Addr
 d_J1:FuncData
 f_Jw:Addr
 d_Jw:FuncData
 f_Jm:Addr
 d_Jm:FuncData
 f_Jn:Addr
 d_Jn:FuncData
 f_Jc:Addr
 d_Jc:FuncData
 f_Jx:Addr
 d_Jx:FuncData
 f_Jy:Addr
 d_Jy:FuncData
 f_Jz:Addr
 d_Jz:FuncData
 f_J01:Addr
 d_J01:FuncData
 f_Jd:Addr
 d_Jd:FuncData
 f_Jo:Addr
 d_Jo:FuncData
 f_J11:Addr
 d_J11:FuncData
 f_Jp:Addr
 d_Jp:FuncData
 f_J6:Addr
 d_J6:FuncData
 c_Yard:Addr
 u_ENDS:Value
 u_FIGURES:Value
 u_GROUPS:Value
 u_LAST_NOTE:Value
 u_POINTS:Value
 u_SIZES:Value
 u_STEM:Value
structure Txt (K:PySem.W.Frag) (mg:Str->Option Value) (t:Adr):Prop where
 F_law:FunG K "law" "law" sf t.v_law t.f_law t.d_law
 F_draws:FunG K "_law_draws" "_law_draws" lF .none t.f_draws t.d_draws
 F_J21:FunG K "_law_text_set" "_law_text_set" sG .none t.f_J21 t.d_J21
 F_set:FunG K "_law_set" "_law_set" r9 .none t.f_set t.d_set
 F_built:FunG K "_law_built" "_law_built" lG .none t.f_built t.d_built
 F_kind:FunG K "_law_kind" "_law_kind" oI .none t.f_kind t.d_kind
 F_kinds:FunG K "_law_kinds" "_law_kinds" lC .none t.f_kinds t.d_kinds
 F_many:FunG K "_law_many" "_law_many" oH .none t.f_many t.d_many
 F_Jd1:FunG K "_law_linked" "_law_linked" sk .none t.f_Jd1 t.d_Jd1
 F_ends:FunG K "_law_ends" "_law_ends" oJ .none t.f_ends t.d_ends
 F_Je1:FunG K "_law_thrown" "_law_thrown" sj .none t.f_Je1 t.d_Je1
 F_size:FunG K "_law_size" "_law_size" oF .none t.f_size t.d_size
 F_links:FunG K "_law_links" "_law_links" lB .none t.f_links t.d_links
 F_run:FunG K "run" "run" se .none t.f_run t.d_run
 F_Jq:FunG K "next_step" "next_step" vt .none t.f_Jq t.d_Jq
 F_Ja1:FunG K "passage" "passage" su .none t.f_Ja1 t.d_Ja1
 F_Jr:FunG K "check_end" "check_end" vq .none t.f_Jr t.d_Jr
 F_Jb1:FunG K "ends_of" "ends_of" sr .none t.f_Jb1 t.d_Jb1
 F_J31:FunG K "is_point" "is_point" sF .none t.f_J31 t.d_J31
 F_Je:FunG K "check_side" "check_side" vF .none t.f_Je t.d_Je
 F_J7:FunG K "point_passage" "point_passage" vM .none t.f_J7 t.d_J7
 F_walk:FunG K "_law_walk" "_law_walk" oE .none t.f_walk t.d_walk
 F_Jc1:FunG K "_law_passing" "_law_passing" sn .none t.f_Jc1 t.d_Jc1
 F_Js:FunG K "read_yard" "read_yard" tM .none t.f_Js t.d_Js
 F_J9:FunG K "check_order" "check_order" vK .none t.f_J9 t.d_J9
 F_rank:FunG K "rank" "rank" oG .none t.f_rank t.d_rank
 F_J41:FunG K "read_row" "read_row" sE .none t.f_J41 t.d_J41
 F_Jt:FunG K "read_line" "read_line" tL .none t.f_Jt t.d_Jt
 F_Ja:FunG K "read_number" "read_number" vJ .none t.f_Ja t.d_Ja
 F_J51:FunG K "is_plain" "is_plain" sD .none t.f_J51 t.d_J51
 F_J2:FunG K "has_its_numbers" "has_its_numbers" vQ .none t.f_J2 t.d_J2
 F_build:FunG K "build" "build" lH .none t.f_build t.d_build
 F_enter:FunG K "enter" "enter" lE .none t.f_enter t.d_enter
 F_Jf:FunG K "enter_link" "enter_link" vE .none t.f_Jf t.d_Jf
 F_Jb:FunG K "enter_piece" "enter_piece" vI .none t.f_Jb t.d_Jb
 F_Jg:FunG K "check_note" "check_note" vD .none t.f_Jg t.d_Jg
 F_is:FunG K "_law_is" "_law_is" vf .none t.f_is t.d_is
 F_whole:FunG K "_law_whole" "_law_whole" lA .none t.f_whole t.d_whole
 F_Jh:FunG K "_law_yard_lines" "_law_yard_lines" vC .none t.f_Jh t.d_Jh
 F_line:FunG K "_law_line" "_law_line" kJ .none t.f_line t.d_line
 F_Ji:FunG K "write_yard" "write_yard" vB .none t.f_Ji t.d_Ji
 F_Jj:FunG K "write_line" "write_line" tN .none t.f_Jj t.d_Jj
 F_Jk:FunG K "link_lines" "link_lines" vA .none t.f_Jk t.d_Jk
 F_Jl:FunG K "piece_line" "piece_line" vz .none t.f_Jl t.d_Jl
 F_Jf1:FunG K "_law_pieces" "_law_pieces" si .none t.f_Jf1 t.d_Jf1
 F_same:FunG K "_law_same" "_law_same" kI .none t.f_same t.d_same
 F_Jg1:FunG K "_law_is_row" "_law_is_row" oM .none t.f_Jg1 t.d_Jg1
 F_Jh1:FunG K "_law_is_end" "_law_is_end" sg .none t.f_Jh1 t.d_Jh1
 F_back:FunG K "back" "back" oK .none t.f_back t.d_back
 F_Ju:FunG K "__init__" "Yard.__init__" vp .none t.f_Ju t.d_Ju
 F_J61:FunG K "lay" "Yard.lay" sC t.v_J61 t.f_J61 t.d_J61
 F_J3:FunG K "end_trail" "Yard.end_trail" vP .none t.f_J3 t.d_J3
 F_J5:FunG K "check_rod" "Yard.check_rod" vO .none t.f_J5 t.d_J5
 F_J8:FunG K "new_rod" "Yard.new_rod" vL t.v_J8 t.f_J8 t.d_J8
 F_J71:FunG K "rod" "Yard.rod" sB .none t.f_J71 t.d_J71
 F_J0:FunG K "check_piece" "Yard.check_piece" vS .none t.f_J0 t.d_J0
 F_Jv:FunG K "lift" "Yard.lift" vo .none t.f_Jv t.d_Jv
 F_J81:FunG K "off" "Yard.off" sA .none t.f_J81 t.d_J81
 F_J91:FunG K "put" "Yard.put" sx .none t.f_J91 t.d_J91
 F_J1:FunG K "check_there" "Yard.check_there" vR .none t.f_J1 t.d_J1
 F_Jw:FunG K "link" "Yard.link" vj .none t.f_Jw t.d_Jw
 F_Jm:FunG K "throw" "Yard.throw" vy .none t.f_Jm t.d_Jm
 F_Jn:FunG K "carry" "Yard.carry" vx .none t.f_Jn t.d_Jn
 F_Jc:FunG K "engine" "Yard.engine" vH .none t.f_Jc t.d_Jc
 F_Jx:FunG K "kind" "Yard.kind" vi .none t.f_Jx t.d_Jx
 F_Jy:FunG K "mate" "Yard.mate" vh .none t.f_Jy t.d_Jy
 F_Jz:FunG K "side" "Yard.side" vg .none t.f_Jz t.d_Jz
 F_J01:FunG K "rods" "Yard.rods" sI .none t.f_J01 t.d_J01
 F_Jd:FunG K "pieces" "Yard.pieces" vG .none t.f_Jd t.d_Jd
 F_Jo:FunG K "bells" "Yard.bells" vw .none t.f_Jo t.d_Jo
 F_J11:FunG K "note" "Yard.note" sH .none t.f_J11 t.d_J11
 F_Jp:FunG K "steps" "Yard.steps" vv .none t.f_Jp t.d_Jp
 F_J6:FunG K "take_back" "Yard.take_back" vN .none t.f_J6 t.d_J6
 m_law:mg "law" = some (.ref t.f_law)
 e_law:t.v_law=.none
 m_draws:mg "_law_draws" = some (.ref t.f_draws)
 m_J21:mg "_law_text_set" = some (.ref t.f_J21)
 m_set:mg "_law_set" = some (.ref t.f_set)
 m_built:mg "_law_built" = some (.ref t.f_built)
 m_kind:mg "_law_kind" = some (.ref t.f_kind)
 m_kinds:mg "_law_kinds" = some (.ref t.f_kinds)
 m_many:mg "_law_many" = some (.ref t.f_many)
 m_Jd1:mg "_law_linked" = some (.ref t.f_Jd1)
 m_ends:mg "_law_ends" = some (.ref t.f_ends)
 m_Je1:mg "_law_thrown" = some (.ref t.f_Je1)
 m_size:mg "_law_size" = some (.ref t.f_size)
 m_links:mg "_law_links" = some (.ref t.f_links)
 m_run:mg "run" = some (.ref t.f_run)
 m_Jq:mg "next_step" = some (.ref t.f_Jq)
 m_Ja1:mg "passage" = some (.ref t.f_Ja1)
 m_Jr:mg "check_end" = some (.ref t.f_Jr)
 m_Jb1:mg "ends_of" = some (.ref t.f_Jb1)
 m_J31:mg "is_point" = some (.ref t.f_J31)
 m_Je:mg "check_side" = some (.ref t.f_Je)
 m_J7:mg "point_passage" = some (.ref t.f_J7)
 m_walk:mg "_law_walk" = some (.ref t.f_walk)
 m_Jc1:mg "_law_passing" = some (.ref t.f_Jc1)
 m_Js:mg "read_yard" = some (.ref t.f_Js)
 m_J9:mg "check_order" = some (.ref t.f_J9)
 m_rank:mg "rank" = some (.ref t.f_rank)
 m_J41:mg "read_row" = some (.ref t.f_J41)
 m_Jt:mg "read_line" = some (.ref t.f_Jt)
 m_Ja:mg "read_number" = some (.ref t.f_Ja)
 m_J51:mg "is_plain" = some (.ref t.f_J51)
 m_J2:mg "has_its_numbers" = some (.ref t.f_J2)
 m_build:mg "build" = some (.ref t.f_build)
 m_enter:mg "enter" = some (.ref t.f_enter)
 m_Jf:mg "enter_link" = some (.ref t.f_Jf)
 m_Jb:mg "enter_piece" = some (.ref t.f_Jb)
 m_Jg:mg "check_note" = some (.ref t.f_Jg)
 m_is:mg "_law_is" = some (.ref t.f_is)
 m_whole:mg "_law_whole" = some (.ref t.f_whole)
 m_Jh:mg "_law_yard_lines" = some (.ref t.f_Jh)
 m_line:mg "_law_line" = some (.ref t.f_line)
 m_Ji:mg "write_yard" = some (.ref t.f_Ji)
 m_Jj:mg "write_line" = some (.ref t.f_Jj)
 m_Jk:mg "link_lines" = some (.ref t.f_Jk)
 m_Jl:mg "piece_line" = some (.ref t.f_Jl)
 m_Jf1:mg "_law_pieces" = some (.ref t.f_Jf1)
 m_same:mg "_law_same" = some (.ref t.f_same)
 m_Jg1:mg "_law_is_row" = some (.ref t.f_Jg1)
 m_Jh1:mg "_law_is_end" = some (.ref t.f_Jh1)
 m_back:mg "back" = some (.ref t.f_back)
 M_J61:Meth K t.c_Yard "lay" t.f_J61
 D_J61:∃ (T:Addr) (od:Option Addr) (n:Nat) (sl:Array (Option Value)) (tk0:Tok),t.v_J61=.ref T/\K.lookup T=some ⟨.type "tuple",od,.seq #[.int 0 tk0,.none] n,sl⟩
 M_J3:Meth K t.c_Yard "end_trail" t.f_J3
 M_J5:Meth K t.c_Yard "check_rod" t.f_J5
 M_J8:Meth K t.c_Yard "new_rod" t.f_J8
 D_J8:∃ (T:Addr) (od:Option Addr) (n:Nat) (sl:Array (Option Value)) (tk0:Tok),t.v_J8=.ref T/\K.lookup T=some ⟨.type "tuple",od,.seq #[.int 1 tk0] n,sl⟩
 M_J71:Meth K t.c_Yard "rod" t.f_J71
 M_J0:Meth K t.c_Yard "check_piece" t.f_J0
 M_Jv:Meth K t.c_Yard "lift" t.f_Jv
 M_J81:Meth K t.c_Yard "off" t.f_J81
 M_J91:Meth K t.c_Yard "put" t.f_J91
 M_J1:Meth K t.c_Yard "check_there" t.f_J1
 M_Jw:Meth K t.c_Yard "link" t.f_Jw
 M_Jm:Meth K t.c_Yard "throw" t.f_Jm
 M_Jn:Meth K t.c_Yard "carry" t.f_Jn
 M_Jc:Meth K t.c_Yard "engine" t.f_Jc
 M_Jx:Meth K t.c_Yard "kind" t.f_Jx
 M_Jy:Meth K t.c_Yard "mate" t.f_Jy
 M_Jz:Meth K t.c_Yard "side" t.f_Jz
 M_J01:Meth K t.c_Yard "rods" t.f_J01
 M_Jd:Meth K t.c_Yard "pieces" t.f_Jd
 M_Jo:Meth K t.c_Yard "bells" t.f_Jo
 M_J11:Meth K t.c_Yard "note" t.f_J11
 M_Jp:Meth K t.c_Yard "steps" t.f_Jp
 M_J6:Meth K t.c_Yard "take_back" t.f_J6
 cl_Yard:Cls K t.c_Yard
 m_Yard:mg "Yard" = some (.ref t.c_Yard)
 mk_Yard:Mk K t.c_Yard t.f_Ju
 n_Yard_next_piece:NoAttr K t.c_Yard "next_piece"
 n_Yard_kinds:NoAttr K t.c_Yard "kinds"
 n_Yard_notes:NoAttr K t.c_Yard "notes"
 n_J01_under:NoAttr K t.c_Yard "rods_under"
 n_Yard_sides:NoAttr K t.c_Yard "sides"
 n_Yard_mates:NoAttr K t.c_Yard "mates"
 n_Jc_end:NoAttr K t.c_Yard "engine_end"
 n_Yard_rung:NoAttr K t.c_Yard "rung"
 n_Yard_trail:NoAttr K t.c_Yard "trail"
 z_abs:mg "abs" = none
 z_all:mg "all" = none
 z_bool:mg "bool" = none
 z_enumerate:mg "enumerate" = none
 z_int:mg "int" = none
 z_isinstance:mg "isinstance" = none
 z_len:mg "len" = none
 z_list:mg "list" = none
 z_max:mg "max" = none
 z_min:mg "min" = none
 z_range:mg "range" = none
 z_sorted:mg "sorted" = none
 z_str:mg "str" = none
 z_tuple:mg "tuple" = none
 z_zip:mg "zip" = none
 g_ENDS:mg "ENDS" = some t.u_ENDS
 x_ENDS:∃ a,t.u_ENDS=.ref a/\k8 K a [("line",.int 2),("bell",.int 2),("stop",.int 1),("still",.int 3),("lazy",.int 3),("turning",.int 3)]
 g_FIGURES:mg "FIGURES" = some t.u_FIGURES
 r_FIGURES:RelV (.str "0123456789") t.u_FIGURES
 g_GROUPS:mg "GROUPS" = some t.u_GROUPS
 x_GROUPS:∃ a,t.u_GROUPS=.ref a/\k8 K a [("next",.int 0),("rod",.int 1),("line",.int 2),("stop",.int 2),("bell",.int 2),("still",.int 2),("lazy",.int 2),("turning",.int 2),("link",.int 3),("engine",.int 4),("rung",.int 5)]
 g_LAST_NOTE:mg "LAST_NOTE" = some t.u_LAST_NOTE
 r_LAST_NOTE:RelV (.int 9999) t.u_LAST_NOTE
 g_POINTS:mg "POINTS" = some t.u_POINTS
 x_POINTS:∃ (a:Addr) (o:Obj) (its:Array Value) (n:Nat),t.u_POINTS=.ref a/\K.lookup a=some o/\o.cls=.type "tuple" /\ o.data=.seq its n/\its.size<=sizeLine/\Vals [.str "still",.str "lazy",.str "turning"] its.toList
 g_SIZES:mg "SIZES" = some t.u_SIZES
 x_SIZES:∃ a,t.u_SIZES=.ref a/\k8 K a [("next",.int 2),("rod",.int 2),("line",.int 1),("stop",.int 1),("bell",.int 2),("still",.int 2),("lazy",.int 2),("turning",.int 2),("link",.int 4),("engine",.int 2)]
 g_STEM:mg "STEM" = some t.u_STEM
 r_STEM:RelV (.int 0) t.u_STEM
variable{fd:FuncData}{dV:Value}{st:Stmt}{f:Addr}
section
variable {K:PySem.W.Frag}{mg:Str->Option Value}{t:Adr}
theorem lS_ {us:List Value}{n:Nat} (h:us.length=n+1):∃ a t,us=a::t/\t.length=n:=by
 cases us with
 | nil=>cases h
 | cons a t=>exact⟨a,t,rfl,Nat.succ.inj h⟩
theorem l0_ {us:List Value} (h:us.length=0):us=[]:=List.eq_nil_of_length_eq_zero h
theorem bi0 {x q:Str} (F:FunG K x q st dV f fd) (e:dV=.none:=by rfl) (h:∀ (kV doc pm:Value) (an:Option Addr) (cdv ct:Value),bindArgs (W.fnOf x q (bR st) (bI st) (ah st) .none kV doc pm an cdv ct) ⟨[],[]⟩=pure []:=by intros; rfl):Binds K fd [] []:=by
 subst e
 refine F.binds fun kV doc pm an cdv ct us hl=>?_
 cases l0_ hl
 exact h kV doc pm an cdv ct
theorem bi1 {x q:Str}{a0:Str} (F:FunG K x q st dV f fd) (e:dV=.none:=by rfl) (h:∀ (kV doc pm:Value) (an:Option Addr) (cdv ct u0:Value),bindArgs (W.fnOf x q (bR st) (bI st) (ah st) .none kV doc pm an cdv ct) ⟨[u0],[]⟩=pure [(a0,u0)]:=by intros; rfl):Binds K fd [a0] []:=by
 subst e
 refine F.binds fun kV doc pm an cdv ct us hl=>?_
 obtain⟨u0,w0,rfl,g0⟩:=lS_ hl
 cases l0_ g0
 exact h kV doc pm an cdv ct u0
theorem bi2 {x q:Str}{a0 a1:Str} (F:FunG K x q st dV f fd) (e:dV=.none:=by rfl) (h:∀ (kV doc pm:Value) (an:Option Addr) (cdv ct u0 u1:Value),bindArgs (W.fnOf x q (bR st) (bI st) (ah st) .none kV doc pm an cdv ct) ⟨[u0,u1],[]⟩=pure [(a0,u0),(a1,u1)]:=by intros; rfl):Binds K fd [a0,a1] []:=by
 subst e
 refine F.binds fun kV doc pm an cdv ct us hl=>?_
 obtain⟨u0,w0,rfl,g0⟩:=lS_ hl
 obtain⟨u1,w1,rfl,g1⟩:=lS_ g0
 cases l0_ g1
 exact h kV doc pm an cdv ct u0 u1
theorem bi3 {x q:Str}{a0 a1 a2:Str} (F:FunG K x q st dV f fd) (e:dV=.none:=by rfl) (h:∀ (kV doc pm:Value) (an:Option Addr) (cdv ct u0 u1 u2:Value),bindArgs (W.fnOf x q (bR st) (bI st) (ah st) .none kV doc pm an cdv ct) ⟨[u0,u1,u2],[]⟩=pure [(a0,u0),(a1,u1),(a2,u2)]:=by intros; rfl):Binds K fd [a0,a1,a2] []:=by
 subst e
 refine F.binds fun kV doc pm an cdv ct us hl=>?_
 obtain⟨u0,w0,rfl,g0⟩:=lS_ hl
 obtain⟨u1,w1,rfl,g1⟩:=lS_ g0
 obtain⟨u2,w2,rfl,g2⟩:=lS_ g1
 cases l0_ g2
 exact h kV doc pm an cdv ct u0 u1 u2
theorem bi4 {x q:Str}{a0 a1 a2 a3:Str} (F:FunG K x q st dV f fd) (e:dV=.none:=by rfl) (h:∀ (kV doc pm:Value) (an:Option Addr) (cdv ct u0 u1 u2 u3:Value),bindArgs (W.fnOf x q (bR st) (bI st) (ah st) .none kV doc pm an cdv ct) ⟨[u0,u1,u2,u3],[]⟩=pure [(a0,u0),(a1,u1),(a2,u2),(a3,u3)]:=by intros; rfl):Binds K fd [a0,a1,a2,a3] []:=by
 subst e
 refine F.binds fun kV doc pm an cdv ct us hl=>?_
 obtain⟨u0,w0,rfl,g0⟩:=lS_ hl
 obtain⟨u1,w1,rfl,g1⟩:=lS_ g0
 obtain⟨u2,w2,rfl,g2⟩:=lS_ g1
 obtain⟨u3,w3,rfl,g3⟩:=lS_ g2
 cases l0_ g3
 exact h kV doc pm an cdv ct u0 u1 u2 u3
theorem bi5 {x q:Str}{a0 a1 a2 a3 a4:Str} (F:FunG K x q st dV f fd) (e:dV=.none:=by rfl) (h:∀ (kV doc pm:Value) (an:Option Addr) (cdv ct u0 u1 u2 u3 u4:Value),bindArgs (W.fnOf x q (bR st) (bI st) (ah st) .none kV doc pm an cdv ct) ⟨[u0,u1,u2,u3,u4],[]⟩=pure [(a0,u0),(a1,u1),(a2,u2),(a3,u3),(a4,u4)]:=by intros; rfl):Binds K fd [a0,a1,a2,a3,a4] []:=by
 subst e
 refine F.binds fun kV doc pm an cdv ct us hl=>?_
 obtain⟨u0,w0,rfl,g0⟩:=lS_ hl
 obtain⟨u1,w1,rfl,g1⟩:=lS_ g0
 obtain⟨u2,w2,rfl,g2⟩:=lS_ g1
 obtain⟨u3,w3,rfl,g3⟩:=lS_ g2
 obtain⟨u4,w4,rfl,g4⟩:=lS_ g3
 cases l0_ g4
 exact h kV doc pm an cdv ct u0 u1 u2 u3 u4
theorem bi7 {x q:Str}{a0 a1 a2 a3 a4 a5 a6:Str} (F:FunG K x q st dV f fd) (e:dV=.none:=by rfl) (h:∀ (kV doc pm:Value) (an:Option Addr) (cdv ct u0 u1 u2 u3 u4 u5 u6:Value),bindArgs (W.fnOf x q (bR st) (bI st) (ah st) .none kV doc pm an cdv ct) ⟨[u0,u1,u2,u3,u4,u5,u6],[]⟩=pure [(a0,u0),(a1,u1),(a2,u2),(a3,u3),(a4,u4),(a5,u5),(a6,u6)]:=by intros; rfl):Binds K fd [a0,a1,a2,a3,a4,a5,a6] []:=by
 subst e
 exact F.binds fun kV doc pm an cdv ct us hl=>match us,hl with | [u0,u1,u2,u3,u4,u5,u6],_=>h kV doc pm an cdv ct u0 u1 u2 u3 u4 u5 u6
theorem bi8 {x q:Str}{a0 a1 a2 a3 a4 a5 a6 a7:Str} (F:FunG K x q st dV f fd) (e:dV=.none:=by rfl) (h:∀ (kV doc pm:Value) (an:Option Addr) (cdv ct u0 u1 u2 u3 u4 u5 u6 u7:Value),bindArgs (W.fnOf x q (bR st) (bI st) (ah st) .none kV doc pm an cdv ct) ⟨[u0,u1,u2,u3,u4,u5,u6,u7],[]⟩=pure [(a0,u0),(a1,u1),(a2,u2),(a3,u3),(a4,u4),(a5,u5),(a6,u6),(a7,u7)]:=by intros; rfl):Binds K fd [a0,a1,a2,a3,a4,a5,a6,a7] []:=by
 subst e
 exact F.binds fun kV doc pm an cdv ct us hl=>match us,hl with | [u0,u1,u2,u3,u4,u5,u6,u7],_=>h kV doc pm an cdv ct u0 u1 u2 u3 u4 u5 u6 u7
theorem rH (T:Txt K mg t):Binds K t.d_draws ["_law_script","_law_many_here"] []:=bi2 T.F_draws
theorem b_J21 (T:Txt K mg t):Binds K t.d_J21 ["_law_d","_law_at"] []:=bi2 T.F_J21
theorem b_set (T:Txt K mg t):Binds K t.d_set ["_law_d","_law_at"] []:=bi2 T.F_set
theorem rJ (T:Txt K mg t):Binds K t.d_built ["_law_d","_law_at","_law_many_here"] []:=bi3 T.F_built
theorem uR (T:Txt K mg t):Binds K t.d_kind ["_law_draw"] []:=bi1 T.F_kind
theorem rF (T:Txt K mg t):Binds K t.d_kinds [] []:=bi0 T.F_kinds
theorem k5 (T:Txt K mg t):Binds K t.d_many ["_law_kind_here"] []:=bi1 T.F_many
theorem b_Jd1 (T:Txt K mg t):Binds K t.d_Jd1 ["_law_yard","_law_kinds_here","_law_d","_law_at","_law_many_here"] []:=bi5 T.F_Jd1
theorem jB (T:Txt K mg t):Binds K t.d_ends ["_law_kinds_here"] []:=bi1 T.F_ends
theorem b_Je1 (T:Txt K mg t):Binds K t.d_Je1 ["_law_yard","_law_sides","_law_d","_law_at"] []:=bi4 T.F_Je1
theorem uQ (T:Txt K mg t):Binds K t.d_size ["_law_draw"] []:=bi1 T.F_size
theorem rE (T:Txt K mg t):Binds K t.d_links ["_law_draw"] []:=bi1 T.F_links
theorem sV (T:Txt K mg t):Binds K t.d_run ["yard","most"] []:=bi2 T.F_run
theorem b_Jq (T:Txt K mg t):Binds K t.d_Jq ["yard"] []:=bi1 T.F_Jq
theorem b_Ja1 (T:Txt K mg t):Binds K t.d_Ja1 ["kind","end","side"] []:=bi3 T.F_Ja1
theorem v0 (T:Txt K mg t):Binds K t.d_Jr ["kind","end"] []:=bi2 T.F_Jr
theorem qg (T:Txt K mg t):Binds K t.d_Jb1 ["kind"] []:=bi1 T.F_Jb1
theorem mF (T:Txt K mg t):Binds K t.d_J31 ["kind"] []:=bi1 T.F_J31
theorem uW (T:Txt K mg t):Binds K t.d_Je ["side"] []:=bi1 T.F_Je
theorem b_J7 (T:Txt K mg t):Binds K t.d_J7 ["kind","end","side"] []:=bi3 T.F_J7
theorem qd (T:Txt K mg t):Binds K t.d_walk ["_law_kinds_here","_law_notes","_law_rods","_law_sides","_law_mates","_law_rung","_law_at","_law_most"] []:=bi8 T.F_walk
theorem b_Jc1 (T:Txt K mg t):Binds K t.d_Jc1 ["_law_kind_here","_law_place","_law_side"] []:=bi3 T.F_Jc1
theorem vZ (T:Txt K mg t):Binds K t.d_Js ["text"] []:=bi1 T.F_Js
theorem b_J9 (T:Txt K mg t):Binds K t.d_J9 ["rows"] []:=bi1 T.F_J9
theorem qf (T:Txt K mg t):Binds K t.d_rank ["row"] []:=bi1 T.F_rank
theorem b_J41 (T:Txt K mg t):Binds K t.d_J41 ["line"] []:=bi1 T.F_J41
theorem b_Jt (T:Txt K mg t):Binds K t.d_Jt ["line"] []:=bi1 T.F_Jt
theorem b_Ja (T:Txt K mg t):Binds K t.d_Ja ["word"] []:=bi1 T.F_Ja
theorem b_J51 (T:Txt K mg t):Binds K t.d_J51 ["word"] []:=bi1 T.F_J51
theorem b_J2 (T:Txt K mg t):Binds K t.d_J2 ["word","numbers"] []:=bi2 T.F_J2
theorem rK (T:Txt K mg t):Binds K t.d_build ["rows"] []:=bi1 T.F_build
theorem rG (T:Txt K mg t):Binds K t.d_enter ["yard","word","numbers"] []:=bi3 T.F_enter
theorem b_Jf (T:Txt K mg t):Binds K t.d_Jf ["yard","one","other"] []:=bi3 T.F_Jf
theorem b_Jb (T:Txt K mg t):Binds K t.d_Jb ["yard","kind","numbers"] []:=bi3 T.F_Jb
theorem v4 (T:Txt K mg t):Binds K t.d_Jg ["note"] []:=bi1 T.F_Jg
theorem fR (T:Txt K mg t):Binds K t.d_is ["_law_found","_law_due"] []:=bi2 T.F_is
theorem rD (T:Txt K mg t):Binds K t.d_whole ["_law_found"] []:=bi1 T.F_whole
theorem b_Jh (T:Txt K mg t):Binds K t.d_Jh ["_law_kinds_here","_law_notes","_law_rods","_law_sides","_law_mates","_law_rung","_law_at","_law_on"] []:=bi8 T.F_Jh
theorem fD (T:Txt K mg t):Binds K t.d_line ["_law_word","_law_numbers"] []:=bi2 T.F_line
theorem b_Ji (T:Txt K mg t):Binds K t.d_Ji ["yard"] []:=bi1 T.F_Ji
theorem kB (T:Txt K mg t):Binds K t.d_Jj ["word","numbers"] []:=bi2 T.F_Jj
theorem b_Jk (T:Txt K mg t):Binds K t.d_Jk ["yard"] []:=bi1 T.F_Jk
theorem b_Jl (T:Txt K mg t):Binds K t.d_Jl ["yard","piece"] []:=bi2 T.F_Jl
theorem b_Jf1 (T:Txt K mg t):Binds K t.d_Jf1 ["_law_yard","_law_kinds_here","_law_notes","_law_rods"] []:=bi4 T.F_Jf1
theorem qe (T:Txt K mg t):Binds K t.d_same ["_law_yard","_law_kinds_here","_law_sides","_law_mates","_law_rung","_law_at","_law_trail"] []:=bi7 T.F_same
theorem sX (T:Txt K mg t):Binds K t.d_Jg1 ["_law_found","_law_due"] []:=bi2 T.F_Jg1
theorem sW (T:Txt K mg t):Binds K t.d_Jh1 ["_law_found","_law_due"] []:=bi2 T.F_Jh1
theorem uS (T:Txt K mg t):Binds K t.d_back ["yard","most"] []:=bi2 T.F_back
theorem vY (T:Txt K mg t):Binds K t.d_Ju ["self"] []:=bi1 T.F_Ju
theorem k6 (T:Txt K mg t):Binds K t.d_J3 ["self"] []:=bi1 T.F_J3
theorem uY (T:Txt K mg t):Binds K t.d_J5 ["self","rod"] []:=bi2 T.F_J5
theorem mE (T:Txt K mg t):Binds K t.d_J71 ["self","piece"] []:=bi2 T.F_J71
theorem qh (T:Txt K mg t):Binds K t.d_J0 ["self","piece"] []:=bi2 T.F_J0
theorem b_Jv (T:Txt K mg t):Binds K t.d_Jv ["self","piece"] []:=bi2 T.F_Jv
theorem b_J81 (T:Txt K mg t):Binds K t.d_J81 ["self"] []:=bi1 T.F_J81
theorem sY (T:Txt K mg t):Binds K t.d_J91 ["self","end"] []:=bi2 T.F_J91
theorem rN (T:Txt K mg t):Binds K t.d_J1 ["self","end"] []:=bi2 T.F_J1
theorem vX (T:Txt K mg t):Binds K t.d_Jw ["self","one","other"] []:=bi3 T.F_Jw
theorem b_Jm (T:Txt K mg t):Binds K t.d_Jm ["self","rod","side"] []:=bi3 T.F_Jm
theorem b_Jn (T:Txt K mg t):Binds K t.d_Jn ["self","end","side"] []:=bi3 T.F_Jn
theorem rM (T:Txt K mg t):Binds K t.d_Jc ["self"] []:=bi1 T.F_Jc
theorem rL (T:Txt K mg t):Binds K t.d_Jx ["self","piece"] []:=bi2 T.F_Jx
theorem uU (T:Txt K mg t):Binds K t.d_Jy ["self","end"] []:=bi2 T.F_Jy
theorem uT (T:Txt K mg t):Binds K t.d_Jz ["self","rod"] []:=bi2 T.F_Jz
theorem b_J01 (T:Txt K mg t):Binds K t.d_J01 ["self"] []:=bi1 T.F_J01
theorem uX (T:Txt K mg t):Binds K t.d_Jd ["self"] []:=bi1 T.F_Jd
theorem uV (T:Txt K mg t):Binds K t.d_Jo ["self"] []:=bi1 T.F_Jo
theorem sZ (T:Txt K mg t):Binds K t.d_J11 ["self","piece"] []:=bi2 T.F_J11
theorem v3 (T:Txt K mg t):Binds K t.d_Jp ["self"] []:=bi1 T.F_Jp
theorem b_J6 (T:Txt K mg t):Binds K t.d_J6 ["self"] []:=bi1 T.F_J6
theorem qi (T:Txt K mg t):∃ ds:List Value,Vals [] ds/\Binds K t.d_J61 ["self","kind","note","rod"] ds:=by
 obtain⟨Td,od,n,sl,tk0,e1,e2⟩:=T.D_J61
 obtain⟨oc,od2,kV,doc,pm,an,cdv,ct,osl,e3,lk,hcd⟩:=T.F_J61.ex
 refine⟨[],.nil,fun s us X hl=>?_⟩
 have hl2:us.length=4:=by simpa using hl
 rw[e3,e1]
 obtain⟨u0,w0,rfl,g0⟩:=lS_ hl2
 obtain⟨u1,w1,rfl,g1⟩:=lS_ g0
 obtain⟨u2,w2,rfl,g2⟩:=lS_ g1
 obtain⟨u3,w3,rfl,g3⟩:=lS_ g2
 cases l0_ g3
 exact W.binds_K X rfl e2 rfl rfl rfl
theorem qj (T:Txt K mg t):∃ ds:List Value,Vals [.non] ds/\Binds K t.d_J61 ["self","kind","note","rod"] ds:=by
 obtain⟨Td,od,n,sl,tk0,e1,e2⟩:=T.D_J61
 obtain⟨oc,od2,kV,doc,pm,an,cdv,ct,osl,e3,lk,hcd⟩:=T.F_J61.ex
 refine⟨[.none],.cons rfl (.nil),fun s us X hl=>?_⟩
 have hl2:us.length=3:=by simpa using hl
 rw[e3,e1]
 obtain⟨u0,w0,rfl,g0⟩:=lS_ hl2
 obtain⟨u1,w1,rfl,g1⟩:=lS_ g0
 obtain⟨u2,w2,rfl,g2⟩:=lS_ g1
 cases l0_ g2
 exact W.binds_K X rfl e2 rfl rfl rfl
theorem ig (T:Txt K mg t):∃ ds:List Value,Vals [.int 0,.non] ds/\Binds K t.d_J61 ["self","kind","note","rod"] ds:=by
 obtain⟨Td,od,n,sl,tk0,e1,e2⟩:=T.D_J61
 obtain⟨oc,od2,kV,doc,pm,an,cdv,ct,osl,e3,lk,hcd⟩:=T.F_J61.ex
 refine⟨[.int 0 tk0,.none],.cons ⟨_,U⟩ (.cons rfl (.nil)),fun s us X hl=>?_⟩
 have hl2:us.length=2:=by simpa using hl
 rw[e3,e1]
 obtain⟨u0,w0,rfl,g0⟩:=lS_ hl2
 obtain⟨u1,w1,rfl,g1⟩:=lS_ g0
 cases l0_ g1
 exact W.binds_K X rfl e2 rfl rfl rfl
noncomputable def cU:List V->List V->List V:=fun us ws=>if us.length=2/\ws.length=2 then us++[]++ws++[] else []
theorem bY (T:Txt K mg t):∃ g,KBinds K t.d_J61 ["self","kind","note","rod"] ["note","rod"] g cU:=by
 obtain⟨Td,od,n,sl,tk0,e1,e2⟩:=T.D_J61
 obtain⟨oc,od2,kV,doc,pm,an,cdv,ct,osl,e3,lk,hcd⟩:=T.F_J61.ex
 refine⟨fun us ws=>if us.length=2/\ws.length=2 then us++[]++ws++[] else [],⟨fun s us ws X hl=>?_,fun {vs us zs ws} r rz=>?_⟩⟩
 ·by_cases hc:us.length=2/\ws.length=2
  ·rw[if_pos hc]
   rw[e3,e1]
   match us,ws,hc with
   | [_,_],[_,_],_=>exact W.binds_K X rfl e2 rfl rfl rfl
  ·rw[if_neg hc] at hl
   cases hl
 ·have e4:=r.length
  have e5:=rz.length
  unfold cU
  by_cases hc:vs.length=2/\zs.length=2
  ·rw[if_pos hc,if_pos (by omega)]
   exact((r.append (show Vals [] [] from .nil)).append rz).append (show Vals [] [] from .nil)
  ·rw[if_neg hc,if_neg (by omega)]
   exact .nil
theorem rO (T:Txt K mg t):∃ ds:List Value,Vals [] ds/\Binds K t.d_J8 ["self","side"] ds:=by
 obtain⟨Td,od,n,sl,tk0,e1,e2⟩:=T.D_J8
 obtain⟨oc,od2,kV,doc,pm,an,cdv,ct,osl,e3,lk,hcd⟩:=T.F_J8.ex
 refine⟨[],.nil,fun s us X hl=>?_⟩
 have hl2:us.length=2:=by simpa using hl
 rw[e3,e1]
 obtain⟨u0,w0,rfl,g0⟩:=lS_ hl2
 obtain⟨u1,w1,rfl,g1⟩:=lS_ g0
 cases l0_ g1
 exact W.binds_K X rfl e2 rfl rfl rfl
theorem rP (T:Txt K mg t):∃ ds:List Value,Vals [.int 1] ds/\Binds K t.d_J8 ["self","side"] ds:=by
 obtain⟨Td,od,n,sl,tk0,e1,e2⟩:=T.D_J8
 obtain⟨oc,od2,kV,doc,pm,an,cdv,ct,osl,e3,lk,hcd⟩:=T.F_J8.ex
 refine⟨[.int 1 tk0],.cons ⟨_,U⟩ (.nil),fun s us X hl=>?_⟩
 have hl2:us.length=1:=by simpa using hl
 rw[e3,e1]
 obtain⟨u0,w0,rfl,g0⟩:=lS_ hl2
 cases l0_ g0
 exact W.binds_K X rfl e2 rfl rfl rfl
end
noncomputable def Dr (ds:List Int):Prop:=∀ d ∈ ds,0<=d/\d<10 ^ 18
inductive sp_draws (K:PySem.W.Frag) (vs:List V) (H:Hp) (Q:VK) (E_:XK):Prop
 | mk (a:Addr) (ns:List Int) (n:Int) (L:Kn) (_:vs=[.ref a,.int n]) (_:SqL K H a (ns.map V.int)) (_:ns.length<=63) (_:0<=n) (_:n<=1000) (_:Has H L) (_:∀ H' p ds,Has H' ((p,.lst (ds.map V.int))::L)->ds.length=n.toNat->Dr ds->Q (.ref p) H'):sp_draws K vs H Q E_
section
variable {P:Program}{w:World}{K:PySem.W.Frag}{mg:Str->Option Value}{base:Heap}{t:Adr}
theorem scD:FnScope ["_law_script","_law_many_here","_law_row","_law_base","_law_cell","_law_left","_law_turn"] ["_law_script","_law_many_here"] (ah lF):={}
theorem Dr.snoc {ds:List Int}{d:Int} (h:Dr ds) (h0:0<=d) (h1:d<10 ^ 18):Dr (ds++[d]):=fun x hx=>by
 rcases wq.mp hx with hx | hx
 ·exact h x hx
 ·have:x=d:=by simpa using hx
  subst this; exact⟨h0,h1⟩
theorem gO (ds:List Int) (d:Int):ds.map V.int++[V.int d]=(ds++[d]).map V.int:=by simp
theorem pi (T:Txt K mg t):FnOk P w K mg base CX0 1 t.f_draws t.d_draws ["_law_script","_law_many_here"] (sp_draws K):=by
 refine T.F_draws.ok scD (fun vs H Q E h=>?_) (fun cdv A outer s H vs Q E hr h=>?_)
 ·obtain⟨_,_,_,_,rfl,_⟩:=h
  rfl
 ·obtain⟨a,ns,n,L,rfl,hS,hns,hn0,hn1,hL,k⟩:=h
  refine⟨_,(ab (aB (i:=2) scD.nd rfl (Or.inl rfl) (a9 ae))
   (ab (aB (i:=3) scD.nd rfl (Or.inl rfl) ag)
   (ab (bm PassesOwn.never rfl (bW (cZ fS (pv 0) dN (dM ag))) (aj (i:=4) scD.nd rfl (Or.inl rfl))
    (ab (aB (i:=5) scD.nd rfl (Or.inl rfl) (aG qc (by rfl) T.z_abs (by rfl) (aa (pv 4) ae)))
     (ab (aB (i:=3) scD.nd rfl (Or.inl rfl) (aC bq (aC bh (aC bh (aC dj (pv 3) ag) (pv 5)) (aC dj ag (bb nK (by rfl) T.z_int (by rfl) (aa (cq eF (pv 4) ag (am _)) ae)))) ag))
     (af (av (ai eF (pv 5) (aC tZ ag ag) (am _))
      (af (al (bi PySem.F.plainAttrs_list PySem.F.slot_list_append PySem.F.type_list_append aL (pv 2) (aa (pv 5) ae))))
      (af (bm PassesOwn.never rfl (bP (by rfl) T.z_range (aa ag ae)) (aj (i:=6) scD.nd rfl (Or.inl rfl))
        (af (av (ai eG (pv 5) ag (am _))
          (ab (al (bi PySem.F.plainAttrs_list PySem.F.slot_list_append PySem.F.type_list_append aL (pv 2) (aa (aC bq (pv 5) ag) ae)))
           (af (aB (i:=5) scD.nd rfl (Or.inl rfl) (aC eJ (pv 5) ag))))
          ak)))))))))
   (ab (gA PassesOwn.never (ai eF (aG aA (by rfl) T.z_len (by rfl) (aa (pv 2) ae)) (pv 1) (am _))
    (ab (aB (i:=3) scD.nd rfl (Or.inl rfl) (aC bq (aC bh (aC dj (pv 3) ag) ag) ag))
     (af (al (bi PySem.F.plainAttrs_list PySem.F.slot_list_append PySem.F.type_list_append aL (pv 2) (aa (aC bq (aC eJ (aC dj (pv 3) (pv 3)) ag) ag) ae))))))
   (af (ao (cZ fS (pv 2) dN (dM (pv 1))))))))),?_⟩
  refine⟨by decide,fun r hr0=>?_⟩
  have h1:=hL.alloc hr0 (.lst [])
  have hS1:SqL K (upd H r (.lst [])) a (ns.map V.int):=hS.alloc hr0
  generalize upd H r (.lst [])=H1 at *
  refine⟨_,U,_,U,a,_,U,hS1,fun sl hsl=>?_⟩
  have h2:=h1.alloc hsl (.lst (cQ (ns.map V.int) none (some 63)))
  generalize upd H1 sl (.lst (cQ (ns.map V.int) none (some 63)))=H2 at *
  refine⟨sl,U,⟨_,SqL.of (h2.get 0 U)⟩,?_⟩
  refine cA (K:=K) (a:=sl) (xs:=cQ (ns.map V.int) none (some 63)) (fun i σ H'=>∃ (row:List Int) (b:Int) (c l t:Option V),σ=[some (.ref a),some (.int n),some (.ref r),some (.int b),c,l,t] /\
   Has H' ((r,.lst (row.map V.int))::(sl,.lst (cQ (ns.map V.int) none (some 63)))::L)/\row.length<=60*i/\Dr row/\0<=b/\b<2147483647)
   ⟨[],7,none,none,none,U,h2.swap2,Nat.zero_le _,(fun _ h=>nomatch h),by decide,by decide⟩ (fun i σ H' _ ⟨row,b,c,l,t,_,h,_⟩=>SqL.of (h.get 1 U)) ?_ ?_
  ·rintro i y σ H' hi ⟨row,b,c,l,t,rfl,h3,hlen,hd,b0,b1⟩
   have hi63:i<63:=by
    have h5:=(List.getElem?_eq_some_iff.mp hi).1
    rw[eZ _ _ (by decide),wy,v9] at h5
    omega
   obtain⟨z,rfl⟩:∃ z,y=V.int z:=by
    rw[eZ _ _ (by decide),List.getElem?_take_of_lt (by omega),wd] at hi
    cases e:ns[i]? with
    | none=>rw[e] at hi; cases hi
    | some z=>rw[e] at hi; exact⟨z,(Option.some.inj hi).symm⟩
   refine⟨_,U,_,U,?_⟩
   have hab:0<=(if z<0 then -z else z):=by split <;> omega
   generalize (if z<0 then -z else z)=left at *
   refine⟨_,U,_,_,U,U,.inl ⟨by omega,by omega⟩,_,U,_,_,U,U,_,U,_,_,U,U,.inr ⟨_,U,_,_,U,U,.inl ⟨by decide,by decide⟩,_,_,U,U,_,_,U,U,(show(0:Int)<2147483647 by decide),?_⟩⟩
   have hb0:=Int.emod_nonneg (b*48271+left+2*(if decide (z<0)=true then 1 else 0)) (show(2147483647:Int)≠0 by decide)
   have hb1:=Int.emod_lt_of_pos (b*48271+left+2*(if decide (z<0)=true then 1 else 0)) (show(0:Int)<2147483647 by decide)
   refine⟨_,U,_,_,U,U,⟨by decide,by decide,by decide⟩,_,_,U,U,_,U,?_⟩
   refine j8 (fun hc=>?_) (fun hc=>?_)
   ·have hc':left<10 ^ 18:=of_decide_eq_true hc
    refine⟨_,U,.inl ⟨U,_,SqL.of (h3.get 0 U)⟩,_,U,r,_,_,U,U,h3.get 0 U,?_,?_⟩
    ·rw[v9]
     exact sizeOk (by omega)
    ·refine⟨row++[left],_,_,_,_,U,?_,?_,hd.snoc hab hc',hb0,hb1⟩
     ·rw[<- gO]
      exact h3.puti 0 U _
     ·rw[wf,wB]; omega
   ·-- for turn in range(60)
    refine⟨_,U,by decide,by decide,bF (n:=60) (fun j σ H2=>∃ (row2:List Int) (l2:Int) (t2:Option V) (b2:Int),0<=b2/\b2<2147483647/\σ=[some (.ref a),some (.int n),some (.ref r),some (.int b2),some (.int z),some (.int l2),t2] /\
     Has H2 ((r,.lst (row2.map V.int))::(sl,.lst (cQ (ns.map V.int) none (some 63)))::L)/\row2.length<=row.length+j/\Dr row2/\0<=l2) ⟨row,_,_,_,hb0,hb1,U,h3,Nat.le_add_right _ _,hd,hab⟩ ?_ ?_⟩
    ·rintro j σ H2 hj ⟨row2,l2,t2,b2,hb20,hb21,rfl,h4,hlen2,hd2,hl2⟩
     refine⟨_,U,_,_,U,U,_,U,?_⟩
     refine j8 (fun hc2=>?_) (fun hc2=>?_)
     ·refine⟨_,U,.inl ⟨U,_,SqL.of (h4.get 0 U)⟩,_,U,_,_,U,U,(show(0:Int)<10007 by decide),r,_,_,U,U,h4.get 0 U,?_,?_⟩
      ·rw[v9]
       exact sizeOk (by omega)
      ·refine⟨_,U,_,_,U,U,⟨by decide,by decide⟩,?_⟩
       refine⟨row2++[l2 % 10007],_,_,_,hb20,hb21,U,?_,?_,hd2.snoc (Int.emod_nonneg _ (by decide)) (Int.lt_trans (Int.emod_lt_of_pos _ (by decide)) (by decide)),Int.ediv_nonneg hl2 (by decide)⟩
       ·rw[<- gO]
        exact h4.puti 0 U _
       ·rw[wf,wB]; omega
     ·exact⟨row2,l2,_,b2,hb20,hb21,U,h4,by omega,hd2,hl2⟩
    ·rintro σ H2 ⟨row2,l2,t2,b2,hb20,hb21,rfl,h4,hlen2,hd2,hl2⟩
     exact⟨row2,b2,_,_,_,U,h4,by omega,hd2,hb20,hb21⟩
  ·rintro σ H' ⟨row,b,c,l,t,rfl,h3,hlen,hd,b0,b1⟩
   have hlx:(cQ (ns.map V.int) none (some 63)).length<=63:=by
    rw[eZ _ _ (by decide),wy]; omega
   refine nR (fun σ H'=>∃ (row:List Int) (b:Int) (c l t:Option V),σ=[some (.ref a),some (.int n),some (.ref r),some (.int b),c,l,t]/\Has H' ((r,.lst (row.map V.int))::L)/\row.length<=4000/\Dr row/\0<=b/\b<2147483647)
    (fun σ H'=>match H' r with | some (.lst xs)=>n.toNat - xs.length | _=>0) ⟨row,b,c,l,t,U,h3.swap2.tail,by omega,hd,b0,b1⟩ ?_ ?_
   ·rintro σ H' ⟨row,b,c,l,t,rfl,h4,hlen,hd,b0,b1⟩
    refine⟨_,U,r,_,U,.inl (SqL.of (h4.get 0 U)),_,U,_,_,U,U,_,U,?_⟩
    rw[v9]
    refine j8 (fun hc=>?_) (fun hc=>?_)
    ·have hc':(row.length:Int)<n:=of_decide_eq_true hc
     refine⟨_,U,_,_,U,U,.inl ⟨by omega,by omega⟩,_,_,U,U,_,_,U,U,(show(0:Int)<2147483647 by decide),?_⟩
     have hb0:=Int.emod_nonneg (b*69621+12289) (show(2147483647:Int)≠0 by decide)
     have hb1:=Int.emod_lt_of_pos (b*69621+12289) (show(0:Int)<2147483647 by decide)
     refine⟨_,U,.inl ⟨U,_,SqL.of (h4.get 0 U)⟩,_,U,_,U,_,_,U,U,.inl ⟨?_,?_⟩,_,_,U,U,⟨by decide,by decide⟩,_,_,U,U,(show(0:Int)<10007 by decide),r,_,_,U,U,h4.get 0 U,?_,?_⟩
     ·show -(2 ^ 64)<(b*69621+12289) % 2147483647
      omega
     ·show(b*69621+12289) % 2147483647<2 ^ 64
      omega
     ·rw[v9]
      exact sizeOk (by omega)
     ·have hq0:=Int.emod_nonneg ((b*69621+12289) % 2147483647*((b*69621+12289) % 2147483647) / 4099) (show(10007:Int)≠0 by decide)
      have hq1:=Int.emod_lt_of_pos ((b*69621+12289) % 2147483647*((b*69621+12289) % 2147483647) / 4099) (show(0:Int)<10007 by decide)
      refine⟨⟨row++[(b*69621+12289) % 2147483647*((b*69621+12289) % 2147483647) / 4099 % 10007],_,_,_,_,U,?_,?_,hd.snoc hq0 (Int.lt_trans hq1 (by decide)),hb0,hb1⟩,?_⟩
      ·rw[<- gO]
       exact h4.puti 0 U _
      ·rw[wf,wB]; omega
      ·have e1:H' r=some (.lst (row.map V.int)):=h4.get 0 rfl
       simp only[e1,bJ,wf,v9,wB]
       omega
    ·have hc':¬ (row.length:Int)<n:=fun z=>hc (decide_eq_true z)
     refine⟨_,U,_,U,_,U,r,_,U,SqL.of (h4.get 0 U),fun p hp=>?_⟩
     refine k _ p (row.take n.toNat) ?_ (by rw[wy]; omega) (fun d hd'=>hd d (List.mem_of_mem_take hd'))
     have h5:=(h4.tail).alloc hp (.lst (cQ (row.map V.int) none (some n)))
     rw[eZ _ _ hn0,<- List.map_take] at h5 ⊢
     exact h5
   ·rintro σ H' Q1 Q2 hQ ⟨v,e,p,ys,e2,h,w',e3,i,j,e4,e5,c,e6,q⟩
    exact⟨v,e,p,ys,e2,h,w',e3,i,j,e4,e5,c,e6,hQ _ _ q⟩
end
noncomputable def ol:Sp:=fun vs H Q _=>∃ i:Int,vs=[.int i]/\Q (.bl true) H
noncomputable def sp_is:Sp:=fun vs H Q _=>∃ i j:Int,vs=[.int i,.int j]/\Q (.bl (decide (i=j))) H
theorem uv (K:PySem.W.Frag):W.kitOne K (.type "int") (.type "int")=some true:=by kernel_rfl
theorem uw (K:PySem.W.Frag):W.kitOne K (.type "int") (.type "bool")=some false:=by kernel_rfl
theorem ut (K:PySem.W.Frag):W.kitOne K (.type "tuple") (.type "tuple")=some true:=by kernel_rfl
theorem uu (K:PySem.W.Frag):W.kitOne K (.type "list") (.type "list")=some true:=by kernel_rfl
section
variable {P:Program}{w:World}{K:PySem.W.Frag}{mg:Str->Option Value}{base:Heap}{t:Adr}
theorem scWh:FnScope ["_law_found"] ["_law_found"] (ah lA):={}
theorem pc (T:Txt K mg t):FnOk P w K mg base CX0 1 t.f_whole t.d_whole ["_law_found"] ol:=by
 refine T.F_whole.ok scWh (fun vs H Q E h=>?_) (fun cdv A outer s H vs Q E hr h=>?_)
 ·obtain⟨_,rfl,_⟩:=h
  rfl
 ·obtain⟨i,rfl,k⟩:=h
  refine⟨_,(af (ao (gF (aG fe (by rfl) T.z_isinstance (by rfl) (aa (pv 0) (aa (fT (v:=.ty "int") (by rfl) T.z_int (by rfl) rfl) ae))) (ft (tY (aG fe (by rfl) T.z_isinstance (by rfl) (aa (pv 0) (aa (fT (v:=.ty "bool") (by rfl) T.z_bool (by rfl) rfl) ae)))))))),?_⟩
  refine⟨_,U,_,_,_,_,U,.int i,uv K,_,U,da ?_⟩
  exact⟨_,U,_,_,_,_,U,.int i,uw K,_,U,k⟩
theorem scIs:FnScope ["_law_found","_law_due"] ["_law_found","_law_due"] (ah vf):={}
theorem dn (T:Txt K mg t):FnOk P w K mg base CX0 2 t.f_is t.d_is ["_law_found","_law_due"] sp_is:=by
 refine T.F_is.ok scIs (fun vs H Q E h=>?_) (fun cdv A outer s H vs Q E hr h=>?_)
 ·obtain⟨_,_,rfl,_⟩:=h
  rfl
 ·obtain⟨i,j,rfl,k⟩:=h
  refine⟨_,(af (ao (gF (pcl (pc T) hr T.m_whole T.F_whole.kp (rD T) (aa (pv 0) ae)) (ft (cq bj (pv 0) (pv 1) (am _)))))),?_⟩
  refine⟨_,U,i,U,_,U,da ?_⟩
  refine⟨_,U,_,U,U,?_⟩
  have e:decide (V.int i=V.int j)=decide (i=j):=by by_cases h:i=j <;> simp[h]
  rw[e]
  exact k
end
inductive Kd where | line | bell | still | lazy | turning | stop
 deriving DecidableEq
noncomputable def Kd.str:Kd->Str
 | .line => "line" | .bell => "bell" | .still => "still" | .lazy => "lazy" | .turning => "turning" | .stop => "stop"
noncomputable def Kd.many:Kd->Int
 | .line=>2 | .bell=>2 | .still=>3 | .lazy=>3 | .turning=>3 | .stop=>1
noncomputable def Kd.point:Kd->Bool
 | .still=>true | .lazy=>true | .turning=>true | _=>false
noncomputable def endsD:List (Str×PyData):=[("line",.int 2),("bell",.int 2),("stop",.int 1),("still",.int 3),("lazy",.int 3),("turning",.int 3)]
theorem Kd.inEnds (k:Kd):(endsD.any fun p=>decide (k.str=p.1))=true:=by cases k <;> decide +kernel
theorem Kd.atEnds (k:Kd):endsD.lookup k.str=some (.int k.many):=by cases k <;> rfl
theorem nB:(endsD.all fun p=>match p.2 with | .int _=>true | _=>false)=true:=by decide +kernel
theorem Kd.inPoints (k:Kd):inV (.str k.str) [.str "still",.str "lazy",.str "turning"]=k.point:=by cases k <;> decide +kernel
theorem Kd.isStop (k:Kd):decide (V.str k.str=V.str "stop")=decide (k=.stop):=by cases k <;> decide +kernel
theorem Kd.isTurning (k:Kd):decide (V.str k.str=V.str "turning")=decide (k=.turning):=by cases k <;> decide +kernel
theorem Kd.isLazy (k:Kd):decide (V.str k.str=V.str "lazy")=decide (k=.lazy):=by cases k <;> decide +kernel
theorem Kd.isBell (k:Kd):decide (V.str k.str=V.str "bell")=decide (k=.bell):=by cases k <;> decide +kernel
theorem Kd.isLine (k:Kd):decide (V.str k.str=V.str "line")=decide (k=.line):=by cases k <;> decide +kernel
noncomputable def Kd.out (k:Kd) (e s:Int):V:=if k=.stop then .non else if k.point then(if e=0 then .int s else .int 0) else .int (1 - e)
noncomputable def Kd.side (k:Kd) (e s:Int):Int:=if k.point then(if e=0 then(if k=.turning then 3 - s else s) else(if k=.lazy then e else s)) else s
noncomputable def tI:Sp:=fun vs H Q _=>∃ k:Kd,vs=[.str k.str]/\Q (.int k.many) H
noncomputable def tJ:Sp:=fun vs H Q _=>∃ k:Kd,vs=[.str k.str]/\Q (.bl k.point) H
inductive sp_Jr (vs:List V) (H:Hp) (Q:VK) (E_:XK):Prop
 | mk (k:Kd) (e:Int) (_:vs=[.str k.str,.int e]) (_:0<=e) (_:e<k.many) (_:Q .non H):sp_Jr vs H Q E_
inductive sp_Je (vs:List V) (H:Hp) (Q:VK) (E_:XK):Prop
 | mk (s:Int) (_:vs=[.int s]) (_:(s=1∨s=2)) (_:Q .non H):sp_Je vs H Q E_
inductive sp_Ja1 (vs:List V) (H:Hp) (Q:VK) (E_:XK):Prop
 | mk (k:Kd) (e s:Int) (v:V) (_:vs=[.str k.str,.int e,v]) (_:0<=e) (_:e<k.many) (_:(k.point=true->v=.int s/\(s=1∨s=2))) (_:∀ p,H p=none->Q (.ref p) (upd H p (.tup [k.out e s,if k.point then .int (k.side e s) else v]))):sp_Ja1 vs H Q E_
inductive sp_J7 (vs:List V) (H:Hp) (Q:VK) (E_:XK):Prop
 | mk (k:Kd) (e s:Int) (_:vs=[.str k.str,.int e,.int s]) (_:k.point=true) (_:∀ p,H p=none->Q (.ref p) (upd H p (.tup [k.out e s,.int (k.side e s)]))):sp_J7 vs H Q E_
section
variable {P:Program}{w:World}{K:PySem.W.Frag}{mg:Str->Option Value}{base:Heap}{t:Adr}
theorem hJ (i j:Int):decide (V.int i=V.int j)=decide (i=j):=by by_cases h:i=j <;> simp[h]
theorem scEo:FnScope ["kind"] ["kind"] (ah sr):={}
theorem kO (T:Txt K mg t):FnOk P w K mg base CX0 1 t.f_Jb1 t.d_Jb1 ["kind"] tI:=by
 refine T.F_Jb1.ok scEo (fun vs H Q E h=>?_) (fun cdv A outer s H vs Q E hr h=>?_)
 ·obtain⟨_,rfl,_⟩:=h
  rfl
 ·obtain⟨k,rfl,q⟩:=h
  obtain⟨aE,eE,hE⟩:=T.x_ENDS
  have T_r_ENDS:RelV (.ref aE) t.u_ENDS:=by rw[eE]; rfl
  refine⟨_,(ab (av (ai iG (pv 0) (bX (by rfl) T.g_ENDS T_r_ENDS) (by rfl))
    (af aX)
    ak)
   (af (ao (aI uE (bX (by rfl) T.g_ENDS T_r_ENDS) (pv 0))))),?_⟩
  refine⟨_,U,_,aE,endsD,U,U,hE,_,U,?_⟩
  rw[k.inEnds]
  exact⟨_,U,_,aE,endsD,_,U,U,hE,k.atEnds,nB,q⟩
theorem scIp:FnScope ["kind"] ["kind"] (ah sF):={}
theorem jb (T:Txt K mg t):FnOk P w K mg base CX0 1 t.f_J31 t.d_J31 ["kind"] tJ:=by
 refine T.F_J31.ok scIp (fun vs H Q E h=>?_) (fun cdv A outer s H vs Q E hr h=>?_)
 ·obtain⟨_,rfl,_⟩:=h
  rfl
 ·obtain⟨k,rfl,q⟩:=h
  obtain⟨aE,eE,hE⟩:=T.x_ENDS
  have T_r_ENDS:RelV (.ref aE) t.u_ENDS:=by rw[eE]; rfl
  obtain⟨aP,oP,its,n,eP,h1,h2,h3,h4,h5⟩:=T.x_POINTS
  have T_r_POINTS:RelV (.ref aP) t.u_POINTS:=by rw[eP]; rfl
  refine⟨_,(ab (av (ai iG (pv 0) (bX (by rfl) T.g_ENDS T_r_ENDS) (by rfl))
    (af aX)
    ak)
   (af (ao (cq iH (pv 0) (bX (by rfl) T.g_POINTS T_r_POINTS) (by rfl))))),?_⟩
  refine⟨_,U,_,aE,endsD,U,U,hE,_,U,?_⟩
  rw[k.inEnds]
  refine⟨_,U,aP,_,U,.inr (.inr ⟨oP,its,n,h1,h2,h3,h4,h5⟩),U,by decide,?_⟩
  rw[if_neg Bool.false_ne_true,k.inPoints]
  exact q
theorem scCe:FnScope ["kind","end","many"] ["kind","end"] (ah vq):={}
theorem sO (T:Txt K mg t):FnOk P w K mg base CX0 2 t.f_Jr t.d_Jr ["kind","end"] sp_Jr:=by
 refine T.F_Jr.ok scCe (fun vs H Q E h=>?_) (fun cdv A outer s H vs Q E hr h=>?_)
 ·obtain⟨_,_,rfl,_⟩:=h
  rfl
 ·obtain⟨k,e,rfl,e0,e1,q⟩:=h
  refine⟨_,(ab (aB (i:=2) scCe.nd rfl (Or.inl rfl) (pcl (kO T) hr T.m_Jb1 T.F_Jb1.kp (qg T) (aa (pv 0) ae)))
   (af (av (PW.pt (cY (ai eF (pv 1) ag (am _)) (cc (ai jR (pv 1) (pv 2) (am _)))))
    (af aX)
    ak))),?_⟩
  refine⟨_,U,k,U,?_⟩
  refine⟨_,U,_,_,U,U,_,U,?_⟩
  refine ifF (decide_eq_false (by omega)) ?_
  refine⟨_,U,_,U,_,_,U,U,_,U,?_⟩
  exact ifF (decide_eq_false (by omega)) q
theorem scCs:FnScope ["side"] ["side"] (ah vF):={}
theorem pC (T:Txt K mg t):FnOk P w K mg base CX0 1 t.f_Je t.d_Je ["side"] sp_Je:=by
 refine T.F_Je.ok scCs (fun vs H Q E h=>?_) (fun cdv A outer s H vs Q E hr h=>?_)
 ·obtain⟨_,rfl,_⟩:=h
  rfl
 ·obtain⟨z,rfl,hz,q⟩:=h
  refine⟨_,(af (av (PW.pt (de (ai dB (pv 0) ag (am _)) (cG (ai dB (pv 0) ag (am _)))))
    (af aX)
    ak)),?_⟩
  refine⟨_,U,U,_,U,?_⟩
  rw[hJ]
  refine vV (fun hc=>?_) (fun hc=>bz q)
  refine⟨_,U,U,_,U,?_⟩
  rw[hJ]
  exact ifF (by simp; omega) q
theorem scPp:FnScope ["kind","end","side"] ["kind","end","side"] (ah vM):={}
theorem ok_J7 (T:Txt K mg t):FnOk P w K mg base CX0 1 t.f_J7 t.d_J7 ["kind","end","side"] sp_J7:=by
 refine T.F_J7.ok scPp (fun vs H Q E h=>?_) (fun cdv A outer s H vs Q E hr h=>?_)
 ·obtain⟨_,_,_,rfl,_⟩:=h
  rfl
 ·obtain⟨k,e,z,rfl,hk,q⟩:=h
  have ns:¬ k=.stop:=fun h=>by rw[h] at hk; cases hk
  refine⟨_,(ab (av (ai bj (pv 1) (bX (by rfl) T.g_STEM T.r_STEM) (am _))
    (af (ao (aR (aa (pv 2) (aa (dA (ai bj (pv 0) az (am _)) (aC d4 ag (pv 2)) (pv 2)) ae)))))
    ak)
   (af (ao (aR (aa (bX (by rfl) T.g_STEM T.r_STEM) (aa (dA (ai bj (pv 0) az (am _)) (pv 1) (pv 2)) ae)))))),?_⟩
  refine⟨_,U,U,_,U,?_⟩
  rw[hJ]
  refine j8 (fun hc=>?_) (fun hc=>?_)
  ·have he:e=0:=of_decide_eq_true hc
   refine⟨_,U,_,U,U,_,U,?_⟩
   rw[k.isTurning]
   have o1:k.out e z=.int z:=by unfold Kd.out; rw[if_neg ns,if_pos hk,if_pos he]
   have o2:k.side e z=if k=.turning then 3 - z else z:=by unfold Kd.side; rw[if_pos hk,if_pos he]
   rw[o1,o2] at q
   refine j8 (fun hc=>?_) (fun hc=>?_)
   ·rw[if_pos (of_decide_eq_true hc)] at q
    exact⟨_,U,_,_,U,U,(show 2<=sizeLine by decide),fun p hp=>q p hp⟩
   ·rw[if_neg (fun h=>hc (decide_eq_true h))] at q
    exact⟨_,U,(show 2<=sizeLine by decide),fun p hp=>q p hp⟩
  ·have he:¬ e=0:=fun h=>hc (decide_eq_true h)
   refine⟨_,U,U,_,U,?_⟩
   rw[k.isLazy]
   have o1:k.out e z=.int 0:=by unfold Kd.out; rw[if_neg ns,if_pos hk,if_neg he]
   have o2:k.side e z=if k=.lazy then e else z:=by unfold Kd.side; rw[if_pos hk,if_neg he]
   rw[o1,o2] at q
   refine j8 (fun hc=>?_) (fun hc=>?_)
   ·rw[if_pos (of_decide_eq_true hc)] at q
    exact⟨_,U,(show 2<=sizeLine by decide),fun p hp=>q p hp⟩
   ·rw[if_neg (fun h=>hc (decide_eq_true h))] at q
    exact⟨_,U,(show 2<=sizeLine by decide),fun p hp=>q p hp⟩
theorem scPa:FnScope ["kind","end","side"] ["kind","end","side"] (ah su):={}
theorem uh (T:Txt K mg t):FnOk P w K mg base CX0 3 t.f_Ja1 t.d_Ja1 ["kind","end","side"] sp_Ja1:=by
 refine T.F_Ja1.ok scPa (fun vs H Q E h=>?_) (fun cdv A outer s H vs Q E hr h=>?_)
 ·obtain⟨_,_,_,_,rfl,_⟩:=h
  rfl
 ·obtain⟨k,e,z,v,rfl,e0,e1,hs,q⟩:=h
  refine⟨_,(ab (al (pcl (sO T) hr T.m_Jr T.F_Jr.kp (v0 T) (aa (pv 0) (aa (pv 1) ae))))
   (ab (av (bp (pcl (jb T) hr T.m_J31 T.F_J31.kp (mF T) (aa (pv 0) ae)))
    (ab (al (pcl (pC T) hr T.m_Je T.F_Je.kp (uW T) (aa (pv 2) ae)))
     (af (ao (pcl (ok_J7 T) hr T.m_J7 T.F_J7.kp (b_J7 T) (aa (pv 0) (aa (pv 1) (aa (pv 2) ae)))))))
    ak)
   (ab (av (ai bj (pv 0) az (am _))
    (af (ao (aR (aa aY (aa (pv 2) ae)))))
    ak)
   (af (ao (aR (aa (aC d4 ag (pv 1)) (aa (pv 2) ae)))))))),?_⟩
  refine⟨_,U,_,U,k,e,U,e0,e1,?_⟩
  refine⟨_,U,k,U,_,U,?_⟩
  refine j8 (fun hc=>?_) (fun hc=>?_)
  ·obtain⟨rfl,hz⟩:=hs hc
   rw[if_pos hc] at q
   exact⟨_,U,z,U,hz,_,U,_,U,_,U,k,e,z,U,hc,q⟩
  ·rw[if_neg hc] at q
   refine⟨_,U,U,_,U,?_⟩
   rw[k.isStop]
   refine j8 (fun hc2=>?_) (fun hc2=>?_)
   ·have hk:k=.stop:=of_decide_eq_true hc2
    subst hk
    exact⟨_,U,(show 2<=sizeLine by decide),fun p hp=>q p hp⟩
   ·have hk:¬ k=.stop:=fun h=>hc2 (decide_eq_true h)
    have o1:k.out e z=.int (1 - e):=by unfold Kd.out; rw[if_neg hk,if_neg hc]
    rw[o1] at q
    exact⟨_,U,_,_,U,U,_,U,(show 2<=sizeLine by decide),fun p hp=>q p hp⟩
end
noncomputable def qz:Sp:=fun vs H Q _=>∃ k:Kd,vs=[.str k.str]/\Q (.int k.many) H
section
variable {P:Program}{w:World}{K:PySem.W.Frag}{mg:Str->Option Value}{base:Heap}{t:Adr}
theorem scMa:FnScope ["_law_kind_here"] ["_law_kind_here"] (ah oH):={}
theorem i9 (T:Txt K mg t):FnOk P w K mg base CX0 1 t.f_many t.d_many ["_law_kind_here"] qz:=by
 refine T.F_many.ok scMa (fun vs H Q E h=>?_) (fun cdv A outer s H vs Q E hr h=>?_)
 ·obtain⟨_,rfl,_⟩:=h
  rfl
 ·obtain⟨k,rfl,q⟩:=h
  refine⟨_,(ab (av (ai bj (pv 0) az (am _))
    (af (ao ag))
    ak)
   (ab (av (PW.pt (cY (ai bj (pv 0) az (am _)) (cc (ai bj (pv 0) az (am _)))))
    (af (ao ag))
    ak)
   (af (ao ag)))),?_⟩
  refine⟨_,U,U,_,U,?_⟩
  rw[k.isStop]
  refine ifd (fun h=>?_) (fun h1=>?_)
  ·subst h; exact q
  refine⟨_,U,U,_,U,?_⟩
  rw[k.isLine]
  refine ifd (fun h=>?_) (fun h2=>?_)
  ·subst h; exact da q
  refine⟨_,U,U,_,U,?_⟩
  rw[k.isBell]
  refine ifd (fun h=>?_) (fun h3=>?_)
  ·subst h; exact q
  have e:k.many=3:=by cases k <;> first | rfl | contradiction
  rw[e] at q
  exact q
end
theorem Kd.out_point {k:Kd} (h:k.point=true) (e s:Int):k.out e s=if e=0 then .int s else .int 0:=by
 have ns:¬ k=.stop:=fun h'=>by rw[h'] at h; cases h
 unfold Kd.out; rw[if_neg ns,if_pos h]
theorem Kd.out_int {k:Kd} (h:¬ k=.stop) (e s:Int):∃ i,k.out e s=.int i:=by
 unfold Kd.out; rw[if_neg h]
 split
 ·split
  ·exact⟨_,U⟩
  ·exact⟨_,U⟩
 ·exact⟨_,U⟩
theorem Kd.many_point {k:Kd} (h:k.point=true):k.many=3:=by cases k <;> first | rfl | cases h
theorem Kd.side12 {k:Kd}{e s:Int} (e0:0<=e) (e1:e<k.many) (h:s=1∨s=2):k.side e s=1∨k.side e s=2:=by
 unfold Kd.side
 split
 ·rename_i hp
  have:=Kd.many_point hp
  split
  ·split <;> omega
  ·split <;> omega
 ·exact h
inductive sp_Jc1 (vs:List V) (H:Hp) (Q:VK) (E_:XK):Prop
 | mk (k:Kd) (e s:Int) (_:vs=[.str k.str,.int e,.int s]) (_:0<=e) (_:e<k.many) (_:∀ p,H p=none->Q (.ref p) (upd H p (.tup [k.out e s,.int (k.side e s)]))):sp_Jc1 vs H Q E_
section
variable {P:Program}{w:World}{K:PySem.W.Frag}{mg:Str->Option Value}{base:Heap}{t:Adr}
theorem scPs:FnScope ["_law_kind_here","_law_place","_law_side"] ["_law_kind_here","_law_place","_law_side"] (ah sn):={}
theorem ug (T:Txt K mg t):FnOk P w K mg base CX0 1 t.f_Jc1 t.d_Jc1 ["_law_kind_here","_law_place","_law_side"] sp_Jc1:=by
 refine T.F_Jc1.ok scPs (fun vs H Q E h=>?_) (fun cdv A outer s H vs Q E hr h=>?_)
 ·obtain⟨_,_,_,rfl,_⟩:=h
  rfl
 ·obtain⟨k,e,z,rfl,e0,e1,q⟩:=h
  have two:2<=sizeLine:=by decide
  refine⟨_,(ab (av (ai bj (pv 0) az (am _))
    (af (ao (aR (aa aY (aa (pv 2) ae)))))
    ak)
   (ab (av (PW.pt (cY (ai bj (pv 0) az (am _)) (cc (ai bj (pv 0) az (am _)))))
    (af (ao (aR (aa (aC d4 ag (pv 1)) (aa (pv 2) ae)))))
    ak)
   (ab (av (PW.pt (de (ai eG (pv 1) ag (am _)) (cG (ai bj (pv 0) az (am _)))))
    (af (ao (aR (aa ag (aa (pv 1) ae)))))
    ak)
   (ab (av (ai eG (pv 1) ag (am _))
    (af (ao (aR (aa ag (aa (pv 2) ae)))))
    ak)
   (ab (av (ai bj (pv 0) az (am _))
    (af (ao (aR (aa (pv 2) (aa (aC d4 ag (pv 2)) ae)))))
    ak)
   (af (ao (aR (aa (pv 2) (aa (pv 2) ae)))))))))),?_⟩
  refine⟨_,U,U,_,U,?_⟩
  rw[k.isStop]
  refine ifd (fun h=>?_) (fun h1=>?_)
  ·subst h; exact⟨_,U,two,fun p hp=>q p hp⟩
  have np:k.point=false->∀ p,H p=none->Q (.ref p) (upd H p (.tup [.int (1 - e),.int z])):=fun hk p hp=>by
   have:=q p hp
   unfold Kd.out Kd.side at this
   rw[if_neg h1,if_neg (by rw[hk]; exact Bool.false_ne_true),if_neg (by rw[hk]; exact Bool.false_ne_true)] at this
   exact this
  refine⟨_,U,U,_,U,?_⟩
  rw[k.isLine]
  refine ifd (fun h=>da ?_) (fun h2=>?_)
  ·subst h; exact⟨_,U,_,_,U,U,_,U,two,np rfl⟩
  refine⟨_,U,U,_,U,?_⟩
  rw[k.isBell]
  refine ifd (fun h=>?_) (fun h3=>?_)
  ·subst h; exact⟨_,U,_,_,U,U,_,U,two,np rfl⟩
  have hk:k.point=true:=by cases k <;> first | rfl | contradiction
  have q':∀ p,H p=none->Q (.ref p) (upd H p (.tup [if e=0 then .int z else .int 0,.int (if e=0 then(if k=.turning then 3 - z else z) else(if k=.lazy then e else z))])):=fun p hp=>by
   have:=q p hp
   rw[Kd.out_point hk] at this
   unfold Kd.side at this
   rw[if_pos hk] at this
   exact this
  refine⟨_,U,_,_,U,U,_,U,?_⟩
  refine ifd (fun hp=>?_) (fun hp=>?_)
  ·have he:¬ e=0:=by omega
   rw[if_neg he] at q'
   refine⟨_,U,U,_,U,?_⟩
   rw[k.isLazy]
   refine ifd (fun h=>?_) (fun h=>?_)
   ·rw[if_neg he,if_pos h] at q'
    exact⟨_,U,two,q'⟩
   ·rw[if_neg he,if_neg h] at q'
    refine⟨_,U,_,_,U,U,_,U,ifT (decide_eq_true (by omega)) ?_⟩
    exact⟨_,U,two,q'⟩
  ·have he:e=0:=by omega
   rw[if_pos he,if_pos he] at q'
   refine bz ?_
   refine⟨_,U,_,_,U,U,_,U,ifF (decide_eq_false (by omega)) ?_⟩
   refine⟨_,U,U,_,U,?_⟩
   rw[k.isTurning]
   refine ifd (fun h=>?_) (fun h=>?_)
   ·rw[if_pos h] at q'
    exact⟨_,U,_,U,_,_,U,U,two,q'⟩
   ·rw[if_neg h] at q'
    exact⟨_,U,_,U,two,q'⟩
end
structure YA where
 p:Addr
 dx:Addr
 tr:Addr
 k:Addr
 n:Addr
 r:Addr
 s:Addr
 m:Addr
 g:Addr
structure YR where
 next:Int
 kinds:List (Key×V)
 notes:List (Key×V)
 rods:List (Key×V)
 sides:List V
 mates:List (List Key×V)
 eng:V
 rung:List V
 trail:List V
noncomputable def fl (A:YA) (next:Int) (eng:V):List (Str×V) :=
 [("next_piece",.int next),("kinds",.ref A.k),("notes",.ref A.n),("rods_under",.ref A.r),("sides",.ref A.s),("mates",.ref A.m),("engine_end",eng),("rung",.ref A.g),("trail",.ref A.tr)]
noncomputable def yL (C:Addr) (A:YA) (y:YR):Kn :=
 [(A.tr,.lst y.trail),(A.p,.ins C A.dx (fl A y.next y.eng)),(A.dx,.own A.p),(A.k,.dK y.kinds),(A.n,.dK y.notes),(A.r,.dK y.rods),(A.s,.lst y.sides),(A.m,.dT y.mates),(A.g,.lst y.rung)]
noncomputable def y0:YR:=⟨0,[],[],[],[],[],.non,[],[]⟩
section
variable (A:YA) (next:Int) (eng:V)
theorem f7:(fl A next eng).lookup ("next_piece" : Str)=some (.int next):=by kernel_rfl
theorem cB:(fl A next eng).lookup ("kinds" : Str)=some (.ref A.k):=by kernel_rfl
theorem bN:(fl A next eng).lookup ("notes" : Str)=some (.ref A.n):=by kernel_rfl
theorem b5:(fl A next eng).lookup ("rods_under" : Str)=some (.ref A.r):=by kernel_rfl
theorem bM:(fl A next eng).lookup ("sides" : Str)=some (.ref A.s):=by kernel_rfl
theorem db:(fl A next eng).lookup ("mates" : Str)=some (.ref A.m):=by kernel_rfl
theorem fC:(fl A next eng).lookup ("engine_end" : Str)=some eng:=by kernel_rfl
theorem eV:(fl A next eng).lookup ("rung" : Str)=some (.ref A.g):=by kernel_rfl
theorem gY:(fl A next eng).lookup ("trail" : Str)=some (.ref A.tr):=by kernel_rfl
theorem jo (q:Addr):bE "trail" (.ref q) (fl A next eng)=fl { A with tr:=q } next eng:=by kernel_rfl
theorem dG (n':Int):bE "next_piece" (.int n') (fl A next eng)=fl A n' eng:=by kernel_rfl
theorem bx (e':V):bE "engine_end" e' (fl A next eng)=fl A next e':=by kernel_rfl
end
theorem bC (A:YA) (next:Int) (eng:V):(fl A next eng).lookup ("lay" : Str)=none/\(fl A next eng).lookup ("new_rod" : Str)=none/\(fl A next eng).lookup ("throw" : Str)=none/\(fl A next eng).lookup ("rods" : Str)=none/\(fl A next eng).lookup ("rod" : Str)=none /\
  (fl A next eng).lookup ("side" : Str)=none/\(fl A next eng).lookup ("end_trail" : Str)=none/\(fl A next eng).lookup ("check_piece" : Str)=none/\(fl A next eng).lookup ("check_rod" : Str)=none :=
 ⟨by kernel_rfl,by kernel_rfl,by kernel_rfl,by kernel_rfl,by kernel_rfl,by kernel_rfl,by kernel_rfl,by kernel_rfl,by kernel_rfl⟩
inductive sp_init (C:Addr) (vs:List V) (H:Hp) (Q:VK) (E_:XK):Prop
 | mk (p dx:Addr) (L:Kn) (_:vs=[.ref p]) (_:Has H ((p,.ins C dx [])::(dx,.own p)::L)) (_:∀ H' A,A.p=p->Has H' (yL C A y0++L)->Q .non H'):sp_init C vs H Q E_
inductive sp_end_trail (C:Addr) (vs:List V) (H:Hp) (Q:VK) (E_:XK):Prop
 | mk (A:YA) (y:YR) (L:Kn) (_:vs=[.ref A.p]) (_:Has H (yL C A y++L)) (_:∀ H' q,Has H' (yL C { A with tr:=q } { y with trail:=[] }++L)->Q .non H'):sp_end_trail C vs H Q E_
variable{L:Kn}
theorem nt {H:Hp}{C p dx a1 a2 a3 a4 a5 a7 a8:Addr}{fs:List (Str×V)} (h:Has H ((a8,.lst [])::(a7,.lst [])::(a5,.dT [])::(a4,.lst [])::(a3,.dK [])::(a2,.dK [])::(a1,.dK [])::(p,.ins C dx fs)::(dx,.own p)::L)) :
  Has H ([(a8,.lst []),(p,.ins C dx fs),(dx,.own p),(a1,.dK []),(a2,.dK []),(a3,.dK []),(a4,.lst []),(a5,.dT []),(a7,.lst [])]++L):=by
 refine h.perm ?_
 refine .cons _ ?_
 show List.Perm ([(a7,HO.lst []),(a5,.dT []),(a4,.lst []),(a3,.dK []),(a2,.dK []),(a1,.dK []),(p,.ins C dx fs),(dx,.own p)]++L) ([(p,.ins C dx fs),(dx,.own p),(a1,.dK []),(a2,.dK []),(a3,.dK []),(a4,.lst []),(a5,.dT []),(a7,.lst [])]++L)
 refine List.Perm.append_right L ?_
 have e:[(a7,HO.lst []),(a5,.dT []),(a4,.lst []),(a3,.dK []),(a2,.dK []),(a1,.dK []),(p,.ins C dx fs),(dx,.own p)]=[(a7,HO.lst []),(a5,.dT []),(a4,.lst []),(a3,.dK []),(a2,.dK []),(a1,.dK [])]++[(p,.ins C dx fs),(dx,.own p)]:=rfl
 rw[e]
 refine List.perm_append_comm.trans ?_
 refine .cons _ (.cons _ ?_)
 exact List.reverse_perm [(a1,HO.dK []),(a2,.dK []),(a3,.dK []),(a4,.lst []),(a5,.dT []),(a7,.lst [])]
section
variable {P:Program}{w:World}{K:PySem.W.Frag}{mg:Str->Option Value}{base:Heap}{t:Adr}
theorem scYi:FnScope ["self"] ["self"] (ah vp):={}
theorem sM (T:Txt K mg t):FnOk P w K mg base CX0 1 t.f_Ju t.d_Ju ["self"] (sp_init t.c_Yard):=by
 refine T.F_Ju.ok scYi (fun vs H Q E h=>?_) (fun cdv A outer s H vs Q E hr h=>?_)
 ·obtain⟨_,_,_,rfl,_⟩:=h
  rfl
 ·obtain⟨p,dx,L,rfl,hH,q⟩:=h
  refine⟨_,(ab (bK (pv 0) ag rfl)
   (ab (bK (pv 0) gD rfl)
   (ab (bK (pv 0) gD rfl)
   (ab (bK (pv 0) gD rfl)
   (ab (bK (pv 0) (a9 ae) rfl)
   (ab (bK (pv 0) jP rfl)
   (ab (bK (pv 0) aY rfl)
   (ab (bK (pv 0) (a9 ae) rfl)
   (af (bK (pv 0) (a9 ae) rfl)))))))))),?_⟩
  refine⟨_,U,p,_,dx,_,U,hH.get 0 U,T.cl_Yard,T.n_Yard_next_piece,(show 0<1000 by decide),?_⟩
  have h1:=hH.puti 0 U (.ins t.c_Yard dx (bE ("next_piece" : Str) (V.int 0) ([]:List (Str×V))))
  rw[show bE ("next_piece" : Str) (V.int 0) ([]:List (Str×V))=([(("next_piece" : Str),V.int 0)]:List (Str×V)) from by kernel_rfl] at h1 ⊢
  generalize upd H p _=H1 at h1 ⊢
  intro a1 n1
  refine⟨_,U,p,_,dx,_,U,(h1.alloc n1 (.dK [])).get 1 U,T.cl_Yard,T.n_Yard_kinds,(show 1<1000 by decide),?_⟩
  have h2:=(h1.alloc n1 (.dK [])).puti 1 U (.ins t.c_Yard dx (bE ("kinds" : Str) (V.ref a1) ([(("next_piece" : Str),V.int 0)]:List (Str×V))))
  rw[show bE ("kinds" : Str) (V.ref a1) ([(("next_piece" : Str),V.int 0)]:List (Str×V))=([(("next_piece" : Str),V.int 0),(("kinds" : Str),V.ref a1)]:List (Str×V)) from by kernel_rfl] at h2 ⊢
  generalize upd (upd H1 a1 _) p _=H2 at h2 ⊢
  intro a2 n2
  refine⟨_,U,p,_,dx,_,U,(h2.alloc n2 (.dK [])).get 2 U,T.cl_Yard,T.n_Yard_notes,(show 2<1000 by decide),?_⟩
  have h3:=(h2.alloc n2 (.dK [])).puti 2 U (.ins t.c_Yard dx (bE ("notes" : Str) (V.ref a2) ([(("next_piece" : Str),V.int 0),(("kinds" : Str),V.ref a1)]:List (Str×V))))
  rw[show bE ("notes" : Str) (V.ref a2) ([(("next_piece" : Str),V.int 0),(("kinds" : Str),V.ref a1)]:List (Str×V))=([(("next_piece" : Str),V.int 0),(("kinds" : Str),V.ref a1),(("notes" : Str),V.ref a2)]:List (Str×V)) from by kernel_rfl] at h3 ⊢
  generalize upd (upd H2 a2 _) p _=H3 at h3 ⊢
  intro a3 n3
  refine⟨_,U,p,_,dx,_,U,(h3.alloc n3 (.dK [])).get 3 U,T.cl_Yard,T.n_J01_under,(show 3<1000 by decide),?_⟩
  have h4:=(h3.alloc n3 (.dK [])).puti 3 U (.ins t.c_Yard dx (bE ("rods_under" : Str) (V.ref a3) ([(("next_piece" : Str),V.int 0),(("kinds" : Str),V.ref a1),(("notes" : Str),V.ref a2)]:List (Str×V))))
  rw[show bE ("rods_under" : Str) (V.ref a3) ([(("next_piece" : Str),V.int 0),(("kinds" : Str),V.ref a1),(("notes" : Str),V.ref a2)]:List (Str×V))=([(("next_piece" : Str),V.int 0),(("kinds" : Str),V.ref a1),(("notes" : Str),V.ref a2),(("rods_under" : Str),V.ref a3)]:List (Str×V)) from by kernel_rfl] at h4 ⊢
  generalize upd (upd H3 a3 _) p _=H4 at h4 ⊢
  refine⟨by decide,fun a4 n4=>?_⟩
  refine⟨_,U,p,_,dx,_,U,(h4.alloc n4 (.lst [])).get 4 U,T.cl_Yard,T.n_Yard_sides,(show 4<1000 by decide),?_⟩
  have h5:=(h4.alloc n4 (.lst [])).puti 4 U (.ins t.c_Yard dx (bE ("sides" : Str) (V.ref a4) ([(("next_piece" : Str),V.int 0),(("kinds" : Str),V.ref a1),(("notes" : Str),V.ref a2),(("rods_under" : Str),V.ref a3)]:List (Str×V))))
  rw[show bE ("sides" : Str) (V.ref a4) ([(("next_piece" : Str),V.int 0),(("kinds" : Str),V.ref a1),(("notes" : Str),V.ref a2),(("rods_under" : Str),V.ref a3)]:List (Str×V))=([(("next_piece" : Str),V.int 0),(("kinds" : Str),V.ref a1),(("notes" : Str),V.ref a2),(("rods_under" : Str),V.ref a3),(("sides" : Str),V.ref a4)]:List (Str×V)) from by kernel_rfl] at h5 ⊢
  generalize upd (upd H4 a4 _) p _=H5 at h5 ⊢
  intro a5 n5
  refine⟨_,U,p,_,dx,_,U,(h5.alloc n5 (.dT [])).get 5 U,T.cl_Yard,T.n_Yard_mates,(show 5<1000 by decide),?_⟩
  have h6:=(h5.alloc n5 (.dT [])).puti 5 U (.ins t.c_Yard dx (bE ("mates" : Str) (V.ref a5) ([(("next_piece" : Str),V.int 0),(("kinds" : Str),V.ref a1),(("notes" : Str),V.ref a2),(("rods_under" : Str),V.ref a3),(("sides" : Str),V.ref a4)]:List (Str×V))))
  rw[show bE ("mates" : Str) (V.ref a5) ([(("next_piece" : Str),V.int 0),(("kinds" : Str),V.ref a1),(("notes" : Str),V.ref a2),(("rods_under" : Str),V.ref a3),(("sides" : Str),V.ref a4)]:List (Str×V))=([(("next_piece" : Str),V.int 0),(("kinds" : Str),V.ref a1),(("notes" : Str),V.ref a2),(("rods_under" : Str),V.ref a3),(("sides" : Str),V.ref a4),(("mates" : Str),V.ref a5)]:List (Str×V)) from by kernel_rfl] at h6 ⊢
  generalize upd (upd H5 a5 _) p _=H6 at h6 ⊢
  refine⟨_,U,p,_,dx,_,U,h6.get 5 U,T.cl_Yard,T.n_Jc_end,(show 6<1000 by decide),?_⟩
  have h7:=h6.puti 5 U (.ins t.c_Yard dx (bE ("engine_end" : Str) (V.non) ([(("next_piece" : Str),V.int 0),(("kinds" : Str),V.ref a1),(("notes" : Str),V.ref a2),(("rods_under" : Str),V.ref a3),(("sides" : Str),V.ref a4),(("mates" : Str),V.ref a5)]:List (Str×V))))
  rw[show bE ("engine_end" : Str) (V.non) ([(("next_piece" : Str),V.int 0),(("kinds" : Str),V.ref a1),(("notes" : Str),V.ref a2),(("rods_under" : Str),V.ref a3),(("sides" : Str),V.ref a4),(("mates" : Str),V.ref a5)]:List (Str×V))=([(("next_piece" : Str),V.int 0),(("kinds" : Str),V.ref a1),(("notes" : Str),V.ref a2),(("rods_under" : Str),V.ref a3),(("sides" : Str),V.ref a4),(("mates" : Str),V.ref a5),(("engine_end" : Str),V.non)]:List (Str×V)) from by kernel_rfl] at h7 ⊢
  generalize upd H6 p _=H7 at h7 ⊢
  refine⟨by decide,fun a7 n7=>?_⟩
  refine⟨_,U,p,_,dx,_,U,(h7.alloc n7 (.lst [])).get 6 U,T.cl_Yard,T.n_Yard_rung,(show 7<1000 by decide),?_⟩
  have h8:=(h7.alloc n7 (.lst [])).puti 6 U (.ins t.c_Yard dx (bE ("rung" : Str) (V.ref a7) ([(("next_piece" : Str),V.int 0),(("kinds" : Str),V.ref a1),(("notes" : Str),V.ref a2),(("rods_under" : Str),V.ref a3),(("sides" : Str),V.ref a4),(("mates" : Str),V.ref a5),(("engine_end" : Str),V.non)]:List (Str×V))))
  rw[show bE ("rung" : Str) (V.ref a7) ([(("next_piece" : Str),V.int 0),(("kinds" : Str),V.ref a1),(("notes" : Str),V.ref a2),(("rods_under" : Str),V.ref a3),(("sides" : Str),V.ref a4),(("mates" : Str),V.ref a5),(("engine_end" : Str),V.non)]:List (Str×V))=([(("next_piece" : Str),V.int 0),(("kinds" : Str),V.ref a1),(("notes" : Str),V.ref a2),(("rods_under" : Str),V.ref a3),(("sides" : Str),V.ref a4),(("mates" : Str),V.ref a5),(("engine_end" : Str),V.non),(("rung" : Str),V.ref a7)]:List (Str×V)) from by kernel_rfl] at h8 ⊢
  generalize upd (upd H7 a7 _) p _=H8 at h8 ⊢
  refine⟨by decide,fun a8 n8=>?_⟩
  refine⟨_,U,p,_,dx,_,U,(h8.alloc n8 (.lst [])).get 7 U,T.cl_Yard,T.n_Yard_trail,(show 8<1000 by decide),?_⟩
  refine q _ ⟨p,dx,a8,a1,a2,a3,a4,a5,a7⟩ rfl ?_
  have h9:=(h8.alloc n8 (.lst [])).puti 7 U (.ins t.c_Yard dx (bE ("trail" : Str) (V.ref a8) ([(("next_piece" : Str),V.int 0),(("kinds" : Str),V.ref a1),(("notes" : Str),V.ref a2),(("rods_under" : Str),V.ref a3),(("sides" : Str),V.ref a4),(("mates" : Str),V.ref a5),(("engine_end" : Str),V.non),(("rung" : Str),V.ref a7)]:List (Str×V))))
  rw[show bE ("trail" : Str) (V.ref a8) ([(("next_piece" : Str),V.int 0),(("kinds" : Str),V.ref a1),(("notes" : Str),V.ref a2),(("rods_under" : Str),V.ref a3),(("sides" : Str),V.ref a4),(("mates" : Str),V.ref a5),(("engine_end" : Str),V.non),(("rung" : Str),V.ref a7)]:List (Str×V))=([(("next_piece" : Str),V.int 0),(("kinds" : Str),V.ref a1),(("notes" : Str),V.ref a2),(("rods_under" : Str),V.ref a3),(("sides" : Str),V.ref a4),(("mates" : Str),V.ref a5),(("engine_end" : Str),V.non),(("rung" : Str),V.ref a7),(("trail" : Str),V.ref a8)]:List (Str×V)) from by kernel_rfl] at h9 ⊢
  exact nt h9
end
noncomputable def du (y:YR) (k:Kd) (note:Int) (rod:V):YR :=
 { y with next:=y.next+1,kinds:=aO y.kinds (Sum.inl y.next) (.str k.str),notes:=if k=.bell then aO y.notes (Sum.inl y.next) (.int note) else y.notes,rods:=if k.point then aO y.rods (Sum.inl y.next) (if rod=.non then .int y.sides.length else rod) else y.rods,sides:=if k.point/\rod=.non then y.sides++[.int 1] else y.sides,trail:=[] }
structure cC (y:YR):Prop where
 k:y.kinds.length<=10000
 n:y.notes.length<=10000
 r:y.rods.length<=10000
 s:y.sides.length<=10000
 m:y.mates.length<=30000
 g:y.rung.length<=300000
 t:y.trail.length<=300000
inductive sp_check_piece (C:Addr) (vs:List V) (H:Hp) (Q:VK) (E_:XK):Prop
 | mk (A:YA) (y:YR) (L:Kn) (n:Int) (v:V) (_:vs=[.ref A.p,.int n]) (_:Has H (yL C A y++L)) (_:aq y.kinds (Sum.inl n)=some v) (_:Q .non H):sp_check_piece C vs H Q E_
inductive sp_check_rod (C:Addr) (vs:List V) (H:Hp) (Q:VK) (E_:XK):Prop
 | mk (A:YA) (y:YR) (L:Kn) (r:Int) (_:vs=[.ref A.p,.int r]) (_:Has H (yL C A y++L)) (_:0<=r) (_:r<y.sides.length) (_:Q .non H):sp_check_rod C vs H Q E_
inductive sp_Jg (vs:List V) (H:Hp) (Q:VK) (E_:XK):Prop
 | mk (n:Int) (_:vs=[.int n]) (_:0<=n) (_:n<=9999) (_:Q .non H):sp_Jg vs H Q E_
inductive sp_new_rod (C:Addr) (vs:List V) (H:Hp) (Q:VK) (E_:XK):Prop
 | mk (A:YA) (y:YR) (L:Kn) (s:Int) (_:vs=[.ref A.p,.int s]) (_:Has H (yL C A y++L)) (_:(s=1∨s=2)) (_:y.sides.length<=10000) (_:∀ H' q,Has H' (yL C { A with tr:=q } { y with sides:=y.sides++[.int s],trail:=[] }++L)->Q (.int y.sides.length) H'):sp_new_rod C vs H Q E_
inductive sp_throw (C:Addr) (vs:List V) (H:Hp) (Q:VK) (E_:XK):Prop
 | mk (A:YA) (y:YR) (L:Kn) (r s:Int) (_:vs=[.ref A.p,.int r,.int s]) (_:Has H (yL C A y++L)) (_:0<=r) (_:r<y.sides.length) (_:(s=1∨s=2)) (_:∀ H' q,Has H' (yL C { A with tr:=q } { y with sides:=y.sides.set r.toNat (.int s),trail:=[] }++L)->Q .non H'):sp_throw C vs H Q E_
inductive sp_rods (C:Addr) (vs:List V) (H:Hp) (Q:VK) (E_:XK):Prop
 | mk (A:YA) (y:YR) (L:Kn) (_:vs=[.ref A.p]) (_:Has H (yL C A y++L)) (_:cC y) (_:∀ H' l,Has H' ((l,.lst (dq y.sides.length))::(yL C A y++L))->Q (.ref l) H'):sp_rods C vs H Q E_
inductive sp_side (C:Addr) (vs:List V) (H:Hp) (Q:VK) (E_:XK):Prop
 | mk (A:YA) (y:YR) (L:Kn) (r:Int) (v:V) (_:vs=[.ref A.p,.int r]) (_:Has H (yL C A y++L)) (_:0<=r) (_:y.sides[r.toNat]?=some v) (_:Q v H):sp_side C vs H Q E_
inductive sp_rod (C:Addr) (vs:List V) (H:Hp) (Q:VK) (E_:XK):Prop
 | mk (A:YA) (y:YR) (L:Kn) (n:Int) (u v:V) (_:vs=[.ref A.p,.int n]) (_:Has H (yL C A y++L)) (_:aq y.kinds (Sum.inl n)=some u) (_:aq y.rods (Sum.inl n)=some v) (_:Q v H):sp_rod C vs H Q E_
inductive sp_lay (C:Addr) (vs:List V) (H:Hp) (Q:VK) (E_:XK):Prop
 | mk (A:YA) (y:YR) (L:Kn) (k:Kd) (note:Int) (rod:V) (_:vs=[.ref A.p,.str k.str,.int note,rod]) (_:Has H (yL C A y++L)) (_:cC y) (_:(k=.bell->0<=note/\note<=9999)) (_:(k.point=true->rod≠.non->∃ r:Int,rod=.int r/\0<=r/\r<y.sides.length)) (_:∀ H' q,Has H' (yL C { A with tr:=q } (du y k note rod)++L)->Q (.int y.next) H'):sp_lay C vs H Q E_
section
variable {P:Program}{w:World}{K:PySem.W.Frag}{mg:Str->Option Value}{base:Heap}{t:Adr}
theorem scEt:FnScope ["self"] ["self"] (ah vP):={}
theorem gI (T:Txt K mg t):FnOk P w K mg base CX0 1 t.f_J3 t.d_J3 ["self"] (sp_end_trail t.c_Yard):=by
 refine T.F_J3.ok scEt (fun vs H Q E h=>?_) (fun cdv A outer s H vs Q E hr h=>?_)
 ·obtain⟨_,_,_,rfl,_⟩:=h
  rfl
 ·obtain⟨A,y,L,rfl,hH,q⟩:=h
  refine⟨_,(af (bK (pv 0) (a9 ae) rfl)),?_⟩
  refine⟨by decide,fun a ha=>?_⟩
  have h1:=hH.alloc ha (.lst [])
  refine⟨_,U,A.p,_,A.dx,_,U,h1.get 2 U,T.cl_Yard,T.n_Yard_trail,(show 9<1000 by decide),?_⟩
  refine q _ a ?_
  rw[jo]
  have h2:=(h1.puti 2 U (.ins t.c_Yard A.dx (fl { A with tr:=a } y.next y.eng)))
  exact(h2.swap2).tail
theorem scCr:FnScope ["self","rod"] ["self","rod"] (ah vO):={}
theorem pF (T:Txt K mg t):FnOk P w K mg base CX0 1 t.f_J5 t.d_J5 ["self","rod"] (sp_check_rod t.c_Yard):=by
 refine T.F_J5.ok scCr (fun vs H Q E h=>?_) (fun cdv A outer s H vs Q E hr h=>?_)
 ·obtain⟨_,_,_,_,rfl,_⟩:=h
  rfl
 ·obtain⟨A,y,L,r,rfl,hH,r0,r1,q⟩:=h
  refine⟨_,(af (av (PW.pt (cY (ai eF (pv 1) ag (am _)) (cc (ai jR (pv 1) (aG aA (by rfl) T.z_len (by rfl) (aa (aJ (pv 0) rfl) ae)) (am _)))))
    (af aX)
    ak)),?_⟩
  refine⟨_,U,_,_,U,U,_,U,ifF (decide_eq_false (by omega)) ?_⟩
  refine⟨_,U,_,U,A.p,_,A.dx,_,_,U,hH.get 1 U,T.cl_Yard,T.n_Yard_sides,bM _ _ _,A.s,_,U,.inl (SqL.of (hH.get 6 U)),_,_,U,U,_,U,?_⟩
  exact ifF (decide_eq_false (by omega)) q
theorem scCn:FnScope ["note"] ["note"] (ah vD):={}
theorem sQ (T:Txt K mg t):FnOk P w K mg base CX0 1 t.f_Jg t.d_Jg ["note"] sp_Jg:=by
 refine T.F_Jg.ok scCn (fun vs H Q E h=>?_) (fun cdv A outer s H vs Q E hr h=>?_)
 ·obtain⟨_,rfl,_⟩:=h
  rfl
 ·obtain⟨n,rfl,n0,n1,q⟩:=h
  refine⟨_,(af (av (PW.pt (cY (ai eF (pv 0) ag (am _)) (cc (ai eG (pv 0) (bX (by rfl) T.g_LAST_NOTE T.r_LAST_NOTE) (am _)))))
    (af aX)
    ak)),?_⟩
  refine⟨_,U,_,_,U,U,_,U,ifF (decide_eq_false (by omega)) ?_⟩
  refine⟨_,U,_,_,U,U,_,U,ifF (decide_eq_false (by omega)) q⟩
theorem scCp:FnScope ["self","piece"] ["self","piece"] (ah vS):={}
theorem jS (T:Txt K mg t):FnOk P w K mg base CX0 1 t.f_J0 t.d_J0 ["self","piece"] (sp_check_piece t.c_Yard):=by
 refine T.F_J0.ok scCp (fun vs H Q E h=>?_) (fun cdv A outer s H vs Q E hr h=>?_)
 ·obtain⟨_,_,_,_,_,rfl,_⟩:=h
  rfl
 ·obtain⟨A,y,L,n,v,rfl,hH,hv,q⟩:=h
  have hu:=cN hr
  refine⟨_,(af (av (df (fu hu (pv 1) (aJ (pv 0) rfl)))
    (af aX)
    ak)),?_⟩
  refine⟨_,U,_,U,A.p,_,A.dx,_,_,U,hH.get 1 U,T.cl_Yard,T.n_Yard_kinds,cB _ _ _,A.k,_,U,DGet.k (k:=Sum.inl n) (hH.get 3 U),_,U,?_⟩
  exact ifF (by rw[hv]; rfl) q
theorem scNr:FnScope ["self","side"] ["self","side"] (ah vL):={}
theorem sR (T:Txt K mg t):FnOk P w K mg base CX0 2 t.f_J8 t.d_J8 ["self","side"] (sp_new_rod t.c_Yard):=by
 refine T.F_J8.ok scNr (fun vs H Q E h=>?_) (fun cdv A outer s H vs Q E hr h=>?_)
 ·obtain⟨_,_,_,_,rfl,_⟩:=h
  rfl
 ·obtain⟨A,y,L,z,rfl,hH,hz,sm,q⟩:=h
  refine⟨_,(ab (al (pcl (pC T) hr T.m_Je T.F_Je.kp (uW T) (aa (pv 1) ae)))
   (ab (al (bi PySem.F.plainAttrs_list PySem.F.slot_list_append PySem.F.type_list_append aL (aJ (pv 0) rfl) (aa (pv 1) ae)))
   (ab (al (aT (pv 0) T.cl_Yard T.M_J3 (gI T) hr (k6 T) .nil aH))
   (af (ao (aC d4 (aG aA (by rfl) T.z_len (by rfl) (aa (aJ (pv 0) rfl) ae)) ag)))))),?_⟩
  refine⟨_,U,z,U,hz,?_⟩
  refine⟨_,U,A.p,_,A.dx,_,_,U,hH.get 1 U,T.cl_Yard,T.n_Yard_sides,bM _ _ _,.inl ⟨U,_,SqL.of (hH.get 6 U)⟩,_,U,A.s,_,_,U,U,hH.get 6 U,sizeOk (by omega),?_⟩
  have h1:Has _ (yL t.c_Yard A { y with sides:=y.sides++[.int z] }++L):=hH.puti 6 U (.lst (y.sides++[.int z]))
  refine⟨_,U,A.p,A.dx,_,U,h1.get 1 U,(bC _ _ _).2.2.2.2.2.2.1,A,_,L,U,h1,fun H' a h2=>?_⟩
  refine⟨_,U,A.p,_,A.dx,_,_,U,h2.get 1 U,T.cl_Yard,T.n_Yard_sides,bM _ _ _,A.s,_,U,.inl (SqL.of (h2.get 6 U)),_,_,U,U,?_⟩
  have e:((y.sides++[V.int z]).length:Int) - 1=y.sides.length:=by rw[wf,wB]; omega
  show Q (.int (((y.sides++[V.int z]).length:Int) - 1)) H'
  rw[e]
  exact q H' a h2
theorem scTh:FnScope ["self","rod","side"] ["self","rod","side"] (ah vy):={}
theorem ok_Jm (T:Txt K mg t):FnOk P w K mg base CX0 2 t.f_Jm t.d_Jm ["self","rod","side"] (sp_throw t.c_Yard):=by
 refine T.F_Jm.ok scTh (fun vs H Q E h=>?_) (fun cdv A outer s H vs Q E hr h=>?_)
 ·obtain⟨_,_,_,_,_,rfl,_⟩:=h
  rfl
 ·obtain⟨A,y,L,r,z,rfl,hH,r0,r1,hz,q⟩:=h
  refine⟨_,(ab (al (aF (pv 0) T.cl_Yard T.M_J5 (pF T) hr (uY T) .nil aH (aa (pv 1) ae)))
   (ab (al (pcl (pC T) hr T.m_Je T.F_Je.kp (uW T) (aa (pv 2) ae)))
   (ab (bA (pv 2) (gB (aJ (pv 0) rfl) (pv 1) dy))
   (af (al (aT (pv 0) T.cl_Yard T.M_J3 (gI T) hr (k6 T) .nil aH)))))),?_⟩
  refine⟨_,U,A.p,A.dx,_,U,hH.get 1 U,(bC _ _ _).2.2.2.2.2.2.2.2,_,U,A,y,L,r,U,hH,r0,r1,?_⟩
  refine⟨_,U,z,U,hz,?_⟩
  have hj:ixN y.sides.length r=some r.toNat:=by unfold ixN; rw[if_pos r0,if_pos r1]
  refine⟨_,U,_,U,A.p,_,A.dx,_,_,U,hH.get 1 U,T.cl_Yard,T.n_Yard_sides,bM _ _ _,_,U,A.s,_,r,r.toNat,U,U,hH.get 6 U,hj,?_⟩
  have h1:Has _ (yL t.c_Yard A { y with sides:=y.sides.set r.toNat (.int z) }++L):=hH.puti 6 U (.lst (y.sides.set r.toNat (.int z)))
  exact⟨_,U,A.p,A.dx,_,U,h1.get 1 U,(bC _ _ _).2.2.2.2.2.2.1,A,_,L,U,h1,fun H' a h2=>q H' a h2⟩
theorem scRs:FnScope ["self"] ["self"] (ah sI):={}
theorem um (T:Txt K mg t):FnOk P w K mg base CX0 1 t.f_J01 t.d_J01 ["self"] (sp_rods t.c_Yard):=by
 refine T.F_J01.ok scRs (fun vs H Q E h=>?_) (fun cdv A outer s H vs Q E hr h=>?_)
 ·obtain⟨_,_,_,rfl,_⟩:=h
  rfl
 ·obtain⟨A,y,L,rfl,hH,sm,q⟩:=h
  refine⟨_,(af (ao (bb (dY rfl) (by rfl) T.z_list (by rfl) (aa (bb fO (by rfl) T.z_range (by rfl) (aa (aG aA (by rfl) T.z_len (by rfl) (aa (aJ (pv 0) rfl) ae)) ae)) ae)))),?_⟩
  have:=sm.s
  refine⟨_,U,A.p,_,A.dx,_,_,U,hH.get 1 U,T.cl_Yard,T.n_Yard_sides,bM _ _ _,A.s,_,U,.inl (SqL.of (hH.get 6 U)),_,U,fun a ha=>?_⟩
  have h1:=hH.alloc ha (.rng 0 y.sides.length)
  refine⟨a,_,U,h1.get 0 U,by omega,by omega,fun l hl=>?_⟩
  have h2:=h1.alloc hl (.lst (dq ((y.sides.length:Int)).toNat))
  refine q _ l ?_
  exact h2.swap2.tail
theorem scSi:FnScope ["self","rod"] ["self","rod"] (ah vg):={}
theorem pq (T:Txt K mg t):FnOk P w K mg base CX0 2 t.f_Jz t.d_Jz ["self","rod"] (sp_side t.c_Yard):=by
 refine T.F_Jz.ok scSi (fun vs H Q E h=>?_) (fun cdv A outer s H vs Q E hr h=>?_)
 ·obtain⟨_,_,_,_,_,rfl,_⟩:=h
  rfl
 ·obtain⟨A,y,L,r,v,rfl,hH,r0,hv,q⟩:=h
  have r1:r<y.sides.length:=by have:=(List.getElem?_eq_some_iff.mp hv).1; omega
  have er:(r.toNat:Int)=r:=by omega
  refine⟨_,(ab (al (aF (pv 0) T.cl_Yard T.M_J5 (pF T) hr (uY T) .nil aH (aa (pv 1) ae)))
   (af (ao (aI au (aJ (pv 0) rfl) (pv 1))))),?_⟩
  refine⟨_,U,A.p,A.dx,_,U,hH.get 1 U,(bC _ _ _).2.2.2.2.2.2.2.2,_,U,A,y,L,r,U,hH,r0,r1,?_⟩
  exact⟨_,U,A.p,_,A.dx,_,_,U,hH.get 1 U,T.cl_Yard,T.n_Yard_sides,bM _ _ _,_,U,A.s,_,r,v,U,U,SqL.of (hH.get 6 U),(by rw[<- er]; exact aK hv),q⟩
theorem scRo:FnScope ["self","piece"] ["self","piece"] (ah sB):={}
theorem ja (T:Txt K mg t):FnOk P w K mg base CX0 2 t.f_J71 t.d_J71 ["self","piece"] (sp_rod t.c_Yard):=by
 refine T.F_J71.ok scRo (fun vs H Q E h=>?_) (fun cdv A outer s H vs Q E hr h=>?_)
 ·obtain⟨_,_,_,_,_,_,rfl,_⟩:=h
  rfl
 ·obtain⟨A,y,L,n,u,v,rfl,hH,hk,hv,q⟩:=h
  have hu:=cN hr
  refine⟨_,(ab (al (aF (pv 0) T.cl_Yard T.M_J0 (jS T) hr (qh T) .nil aH (aa (pv 1) ae)))
   (ab (av (df (fu hu (pv 1) (aJ (pv 0) rfl)))
    (af aX)
    ak)
   (af (ao (cm hu (aJ (pv 0) rfl) (pv 1)))))),?_⟩
  refine⟨_,U,A.p,A.dx,_,U,hH.get 1 U,(bC _ _ _).2.2.2.2.2.2.2.1,_,U,A,y,L,n,u,U,hH,hk,?_⟩
  refine⟨_,U,_,U,A.p,_,A.dx,_,_,U,hH.get 1 U,T.cl_Yard,T.n_J01_under,b5 _ _ _,A.r,_,U,DGet.k (k:=Sum.inl n) (hH.get 5 U),_,U,ifF (by rw[hv]; rfl) ?_⟩
  refine⟨_,U,A.p,_,A.dx,_,_,U,hH.get 1 U,T.cl_Yard,T.n_J01_under,b5 _ _ _,_,U,A.r,_,U,?_,q⟩
  rw[<- hv]
  exact DGet.k (k:=Sum.inl n) (hH.get 5 U)
theorem scLy:FnScope ["self","kind","note","rod","point","piece"] ["self","kind","note","rod"] (ah sC):={}
theorem dD (T:Txt K mg t):FnOk P w K mg base CX0 3 t.f_J61 t.d_J61 ["self","kind","note","rod"] (sp_lay t.c_Yard):=by
 obtain⟨ds_nr,hd_J8_1,hb_J8_1⟩:=rP T
 refine T.F_J61.ok scLy (fun vs H Q E h=>?_) (fun cdv A outer s H vs Q E hr h=>?_)
 ·obtain⟨_,_,_,_,_,_,rfl,_⟩:=h
  rfl
 ·obtain⟨A,y,L,k,note,rod,rfl,hH,sm,hnote,hrod,q⟩:=h
  have hu:=cN hr
  refine⟨_,(ab (aB (i:=4) scLy.nd rfl (Or.inl rfl) (pcl (jb T) hr T.m_J31 T.F_J31.kp (mF T) (aa (pv 1) ae)))
   (ab (av (ai bj (pv 1) az (am _))
    (af (al (pcl (sQ T) hr T.m_Jg T.F_Jg.kp (v4 T) (aa (pv 2) ae))))
    ak)
   (ab (av (PW.pt (de (bp (pv 4)) (cG (ai cH (pv 3) aY (am _)))))
    (af (al (aF (pv 0) T.cl_Yard T.M_J5 (pF T) hr (uY T) .nil aH (aa (pv 3) ae))))
    ak)
   (ab (aB (i:=5) scLy.nd rfl (Or.inl rfl) (aJ (pv 0) rfl))
   (ab (mQ (pv 0) ag uG)
   (ab (dh hu (aJ (pv 0) rfl) (pv 5) (pv 1) rfl)
   (ab (av (ai bj (pv 1) az (am _))
    (af (dh hu (aJ (pv 0) rfl) (pv 5) (pv 2) rfl))
    ak)
   (ab (av (bp (pv 4))
    (af (dh hu (aJ (pv 0) rfl) (pv 5) (dA (ai d5 (pv 3) aY (am _)) (aT (pv 0) T.cl_Yard T.M_J8 (sR T) hr hb_J8_1 hd_J8_1 aH) (pv 3)) rfl))
    ak)
   (ab (al (aT (pv 0) T.cl_Yard T.M_J3 (gI T) hr (k6 T) .nil aH))
   (af (ao (pv 5)))))))))))),?_⟩
  refine⟨_,U,k,U,?_⟩
  refine⟨_,U,U,_,U,ifJ (fun hc g=>?_) ?_⟩
  ·rw[k.isBell] at hc
   have hb:=hnote (of_decide_eq_true hc)
   exact⟨_,U,note,U,hb.1,hb.2,g⟩
  refine⟨_,U,_,U,?_⟩
  refine(fun(g:_)=>if2 (fun hp=>⟨_,U,U,_,U,ifJ (fun hc g'=>?a) g⟩) (fun hp=>bz g)) ?b
  case a=>
   have hn:rod≠.non:=by simpa using hc
   obtain⟨r,rfl,r0,r1⟩:=hrod hp hn
   exact⟨_,U,A.p,A.dx,_,U,hH.get 1 U,(bC _ _ _).2.2.2.2.2.2.2.2,_,U,A,y,L,r,U,hH,r0,r1,g'⟩
  refine⟨_,U,A.p,_,A.dx,_,_,U,hH.get 1 U,T.cl_Yard,T.n_Yard_next_piece,f7 _ _ _,?_⟩
  refine⟨_,U,A.p,_,A.dx,_,_,U,hH.get 1 U,T.cl_Yard,T.n_Yard_next_piece,f7 _ _ _,_,_,U,U,_,_,hH.get 1 U,(show 9<1000 by decide),?_⟩
  rw[dG]
  have h1:Has _ (yL t.c_Yard A { y with next:=y.next+1 }++L):=hH.puti 1 U (.ins t.c_Yard A.dx (fl A (y.next+1) y.eng))
  generalize upd H A.p _=H1 at h1 ⊢
  refine⟨_,U,_,U,A.p,_,A.dx,_,_,U,h1.get 1 U,T.cl_Yard,T.n_Yard_kinds,cB _ _ _,_,U,A.k,_,U,DPut.k (k:=Sum.inl y.next) (h1.get 3 U) (sizeOk (show y.kinds.length<=1000000 by have:=sm.k; omega)),?_⟩
  have h2:Has _ (yL t.c_Yard A { y with next:=y.next+1,kinds:=aO y.kinds (Sum.inl y.next) (.str k.str) }++L):=h1.puti 3 U (.dK (aO y.kinds (Sum.inl y.next) (.str k.str)))
  generalize upd H1 A.k _=H2 at h2 ⊢
  refine⟨_,U,U,_,U,?_⟩
  rw[k.isBell]
  have fin:∀ (H3:Hp) (A3:YA) (y3:YR),A3.p=A.p->(∀ q,{ A3 with tr:=q }={ A with tr:=q })->{ y3 with trail:=[] }=du y k note rod->Has H3 (yL t.c_Yard A3 y3++L) ->
    vc (r6 (n9 t.c_Yard "end_trail" (sp_end_trail t.c_Yard) [] E0 (qr 0) mK)) (vd (qr 5)) { nx:=fun _ H'=>Q .non H',rt:=Q } [some (.ref A.p),some (.str k.str),some (.int note),some rod,some (.bl k.point),some (.int y.next)] H3:=fun H3 A3 y3 e1 e2 e3 h3=>by
   have g1:=h3.get 1 rfl
   rw[e1] at g1
   refine⟨_,U,A.p,A3.dx,_,U,g1,(bC _ _ _).2.2.2.2.2.2.1,A3,y3,L,(by rw[e1]; rfl),h3,fun H4 a h4=>⟨_,U,?_⟩⟩
   rw[e2,e3] at h4
   exact q H4 a h4
  refine ifd (fun hb=>?_) (fun hb=>?_)
  ·subst hb
   refine⟨_,U,_,U,A.p,_,A.dx,_,_,U,h2.get 1 U,T.cl_Yard,T.n_Yard_notes,bN _ _ _,_,U,A.n,_,U,DPut.k (k:=Sum.inl y.next) (h2.get 4 U) (sizeOk (show y.notes.length<=1000000 by have:=sm.n; omega)),?_⟩
   have h3:Has _ (yL t.c_Yard A { y with next:=y.next+1,kinds:=aO y.kinds (Sum.inl y.next) (.str Kd.bell.str),notes:=aO y.notes (Sum.inl y.next) (.int note) }++L):=h2.puti 4 U (.dK (aO y.notes (Sum.inl y.next) (.int note)))
   refine⟨_,U,_,U,bz ?_⟩
   exact fin _ A _ rfl (fun _=>rfl) rfl h3
  ·refine⟨_,U,_,U,if2 (fun hp=>?_) (fun hp=>?_)⟩
   ·refine⟨_,U,U,_,U,ifd (fun hn=>?_) (fun hn=>?_)⟩
    ·subst hn
     refine⟨_,U,A.p,A.dx,_,U,h2.get 1 U,(bC _ _ _).2.1,A,_,L,1,U,h2,.inl rfl,sm.s,fun H3 a h3=>?_⟩
     refine⟨_,U,A.p,_,A.dx,_,_,U,h3.get 1 U,T.cl_Yard,T.n_J01_under,b5 _ _ _,_,U,A.r,_,U,DPut.k (k:=Sum.inl y.next) (h3.get 5 U) (sizeOk (show y.rods.length<=1000000 by have:=sm.r; omega)),?_⟩
     have h4:Has _ (yL t.c_Yard { A with tr:=a } { y with next:=y.next+1,kinds:=aO y.kinds (Sum.inl y.next) (.str k.str),rods:=aO y.rods (Sum.inl y.next) (.int y.sides.length),sides:=y.sides++[.int 1],trail:=[] }++L):=h3.puti 5 U (.dK (aO y.rods (Sum.inl y.next) (.int y.sides.length)))
     exact fin _ { A with tr:=a } _ rfl (fun _=>rfl) (by unfold du; rw[if_neg hb,if_pos hp,if_pos rfl,if_pos ⟨hp,U⟩]) h4
    ·refine⟨_,U,_,U,A.p,_,A.dx,_,_,U,h2.get 1 U,T.cl_Yard,T.n_J01_under,b5 _ _ _,_,U,A.r,_,U,DPut.k (k:=Sum.inl y.next) (h2.get 5 U) (sizeOk (show y.rods.length<=1000000 by have:=sm.r; omega)),?_⟩
     have h3:Has _ (yL t.c_Yard A { y with next:=y.next+1,kinds:=aO y.kinds (Sum.inl y.next) (.str k.str),rods:=aO y.rods (Sum.inl y.next) rod }++L):=h2.puti 5 U (.dK (aO y.rods (Sum.inl y.next) rod))
     exact fin _ A _ rfl (fun _=>rfl) (by unfold du; rw[if_neg hb,if_pos hp,if_neg hn,if_neg (fun z=>hn z.2)]) h3
   ·exact fin _ A _ rfl (fun _=>rfl) (by unfold du; rw[if_neg hb,if_neg (by rw[hp]; exact Bool.false_ne_true),if_neg (fun z=>by rw[hp] at z; exact Bool.false_ne_true z.1)]) h2
end
noncomputable abbrev kE (n e:Int):List Key:=[Sum.inl n,Sum.inl e]
theorem dW (A:YA) (next:Int) (eng:V):(fl A next eng).lookup ("check_there" : Str)=none/\(fl A next eng).lookup ("mate" : Str)=none/\(fl A next eng).lookup ("link" : Str)=none/\(fl A next eng).lookup ("unlink" : Str)=none :=
 ⟨by kernel_rfl,by kernel_rfl,by kernel_rfl,by kernel_rfl⟩
noncomputable def cP (y:YR) (n e:Int):Prop:=∃ k:Kd,aq y.kinds (Sum.inl n)=some (.str k.str)/\0<=e/\e<k.many
inductive sp_check_there (C:Addr) (vs:List V) (H:Hp) (Q:VK) (E_:XK):Prop
 | mk (A:YA) (y:YR) (L:Kn) (b:Addr) (n e:Int) (j:Nat) (_:vs=[.ref A.p,.ref b]) (_:Has H (yL C A y++L)) (_:L[j]?=some (b,.tup [.int n,.int e])) (_:cP y n e) (_:Q .non H):sp_check_there C vs H Q E_
inductive sp_mate (C:Addr) (vs:List V) (H:Hp) (Q:VK) (E_:XK):Prop
 | mk (A:YA) (y:YR) (L:Kn) (b:Addr) (n e:Int) (j:Nat) (_:vs=[.ref A.p,.ref b]) (_:Has H (yL C A y++L)) (_:L[j]?=some (b,.tup [.int n,.int e])) (_:cP y n e) (_:Q ((aq y.mates (kE n e)).getD .non) H):sp_mate C vs H Q E_
inductive sp_link (C:Addr) (vs:List V) (H:Hp) (Q:VK) (E_:XK):Prop
 | mk (A:YA) (y:YR) (L:Kn) (b1 b2:Addr) (n1 e1 n2 e2:Int) (j1 j2:Nat) (_:vs=[.ref A.p,.ref b1,.ref b2]) (_:Has H (yL C A y++L)) (_:L[j1]?=some (b1,.tup [.int n1,.int e1])) (_:L[j2]?=some (b2,.tup [.int n2,.int e2])) (_:cP y n1 e1) (_:cP y n2 e2) (_:¬ kE n1 e1=kE n2 e2) (_:aq y.mates (kE n1 e1)=none) (_:aq y.mates (kE n2 e2)=none) (_:y.mates.length<=30000) (_:∀ H' q,Has H' (yL C { A with tr:=q } { y with mates:=aO (aO y.mates (kE n1 e1) (.ref b2)) (kE n2 e2) (.ref b1),trail:=[] }++L)->Q .non H'):sp_link C vs H Q E_
inductive sp_unlink (C:Addr) (vs:List V) (H:Hp) (Q:VK) (E_:XK):Prop
 | mk (A:YA) (y:YR) (L:Kn) (b1 b2:Addr) (n1 e1 n2 e2:Int) (j1 j2:Nat) (v:V) (_:vs=[.ref A.p,.ref b1]) (_:Has H (yL C A y++L)) (_:L[j1]?=some (b1,.tup [.int n1,.int e1])) (_:L[j2]?=some (b2,.tup [.int n2,.int e2])) (_:cP y n1 e1) (_:¬ kE n2 e2=kE n1 e1) (_:aq y.mates (kE n1 e1)=some (.ref b2)) (_:aq y.mates (kE n2 e2)=some v) (_:∀ H' q,Has H' (yL C { A with tr:=q } { y with mates:=aD (aD y.mates (kE n1 e1)) (kE n2 e2),trail:=[] }++L)->Q .non H'):sp_unlink C vs H Q E_
section
variable {P:Program}{w:World}{K:PySem.W.Frag}{mg:Str->Option Value}{base:Heap}{t:Adr}
theorem scCt:FnScope ["self","end","piece","place"] ["self","end"] (ah vR):={}
theorem lV (T:Txt K mg t):FnOk P w K mg base CX0 3 t.f_J1 t.d_J1 ["self","end"] (sp_check_there t.c_Yard):=by
 refine T.F_J1.ok scCt (fun vs H Q E h=>?_) (fun cdv A outer s H vs Q E hr h=>?_)
 ·obtain⟨_,_,_,_,_,_,_,rfl,_⟩:=h
  rfl
 ·obtain⟨A,y,L,b,n,e,j,rfl,hH,hj,⟨k,hk,e0,e1⟩,q⟩:=h
  have hu:=cN hr
  refine⟨_,(ab (bA (pv 1) (bB rfl (ap (aj (i:=2) scCt.nd rfl (Or.inl rfl)) (ap (aj (i:=3) scCt.nd rfl (Or.inl rfl)) ba))))
   (ab (al (aF (pv 0) T.cl_Yard T.M_J0 (jS T) hr (qh T) .nil aH (aa (pv 2) ae)))
   (af (al (pcl (sO T) hr T.m_Jr T.F_Jr.kp (v0 T) (aa (cm hu (aJ (pv 0) rfl) (pv 2)) (aa (pv 3) ae))))))),?_⟩
  have gb:=hH.get (j+9) (by simpa [yL] using hj)
  refine⟨_,U,b,_,U,SqT.of gb,U,_,_,U,_,_,U,U,?_⟩
  refine⟨_,U,A.p,A.dx,_,U,hH.get 1 U,(bC _ _ _).2.2.2.2.2.2.2.1,_,U,A,y,L,n,_,U,hH,hk,?_⟩
  refine⟨_,U,A.p,_,A.dx,_,_,U,hH.get 1 U,T.cl_Yard,T.n_Yard_kinds,cB _ _ _,_,U,A.k,_,U,?_,_,U,k,e,U,e0,e1,q⟩
  rw[<- hk]
  exact DGet.k (k:=Sum.inl n) (hH.get 3 U)
theorem scMt:FnScope ["self","end"] ["self","end"] (ah vh):={}
theorem px (T:Txt K mg t):FnOk P w K mg base CX0 4 t.f_Jy t.d_Jy ["self","end"] (sp_mate t.c_Yard):=by
 refine T.F_Jy.ok scMt (fun vs H Q E h=>?_) (fun cdv A outer s H vs Q E hr h=>?_)
 ·obtain⟨_,_,_,_,_,_,_,rfl,_⟩:=h
  rfl
 ·obtain⟨A,y,L,b,n,e,j,rfl,hH,hj,th,q⟩:=h
  have hu:=cN hr
  refine⟨_,(ab (al (aF (pv 0) T.cl_Yard T.M_J1 (lV T) hr (rN T) .nil aH (aa (pv 1) ae)))
   (af (ao (gE hu (aJ (pv 0) rfl) (pv 1) ⟨U,U,U,U⟩)))),?_⟩
  have gb:=hH.get (j+9) (by simpa [yL] using hj)
  refine⟨_,U,A.p,A.dx,_,U,hH.get 1 U,(dW _ _ _).1,_,U,A,y,L,b,n,e,j,U,hH,hj,th,?_⟩
  exact⟨_,U,A.p,_,A.dx,_,_,U,hH.get 1 U,T.cl_Yard,T.n_Yard_mates,db _ _ _,A.m,U,.inr ⟨_,.inl (hH.get 7 U)⟩,_,U,_,DGet.t (k:=kE n e) (hH.get 7 U) gb,q⟩
theorem scLk:FnScope ["self","one","other","end"] ["self","one","other"] (ah vj):={}
theorem sL (T:Txt K mg t):FnOk P w K mg base CX0 4 t.f_Jw t.d_Jw ["self","one","other"] (sp_link t.c_Yard):=by
 refine T.F_Jw.ok scLk (fun vs H Q E h=>?_) (fun cdv A outer s H vs Q E hr h=>?_)
 ·obtain⟨_,_,_,_,_,_,_,_,_,_,_,rfl,_⟩:=h
  rfl
 ·obtain⟨A,y,L,b1,b2,n1,e1,n2,e2,j1,j2,rfl,hH,hj1,hj2,t1,t2,ne,v1,v2,hl,q⟩:=h
  have hu:=cN hr
  refine⟨_,(ab (al (aF (pv 0) T.cl_Yard T.M_J1 (lV T) hr (rN T) .nil aH (aa (pv 1) ae)))
   (ab (al (aF (pv 0) T.cl_Yard T.M_J1 (lV T) hr (rN T) .nil aH (aa (pv 2) ae)))
   (ab (av (ai (t7 hr.units) (pv 1) (pv 2) (am _))
    (af aX)
    ak)
   (ab (bm PassesOwn.never rfl (tU (aR (aa (pv 1) (aa (pv 2) ae)))) (aj (i:=3) scLk.nd rfl (Or.inl rfl))
    (af (av (df (gG hu (pv 3) (aJ (pv 0) rfl)))
      (af aX)
      ak)))
   (ab (dh hu (aJ (pv 0) rfl) (pv 1) (pv 2) rfl)
   (ab (dh hu (aJ (pv 0) rfl) (pv 2) (pv 1) rfl)
   (af (al (aT (pv 0) T.cl_Yard T.M_J3 (gI T) hr (k6 T) .nil aH))))))))),?_⟩
  have g1:=hH.get (j1+9) (by simpa [yL] using hj1)
  have g2:=hH.get (j2+9) (by simpa [yL] using hj2)
  refine⟨_,U,A.p,A.dx,_,U,hH.get 1 U,(dW _ _ _).1,_,U,A,y,L,b1,n1,e1,j1,U,hH,hj1,t1,?_⟩
  refine⟨_,U,A.p,A.dx,_,U,hH.get 1 U,(dW _ _ _).1,_,U,A,y,L,b2,n2,e2,j2,U,hH,hj2,t2,?_⟩
  have ne':¬ [n1,e1]=[n2,e2]:=fun z=>ne (by cases z; rfl)
  refine⟨_,U,_,U,b1,b2,[n1,e1],[n2,e2],U,U,g1,g2,_,U,ifF (decide_eq_false ne') ?_⟩
  refine⟨_,U,_,U,(show 2<=sizeLine by decide),fun p hp=>?_⟩
  have h1:=(hH.alloc hp (.tup [.ref b1,.ref b2]))
  generalize upd H p _=H1 at h1 ⊢
  refine⟨p,U,⟨_,SqT.of (h1.get 0 U)⟩,rh (xs:=[.ref b1,.ref b2]) (fun i σ H'=>H'=H1/\∃ o,σ=[some (.ref A.p),some (.ref b1),some (.ref b2),o]) ⟨U,_,U⟩ (fun i σ H' _ ⟨e,_⟩=>by rw[e]; exact SqT.of (h1.get 0 U)) ?_ ?_⟩
  ·rintro i x σ H' hx ⟨rfl,o,rfl⟩
   have k1:=h1.get (j1+10) (by simpa [yL] using hj1)
   have k2:=h1.get (j2+10) (by simpa [yL] using hj2)
   match i,hx with
   | 0,hx=>
    cases hx
    refine⟨_,U,_,U,A.p,_,A.dx,_,_,U,h1.get 2 U,T.cl_Yard,T.n_Yard_mates,db _ _ _,A.m,_,U,DGet.t (k:=kE n1 e1) (h1.get 8 U) k1,_,U,ifF (by rw[v1]; rfl) ⟨U,_,U⟩⟩
   | 1,hx=>
    cases hx
    refine⟨_,U,_,U,A.p,_,A.dx,_,_,U,h1.get 2 U,T.cl_Yard,T.n_Yard_mates,db _ _ _,A.m,_,U,DGet.t (k:=kE n2 e2) (h1.get 8 U) k2,_,U,ifF (by rw[v2]; rfl) ⟨U,_,U⟩⟩
  ·rintro σ H' ⟨rfl,o,rfl⟩
   have h2:=h1.tail
   have k1:=h2.get (j1+9) (by simpa [yL] using hj1)
   refine⟨_,U,_,U,A.p,_,A.dx,_,_,U,h2.get 1 U,T.cl_Yard,T.n_Yard_mates,db _ _ _,_,U,A.m,_,U,DPut.t (k:=kE n1 e1) (h2.get 7 U) k1 (sizeOk (by omega)),?_⟩
   have h3:Has _ (yL t.c_Yard A { y with mates:=aO y.mates (kE n1 e1) (.ref b2) }++L):=h2.puti 7 U (.dT (aO y.mates (kE n1 e1) (.ref b2)))
   generalize upd H' A.m _=H3 at h3 ⊢
   have k2:=h3.get (j2+9) (by simpa [yL] using hj2)
   refine⟨_,U,_,U,A.p,_,A.dx,_,_,U,h3.get 1 U,T.cl_Yard,T.n_Yard_mates,db _ _ _,_,U,A.m,_,U,DPut.t (k:=kE n2 e2) (h3.get 7 U) k2 (sizeOk (Nat.le_trans (bD _ _ _) (by omega))),?_⟩
   have h4:Has _ (yL t.c_Yard A { y with mates:=aO (aO y.mates (kE n1 e1) (.ref b2)) (kE n2 e2) (.ref b1) }++L):=h3.puti 7 U (.dT (aO (aO y.mates (kE n1 e1) (.ref b2)) (kE n2 e2) (.ref b1)))
   exact⟨_,U,A.p,A.dx,_,U,h4.get 1 U,(bC _ _ _).2.2.2.2.2.2.1,A,_,L,U,h4,fun H' a h2=>q H' a h2⟩
end
theorem bT (A:YA) (next:Int) (eng:V):(fl A next eng).lookup ("put" : Str)=none/\(fl A next eng).lookup ("off" : Str)=none/\(fl A next eng).lookup ("carry" : Str)=none/\(fl A next eng).lookup ("pieces" : Str)=none/\(fl A next eng).lookup ("kind" : Str)=none /\
  (fl A next eng).lookup ("note" : Str)=none/\(fl A next eng).lookup ("engine" : Str)=none/\(fl A next eng).lookup ("bells" : Str)=none/\(fl A next eng).lookup ("steps" : Str)=none :=
 ⟨by kernel_rfl,by kernel_rfl,by kernel_rfl,by kernel_rfl,by kernel_rfl,by kernel_rfl,by kernel_rfl,by kernel_rfl,by kernel_rfl⟩
inductive sp_put (C:Addr) (vs:List V) (H:Hp) (Q:VK) (E_:XK):Prop
 | mk (A:YA) (y:YR) (L:Kn) (b:Addr) (n e:Int) (j:Nat) (_:vs=[.ref A.p,.ref b]) (_:Has H (yL C A y++L)) (_:L[j]?=some (b,.tup [.int n,.int e])) (_:cP y n e) (_:∀ H' q,Has H' (yL C { A with tr:=q } { y with eng:=.ref b,trail:=[] }++L)->Q .non H'):sp_put C vs H Q E_
inductive sp_off (C:Addr) (vs:List V) (H:Hp) (Q:VK) (E_:XK):Prop
 | mk (A:YA) (y:YR) (L:Kn) (_:vs=[.ref A.p]) (_:Has H (yL C A y++L)) (_:∀ H' q,Has H' (yL C { A with tr:=q } { y with eng:=.non,trail:=[] }++L)->Q .non H'):sp_off C vs H Q E_
inductive sp_engine (C:Addr) (vs:List V) (H:Hp) (Q:VK) (E_:XK):Prop
 | mk (A:YA) (y:YR) (L:Kn) (_:vs=[.ref A.p]) (_:Has H (yL C A y++L)) (_:Q y.eng H):sp_engine C vs H Q E_
inductive sp_steps (C:Addr) (vs:List V) (H:Hp) (Q:VK) (E_:XK):Prop
 | mk (A:YA) (y:YR) (L:Kn) (_:vs=[.ref A.p]) (_:Has H (yL C A y++L)) (_:Q (.int y.trail.length) H):sp_steps C vs H Q E_
inductive sp_bells (C:Addr) (vs:List V) (H:Hp) (Q:VK) (E_:XK):Prop
 | mk (A:YA) (y:YR) (L:Kn) (_:vs=[.ref A.p]) (_:Has H (yL C A y++L)) (_:∀ H' l,Has H' ((l,.lst y.rung)::(yL C A y++L))->Q (.ref l) H'):sp_bells C vs H Q E_
inductive sp_Jf1 (C:Addr) (vs:List V) (H:Hp) (Q:VK) (E_:XK):Prop
 | mk (A:YA) (y:YR) (L:Kn) (_:vs=[.ref A.p]) (_:Has H (yL C A y++L)) (_:∀ H' l,Has H' ((l,.lst (y.kinds.map fun kv=>kV kv.1))::(yL C A y++L))->Q (.ref l) H'):sp_Jf1 C vs H Q E_
inductive sp_ykind (C:Addr) (vs:List V) (H:Hp) (Q:VK) (E_:XK):Prop
 | mk (A:YA) (y:YR) (L:Kn) (n:Int) (v:V) (_:vs=[.ref A.p,.int n]) (_:Has H (yL C A y++L)) (_:aq y.kinds (Sum.inl n)=some v) (_:Q v H):sp_ykind C vs H Q E_
inductive sp_ynote (C:Addr) (vs:List V) (H:Hp) (Q:VK) (E_:XK):Prop
 | mk (A:YA) (y:YR) (L:Kn) (n:Int) (u v:V) (_:vs=[.ref A.p,.int n]) (_:Has H (yL C A y++L)) (_:aq y.kinds (Sum.inl n)=some u) (_:aq y.notes (Sum.inl n)=some v) (_:Q v H):sp_ynote C vs H Q E_
section
variable {P:Program}{w:World}{K:PySem.W.Frag}{mg:Str->Option Value}{base:Heap}{t:Adr}
theorem scPu:FnScope ["self","end"] ["self","end"] (ah sx):={}
theorem pE (T:Txt K mg t):FnOk P w K mg base CX0 4 t.f_J91 t.d_J91 ["self","end"] (sp_put t.c_Yard):=by
 refine T.F_J91.ok scPu (fun vs H Q E h=>?_) (fun cdv A outer s H vs Q E hr h=>?_)
 ·obtain⟨_,_,_,_,_,_,_,rfl,_⟩:=h
  rfl
 ·obtain⟨A,y,L,b,n,e,j,rfl,hH,hj,th,q⟩:=h
  refine⟨_,(ab (al (aF (pv 0) T.cl_Yard T.M_J1 (lV T) hr (rN T) .nil aH (aa (pv 1) ae)))
   (ab (bK (pv 0) (pv 1) rfl)
   (af (al (aT (pv 0) T.cl_Yard T.M_J3 (gI T) hr (k6 T) .nil aH))))),?_⟩
  refine⟨_,U,A.p,A.dx,_,U,hH.get 1 U,(dW _ _ _).1,_,U,A,y,L,b,n,e,j,U,hH,hj,th,?_⟩
  refine⟨_,U,_,U,A.p,_,A.dx,_,U,hH.get 1 U,T.cl_Yard,T.n_Jc_end,(show 9<1000 by decide),?_⟩
  rw[bx]
  have h1:Has _ (yL t.c_Yard A { y with eng:=.ref b }++L):=hH.puti 1 U (.ins t.c_Yard A.dx (fl A y.next (.ref b)))
  exact⟨_,U,A.p,A.dx,_,U,h1.get 1 U,(bC _ _ _).2.2.2.2.2.2.1,A,_,L,U,h1,fun H' a h2=>q H' a h2⟩
theorem scOf:FnScope ["self"] ["self"] (ah sA):={}
theorem ui (T:Txt K mg t):FnOk P w K mg base CX0 2 t.f_J81 t.d_J81 ["self"] (sp_off t.c_Yard):=by
 refine T.F_J81.ok scOf (fun vs H Q E h=>?_) (fun cdv A outer s H vs Q E hr h=>?_)
 ·obtain⟨_,_,_,rfl,_⟩:=h
  rfl
 ·obtain⟨A,y,L,rfl,hH,q⟩:=h
  refine⟨_,(ab (bK (pv 0) aY rfl)
   (af (al (aT (pv 0) T.cl_Yard T.M_J3 (gI T) hr (k6 T) .nil aH)))),?_⟩
  refine⟨_,U,A.p,_,A.dx,_,U,hH.get 1 U,T.cl_Yard,T.n_Jc_end,(show 9<1000 by decide),?_⟩
  rw[bx]
  have h1:Has _ (yL t.c_Yard A { y with eng:=.non }++L):=hH.puti 1 U (.ins t.c_Yard A.dx (fl A y.next .non))
  exact⟨_,U,A.p,A.dx,_,U,h1.get 1 U,(bC _ _ _).2.2.2.2.2.2.1,A,_,L,U,h1,fun H' a h2=>q H' a h2⟩
theorem scEg:FnScope ["self"] ["self"] (ah vH):={}
theorem lU (T:Txt K mg t):FnOk P w K mg base CX0 1 t.f_Jc t.d_Jc ["self"] (sp_engine t.c_Yard):=by
 refine T.F_Jc.ok scEg (fun vs H Q E h=>?_) (fun cdv A outer s H vs Q E hr h=>?_)
 ·obtain⟨_,_,_,rfl,_⟩:=h
  rfl
 ·obtain⟨A,y,L,rfl,hH,q⟩:=h
  refine⟨_,(af (ao (aJ (pv 0) rfl))),?_⟩
  exact⟨_,U,A.p,_,A.dx,_,_,U,hH.get 1 U,T.cl_Yard,T.n_Jc_end,fC _ _ _,q⟩
theorem scSt:FnScope ["self"] ["self"] (ah vv):={}
theorem sP (T:Txt K mg t):FnOk P w K mg base CX0 1 t.f_Jp t.d_Jp ["self"] (sp_steps t.c_Yard):=by
 refine T.F_Jp.ok scSt (fun vs H Q E h=>?_) (fun cdv A outer s H vs Q E hr h=>?_)
 ·obtain⟨_,_,_,rfl,_⟩:=h
  rfl
 ·obtain⟨A,y,L,rfl,hH,q⟩:=h
  refine⟨_,(af (ao (aG aA (by rfl) T.z_len (by rfl) (aa (aJ (pv 0) rfl) ae)))),?_⟩
  exact⟨_,U,A.p,_,A.dx,_,_,U,hH.get 1 U,T.cl_Yard,T.n_Yard_trail,gY _ _ _,A.tr,_,U,.inl (SqL.of (hH.get 0 U)),q⟩
theorem scBe:FnScope ["self"] ["self"] (ah vw):={}
theorem py (T:Txt K mg t):FnOk P w K mg base CX0 1 t.f_Jo t.d_Jo ["self"] (sp_bells t.c_Yard):=by
 refine T.F_Jo.ok scBe (fun vs H Q E h=>?_) (fun cdv A outer s H vs Q E hr h=>?_)
 ·obtain⟨_,_,_,rfl,_⟩:=h
  rfl
 ·obtain⟨A,y,L,rfl,hH,q⟩:=h
  refine⟨_,(af (ao (bb b7 (by rfl) T.z_list (by rfl) (aa (aJ (pv 0) rfl) ae)))),?_⟩
  exact⟨_,U,A.p,_,A.dx,_,_,U,hH.get 1 U,T.cl_Yard,T.n_Yard_rung,eV _ _ _,A.g,_,U,.inl (SqL.of (hH.get 8 U)),fun l hl=>q _ l (hH.alloc hl _)⟩
theorem scPc:FnScope ["self"] ["self"] (ah vG):={}
theorem pD (T:Txt K mg t):FnOk P w K mg base CX0 1 t.f_Jd t.d_Jd ["self"] (sp_Jf1 t.c_Yard):=by
 refine T.F_Jd.ok scPc (fun vs H Q E h=>?_) (fun cdv A outer s H vs Q E hr h=>?_)
 ·obtain⟨_,_,_,rfl,_⟩:=h
  rfl
 ·obtain⟨A,y,L,rfl,hH,q⟩:=h
  refine⟨_,(af (ao (bb (jy rfl) (by rfl) T.z_list (by rfl) (aa (aJ (pv 0) rfl) ae)))),?_⟩
  exact⟨_,U,A.p,_,A.dx,_,_,U,hH.get 1 U,T.cl_Yard,T.n_Yard_kinds,cB _ _ _,A.k,_,U,.inl (hH.get 3 U),fun l hl=>q _ l (hH.alloc hl _)⟩
theorem scYk:FnScope ["self","piece"] ["self","piece"] (ah vi):={}
theorem lS (T:Txt K mg t):FnOk P w K mg base CX0 2 t.f_Jx t.d_Jx ["self","piece"] (sp_ykind t.c_Yard):=by
 refine T.F_Jx.ok scYk (fun vs H Q E h=>?_) (fun cdv A outer s H vs Q E hr h=>?_)
 ·obtain⟨_,_,_,_,_,rfl,_⟩:=h
  rfl
 ·obtain⟨A,y,L,n,v,rfl,hH,hv,q⟩:=h
  have hu:=cN hr
  refine⟨_,(ab (al (aF (pv 0) T.cl_Yard T.M_J0 (jS T) hr (qh T) .nil aH (aa (pv 1) ae)))
   (af (ao (cm hu (aJ (pv 0) rfl) (pv 1))))),?_⟩
  refine⟨_,U,A.p,A.dx,_,U,hH.get 1 U,(bC _ _ _).2.2.2.2.2.2.2.1,_,U,A,y,L,n,v,U,hH,hv,?_⟩
  refine⟨_,U,A.p,_,A.dx,_,_,U,hH.get 1 U,T.cl_Yard,T.n_Yard_kinds,cB _ _ _,_,U,A.k,_,U,?_,q⟩
  rw[<- hv]
  exact DGet.k (k:=Sum.inl n) (hH.get 3 U)
theorem scYn:FnScope ["self","piece"] ["self","piece"] (ah sH):={}
theorem pG (T:Txt K mg t):FnOk P w K mg base CX0 2 t.f_J11 t.d_J11 ["self","piece"] (sp_ynote t.c_Yard):=by
 refine T.F_J11.ok scYn (fun vs H Q E h=>?_) (fun cdv A outer s H vs Q E hr h=>?_)
 ·obtain⟨_,_,_,_,_,_,rfl,_⟩:=h
  rfl
 ·obtain⟨A,y,L,n,u,v,rfl,hH,hk,hv,q⟩:=h
  have hu:=cN hr
  refine⟨_,(ab (al (aF (pv 0) T.cl_Yard T.M_J0 (jS T) hr (qh T) .nil aH (aa (pv 1) ae)))
   (ab (av (df (fu hu (pv 1) (aJ (pv 0) rfl)))
    (af aX)
    ak)
   (af (ao (cm hu (aJ (pv 0) rfl) (pv 1)))))),?_⟩
  refine⟨_,U,A.p,A.dx,_,U,hH.get 1 U,(bC _ _ _).2.2.2.2.2.2.2.1,_,U,A,y,L,n,u,U,hH,hk,?_⟩
  refine⟨_,U,_,U,A.p,_,A.dx,_,_,U,hH.get 1 U,T.cl_Yard,T.n_Yard_notes,bN _ _ _,A.n,_,U,DGet.k (k:=Sum.inl n) (hH.get 4 U),_,U,ifF (by rw[hv]; rfl) ?_⟩
  refine⟨_,U,A.p,_,A.dx,_,_,U,hH.get 1 U,T.cl_Yard,T.n_Yard_notes,bN _ _ _,_,U,A.n,_,U,?_,q⟩
  rw[<- hv]
  exact DGet.k (k:=Sum.inl n) (hH.get 4 U)
end
noncomputable abbrev En:=Addr×Int×Int
structure Wd where
 kf:Int->Option Kd
 nf:Int->Int
 rf:Int->Int
 mf:Int->Int->Option En
structure Sd where
 ss:List Int
 at_:Option En
 rg:List Int
noncomputable def Wd.sv (w:Wd) (s:Sd) (n:Int):Int:=s.ss.getD (w.rf n).toNat 0
noncomputable def Wd.ok (w:Wd) (z:En):Prop:=∃ k,w.kf z.2.1=some k/\0<=z.2.2/\z.2.2<k.many
noncomputable def aM (w:Wd) (s:Sd) (z:En) (k:Kd) (z':En):Sd :=
 ⟨if k.point then s.ss.set (w.rf z.2.1).toNat (k.side z.2.2 (w.sv s z.2.1)) else s.ss,some z',if k=.bell then s.rg++[w.nf z.2.1] else s.rg⟩
noncomputable def Wd.nx (w:Wd) (s:Sd):Option Sd :=
 match s.at_ with
 | none=>none
 | some z=>match w.kf z.2.1 with
  | none=>none
  | some k=>match k.out z.2.2 (w.sv s z.2.1) with
   | .int o=>(w.mf z.2.1 o).map (aM w s z k)
   | _=>none
noncomputable def Wd.why (w:Wd) (s:Sd):V :=
 match s.at_ with
 | none=>.str "none"
 | some z=>match w.kf z.2.1 with
  | none=>.non
  | some k=>match k.out z.2.2 (w.sv s z.2.1) with
   | .int o=>(match w.mf z.2.1 o with | none=>.str "loose" | some _=>.non)
   | _=>.str "stop"
noncomputable def Wd.go (w:Wd):Nat->Sd->Sd
 | 0,s=>s
 | n+1,s=>match w.nx s with | none=>s | some s'=>w.go n s'
noncomputable def Wd.hist (w:Wd):Nat->Sd->List Sd
 | 0,_=>[]
 | n+1,s=>match w.nx s with | none=>[] | some s'=>s::w.hist n s'
noncomputable def Wd.tv (w:Wd) (s:Sd) (z:En):V:=match w.kf z.2.1 with | some k=>if k.point then .int (w.sv s z.2.1) else .non | none=>.non
noncomputable def Wd.tr (w:Wd) (s:Sd):HO:=match s.at_ with | some z=>.tup [.ref z.1,w.tv s z] | none=>.tup []
noncomputable def trK (w:Wd) (ts:List (Addr×Sd)):Kn:=ts.map fun x=>(x.1,w.tr x.2)
noncomputable def trV (ts:List (Addr×Sd)):List V:=ts.map fun x=>V.ref x.1
noncomputable def enV:Option En->V
 | none=>.non
 | some z=>.ref z.1
structure Rep (w:Wd) (s:Sd) (y:YR):Prop where
 kd:∀ n k,w.kf n=some k->aq y.kinds (Sum.inl n)=some (.str k.str)
 no:∀ n k,w.kf n=some k->aq y.notes (Sum.inl n)=if k=.bell then some (.int (w.nf n)) else none
 ro:∀ n k,w.kf n=some k->aq y.rods (Sum.inl n)=if k.point=true then some (.int (w.rf n)) else none
 rr:∀ n k,w.kf n=some k->k.point=true->0<=w.rf n/\w.rf n<s.ss.length
 sd:y.sides=s.ss.map V.int
 s12:∀ x ∈ s.ss,x=1∨x=2
 mt:∀ n e,aq y.mates (kE n e)=(w.mf n e).map fun z=>V.ref z.1
 mo:∀ n e z,w.mf n e=some z->w.ok z
 en:y.eng=enV s.at_
 eo:∀ z,s.at_=some z->w.ok z
 rg:y.rung=s.rg.map V.int
structure Pool (w:Wd) (s:Sd) (L:Kn):Prop where
 m:∀ n e z,w.mf n e=some z->∃ j:Nat,L[j]?=some (z.1,HO.tup [.int z.2.1,.int z.2.2])
 e:∀ z,s.at_=some z->∃ j:Nat,L[j]?=some (z.1,HO.tup [.int z.2.1,.int z.2.2])
variable{s:Sd}{w:Wd}
theorem Rep.s1 {y:YR} (R:Rep w s y) {n:Int}{k:Kd} (hk:w.kf n=some k) (hp:k.point=true):w.sv s n=1∨w.sv s n=2:=by
 obtain⟨h0,h1⟩:=R.rr n k hk hp
 refine R.s12 _ ?_
 unfold Wd.sv
 rw[List.getD_eq_getElem?_getD,wa (by omega)]
 exact List.getElem_mem _
theorem Rep.sideAt {y:YR} (R:Rep w s y) {n:Int}{k:Kd} (hk:w.kf n=some k) (hp:k.point=true):y.sides[(w.rf n).toNat]?=some (.int (w.sv s n)):=by
 obtain⟨h0,h1⟩:=R.rr n k hk hp
 rw[R.sd,wd,wa (by omega)]
 unfold Wd.sv
 rw[List.getD_eq_getElem?_getD,wa (by omega)]
 rfl
theorem Kd.out_in {k:Kd}{e s o:Int} (e0:0<=e) (e1:e<k.many) (hs:k.point=true->s=1∨s=2) (h:k.out e s=.int o):0<=o/\o<k.many:=by
 unfold Kd.out at h
 by_cases c:k=.stop
 ·rw[if_pos c] at h; cases h
 rw[if_neg c] at h
 by_cases p:k.point=true
 ·rw[if_pos p] at h
  have m:=Kd.many_point p
  rcases hs p with r | r <;> split at h <;> (injection h with h; omega)
 ·rw[if_neg p] at h
  have m:k.many = 2:=by cases k <;> first | rfl | (exfalso; exact c rfl) | (exfalso; exact p rfl)
  injection h with h
  omega
theorem Kd.out_np {k:Kd} (h:¬ k.point=true) (e s s':Int):k.out e s=k.out e s':=by unfold Kd.out; rw[if_neg h,if_neg h]
theorem dw (w:Wd) (s:Sd) (z:En) (k:Kd) (z':En):(aM w s z k z').at_=some z':=rfl
theorem eK {s s':Sd} (h:w.nx s=some s'):∃ (z:En) (k:Kd) (o:Int) (z':En),s.at_=some z/\w.kf z.2.1=some k/\k.out z.2.2 (w.sv s z.2.1)=.int o/\w.mf z.2.1 o=some z'/\s'=aM w s z k z':=by
 unfold Wd.nx at h
 split at h
 ·cases h
 ·rename_i z hz
  split at h
  ·cases h
  ·rename_i k hk
   split at h
   ·rename_i o ho
    obtain⟨z',hm,e⟩:=Option.map_eq_some_iff.mp h
    exact⟨z,k,o,z',hz,hk,ho,hm,e.symm⟩
   ·cases h
theorem jT {z:En}{k:Kd}{o:Int}{z':En} (hz:s.at_=some z) (hk:w.kf z.2.1=some k) (ho:k.out z.2.2 (w.sv s z.2.1)=.int o) (hm:w.mf z.2.1 o=some z'):w.nx s=some (aM w s z k z'):=by
 unfold Wd.nx
 simp only[hz,hk,ho,hm,Option.map_some]
theorem kH {y y':YR}{z:En}{k:Kd}{z':En}{o:Int} (R:Rep w s y) (hz:s.at_=some z) (hk:w.kf z.2.1=some k) (hm:w.mf z.2.1 o=some z')
  (e1:y'.kinds=y.kinds) (e2:y'.notes=y.notes) (e3:y'.rods=y.rods) (e4:y'.mates=y.mates) (e5:y'.sides=(aM w s z k z').ss.map V.int) (e6:y'.eng=.ref z'.1) (e7:y'.rung=(aM w s z k z').rg.map V.int) :
  Rep w (aM w s z k z') y':=by
 have hl:(aM w s z k z').ss.length=s.ss.length:=by
  unfold aM; dsimp only; split
  ·exact List.length_set
  ·rfl
 refine⟨fun n k h=>by rw[e1]; exact R.kd n k h,fun n k h=>by rw[e2]; exact R.no n k h,fun n k h=>by rw[e3]; exact R.ro n k h,fun n k h1 h2=>by rw[hl]; exact R.rr n k h1 h2,e5,fun x hx=>?_,fun n e=>by rw[e4]; exact R.mt n e,R.mo,e6,fun u hu=>?_,e7⟩
 ·unfold aM at hx
  dsimp only at hx
  split at hx
  ·rename_i hp
   rcases List.mem_or_eq_of_mem_set hx with hx | hx
   ·exact R.s12 x hx
   ·obtain⟨k',h1,h2,h3⟩:=R.eo z hz
    rw[hk] at h1
    cases h1
    rw[hx]
    exact Kd.side12 h2 h3 (R.s1 hk hp)
  ·exact R.s12 x hx
 ·rw[dw] at hu
  cases hu
  exact R.mo _ _ _ hm
theorem Pool.step {s s':Sd} (p:Pool w s L) (h:w.nx s=some s'):Pool w s' L:=by
 obtain⟨z,k,o,z',_,_,_,hm,rfl⟩:=eK h
 refine⟨p.m,fun u hu=>?_⟩
 rw[dw] at hu
 cases hu
 exact p.m _ _ _ hm
inductive Nxt (w:Wd) (s:Sd):List V->Prop
 | held (h:w.nx s=none) (x:Str) (e:w.why s=.str x):Nxt w s [.str x,.non,.non]
 | goes (z:En) (k:Kd) (o:Int) (z':En) (hz:s.at_=some z) (hk:w.kf z.2.1=some k) (ho:k.out z.2.2 (w.sv s z.2.1)=.int o) (hm:w.mf z.2.1 o=some z') :
   Nxt w s [.non,.ref z'.1,if k.point then .int (k.side z.2.2 (w.sv s z.2.1)) else .non]
inductive sp_carry (C:Addr) (vs:List V) (H:Hp) (Q:VK) (E_:XK):Prop
 | mk (A:YA) (y:YR) (L:Kn) (w:Wd) (s:Sd) (z:En) (k:Kd) (z':En) (_:vs=[.ref A.p,.ref z'.1,if k.point then .int (k.side z.2.2 (w.sv s z.2.1)) else .non]) (_:Has H (yL C A y++L)) (_:Rep w s y) (_:s.at_=some z) (_:w.kf z.2.1=some k) (_:(∃ j:Nat,L[j]?=some (z.1,HO.tup [.int z.2.1,.int z.2.2]))) (_:y.trail.length<=900000) (_:y.rung.length<=900000) (_:∀ H' a,Has H' (yL C A { y with sides:=(aM w s z k z').ss.map V.int,eng:=.ref z'.1,rung:=(aM w s z k z').rg.map V.int,trail:=y.trail++[.ref a] }++((a,w.tr s)::L))->Q .non H'):sp_carry C vs H Q E_
inductive sp_next (C:Addr) (vs:List V) (H:Hp) (Q:VK) (E_:XK):Prop
 | mk (A:YA) (y:YR) (L:Kn) (w:Wd) (s:Sd) (_:vs=[.ref A.p]) (_:Has H (yL C A y++L)) (_:Rep w s y) (_:Pool w s L) (_:∀ H' p xs,Nxt w s xs->Has H' ((p,.tup xs)::(yL C A y++L))->Q (.ref p) H'):sp_next C vs H Q E_
inductive sp_held (C:Addr) (vs:List V) (H:Hp) (Q:VK) (E_:XK):Prop
 | mk (A:YA) (y:YR) (L:Kn) (w:Wd) (s:Sd) (_:vs=[.ref A.p]) (_:Has H (yL C A y++L)) (_:Rep w s y) (_:Pool w s L) (_:∀ H',Has H' (yL C A y++L)->Q (w.why s) H'):sp_held C vs H Q E_
inductive sp_run (C:Addr) (vs:List V) (H:Hp) (Q:VK) (E_:XK):Prop
 | mk (A:YA) (y:YR) (L:Kn) (w:Wd) (s:Sd) (ts:List (Addr×Sd)) (m:Int) (_:vs=[.ref A.p,.int m]) (_:Has H (yL C A y++(trK w ts++L))) (_:Rep w s y) (_:Pool w s L) (_:y.trail=trV ts) (_:ts.length+m<=900000) (_:y.rung.length+m<=900000) (_:ts.length<=900000) (_:y.rung.length<=900000) (_:∀ H' y' ts',Has H' (yL C A y'++(trK w (ts++ts')++L))->Rep w (w.go m.toNat s) y'->y'.trail=trV (ts++ts')->ts'.map (·.2)=w.hist m.toNat s->y'.next=y.next->y'.kinds=y.kinds->y'.notes=y.notes->y'.rods=y.rods->y'.mates=y.mates->Pool w (w.go m.toNat s) L->Q (.int ts'.length) H'):sp_run C vs H Q E_
theorem jG {w:Wd} (h:s.at_=none):w.nx s=none/\w.why s=.str "none":=by
 unfold Wd.nx Wd.why; simp only[h]; exact⟨trivial,trivial⟩
theorem ej {z:En}{k:Kd} (hz:s.at_=some z) (hk:w.kf z.2.1=some k) (ho:k.out z.2.2 (w.sv s z.2.1)=.non):w.nx s=none/\w.why s=.str "stop":=by
 unfold Wd.nx Wd.why; simp only[hz,hk,ho]; exact⟨trivial,trivial⟩
theorem dJ {z:En}{k:Kd}{o:Int} (hz:s.at_=some z) (hk:w.kf z.2.1=some k) (ho:k.out z.2.2 (w.sv s z.2.1)=.int o) (hm:w.mf z.2.1 o=none):w.nx s=none/\w.why s=.str "loose":=by
 unfold Wd.nx Wd.why; simp only[hz,hk,ho,hm,Option.map_none]; exact⟨trivial,trivial⟩
theorem bH (w:Wd) {s s':Sd} (h:w.nx s=some s') (n:Nat):w.go (n+1) s=w.go n s':=by show(match w.nx s with | none=>s | some s'=>w.go n s')=_; rw[h]
theorem bg (w:Wd) {s s':Sd} (h:w.nx s=some s') (n:Nat):w.hist (n+1) s=s::w.hist n s':=by show(match w.nx s with | none=>[] | some s'=>s::w.hist n s')=_; rw[h]
theorem cu (w:Wd) (h:w.nx s=none):∀ n,w.go n s=s
 | 0=>rfl
 | n+1=>by show(match w.nx s with | none=>s | some s'=>w.go n s')=_; rw[h]
theorem bQ (w:Wd) (h:w.nx s=none):∀ n,w.hist n s=[]
 | 0=>rfl
 | n+1=>by show(match w.nx s with | none=>[] | some s'=>s::w.hist n s')=_; rw[h]
theorem nY (w:Wd) (ts:List (Addr×Sd)) (a:Addr) (s:Sd) (L:Kn):trK w (ts++[(a,s)])++L=trK w ts++((a,w.tr s)::L):=by
 unfold trK; rw[wg,wm]; rfl
theorem cv {w:Wd}{s:Sd}{z:En}{k:Kd}{z':En}:(aM w s z k z').rg.length<=s.rg.length+1:=by
 unfold aM; dsimp only; split
 ·simp
 ·omega
theorem kX (w:Wd):∀ (n:Nat) (s:Sd),(w.go n s).ss.length=s.ss.length
 | 0,s=>rfl
 | n+1,s=>by
  cases h:w.nx s with
  | none=>rw[cu w h]
  | some s'=>
   rw[bH w h,kX w n s']
   obtain⟨z,k,o,z',_,_,_,_,rfl⟩:=eK h
   unfold aM; dsimp only; split
   ·exact List.length_set
   ·rfl
theorem Pool.app (p:Pool w s L) (M:Kn):Pool w s (M++L):=by
 have sh:∀ {x:Addr×HO},(∃ j:Nat,L[j]?=some x)->∃ j:Nat,(M++L)[j]?=some x:=fun {x} ⟨j,h⟩=>⟨M.length+j,by rw[wn (by omega),show M.length+j - M.length=j by omega]; exact h⟩
 exact⟨fun n e z h=>sh (p.m n e z h),fun z h=>sh (p.e z h)⟩
inductive runInv (C:Addr) (A:YA) (y:YR) (L:Kn) (W:Wd) (s:Sd) (ts:List (Addr×Sd)) (m:Int) (r:Nat) (σ:St) (H:Hp):Prop
 | mk (i:Nat) (y1:YR) (ts1:List (Addr×Sd)) (s1:Sd) (o1 o2 o3:Option V) (_:r=m.toNat - i) (_:i<=m.toNat) (_:σ=[some (.ref A.p),some (.int m),some (.int i),o1,o2,o3]) (_:Has H (yL C A y1++(trK W (ts++ts1)++L))) (_:Rep W s1 y1) (_:Pool W s1 L) (_:y1.trail=trV (ts++ts1)) (_:ts1.length=i) (_:W.go m.toNat s=W.go (m.toNat - i) s1) (_:W.hist m.toNat s=ts1.map (·.2)++W.hist (m.toNat - i) s1) (_:y1.rung.length<=y.rung.length+i) (_:y1.next=y.next) (_:y1.kinds=y.kinds) (_:y1.notes=y.notes) (_:y1.rods=y.rods) (_:y1.mates=y.mates):runInv C A y L W s ts m r σ H
section
variable {P:Program}{w:World}{K:PySem.W.Frag}{mg:Str->Option Value}{base:Heap}{t:Adr}
theorem scCy:FnScope ["self","end","side","piece","rod"] ["self","end","side"] (ah vx):={}
theorem ok_Jn (T:Txt K mg t):FnOk P w K mg base CX0 1 t.f_Jn t.d_Jn ["self","end","side"] (sp_carry t.c_Yard):=by
 refine T.F_Jn.ok scCy (fun vs H Q E h=>?_) (fun cdv A outer s H vs Q E hr h=>?_)
 ·obtain⟨_,_,_,_,_,_,_,_,rfl,_⟩:=h
  rfl
 ·obtain⟨A,y,L,W,s1,z,k,z',rfl,hH,R,hz,hk,⟨j,hj⟩,tl,rl,q⟩:=h
  have hu:=cN hr
  refine⟨_,(ab (aB (i:=3) scCy.nd rfl (Or.inl rfl) (aI cE (aJ (pv 0) rfl) ag))
   (ab (aB (i:=4) scCy.nd rfl (Or.inl rfl) (gE hu (aJ (pv 0) rfl) (pv 3) ⟨U,U,U,U⟩))
   (ab (al (bi PySem.F.plainAttrs_list PySem.F.slot_list_append PySem.F.type_list_append aL (aJ (pv 0) rfl) (@aa _ _ _ _ _ (aR (aa (aJ (pv 0) rfl) (aa (dA (ai d5 (pv 4) aY (am _)) aY (aI au (aJ (pv 0) rfl) (pv 4))) ae))) ae (by rfl))))
   (ab (av (ai cH (pv 4) aY (am _))
    (af (bA (pv 2) (gB (aJ (pv 0) rfl) (pv 4) dy)))
    ak)
   (ab (av (df (gG hu (pv 3) (aJ (pv 0) rfl)))
    (af (al (bi PySem.F.plainAttrs_list PySem.F.slot_list_append PySem.F.type_list_append aL (aJ (pv 0) rfl) (aa (cm hu (aJ (pv 0) rfl) (pv 3)) ae))))
    ak)
   (af (bK (pv 0) (pv 1) rfl))))))),?_⟩
  have gz:=hH.get (j+9) (by simpa [yL] using hj)
  have en:y.eng=.ref z.1:=by rw[R.en,hz]; rfl
  refine⟨_,U,A.p,_,A.dx,_,_,U,hH.get 1 U,T.cl_Yard,T.n_Jc_end,fC _ _ _,z.1,_,_,_,en,U,SqT.of gz,U,?_⟩
  refine⟨_,U,A.p,_,A.dx,_,_,U,hH.get 1 U,T.cl_Yard,T.n_J01_under,b5 _ _ _,A.r,U,.inl ⟨_,.inl (hH.get 5 U)⟩,_,U,_,DGet.k (k:=Sum.inl z.2.1) (hH.get 5 U),?_⟩
  refine⟨_,U,A.p,_,A.dx,_,_,U,hH.get 1 U,T.cl_Yard,T.n_Yard_trail,gY _ _ _,.inl ⟨U,_,SqL.of (hH.get 0 U)⟩,?_⟩
  refine⟨_,U,A.p,_,A.dx,_,_,U,hH.get 1 U,T.cl_Yard,T.n_Jc_end,fC _ _ _,_,U,U,_,U,?_⟩
  rw[R.ro _ _ hk,en]
  have etr:W.tr s1=.tup [.ref z.1,if k.point then .int (W.sv s1 z.2.1) else .non]:=by unfold Wd.tr; rw[hz]; show HO.tup [.ref z.1,W.tv s1 z]=_; unfold Wd.tv; rw[hk]
  by_cases hp:k.point=true
  ·rw[if_pos hp] at etr ⊢
   try rw[if_pos hp]
   obtain⟨r0,r1⟩:=R.rr _ _ hk hp
   have sa:=R.sideAt hk hp
   refine ifF rfl ?_
   refine⟨_,U,A.p,_,A.dx,_,_,U,hH.get 1 U,T.cl_Yard,T.n_Yard_sides,bM _ _ _,_,U,A.s,_,W.rf z.2.1,_,U,U,SqL.of (hH.get 6 U),(by rw[show W.rf z.2.1=(((W.rf z.2.1).toNat:Nat):Int) by omega]; exact aK sa),?_⟩
   refine⟨(show 2<=sizeLine by decide),fun a ha=>?_⟩
   have h1:=hH.alloc ha (.tup [.ref z.1,.int (W.sv s1 z.2.1)])
   refine⟨A.tr,_,_,U,U,h1.get 1 U,sizeOk (by omega),?_⟩
   have h2:=Has.comm (X:=[_]) (Y:=yL t.c_Yard A { y with trail:=y.trail++[.ref a] }) (R:=L) (h1.puti 1 U (.lst (y.trail++[.ref a])))
   generalize upd (upd H a _) A.tr _=H2 at h2 ⊢
   replace h2:Has H2 (yL t.c_Yard A { y with trail:=y.trail++[.ref a] }++((a,W.tr s1)::L)):=by rw[etr]; exact h2
   clear h1 ha
   refine⟨_,U,U,_,U,ifT rfl ?_⟩
   have sl:y.sides.length=s1.ss.length:=by rw[R.sd,v9]
   have hjx:ixN y.sides.length (W.rf z.2.1)=some (W.rf z.2.1).toNat:=by unfold ixN; rw[if_pos r0,if_pos (by omega)]
   refine⟨_,U,_,U,A.p,_,A.dx,_,_,U,h2.get 1 U,T.cl_Yard,T.n_Yard_sides,bM _ _ _,_,U,A.s,_,_,_,U,U,h2.get 6 U,hjx,?_⟩
   have h3:=h2.puti 6 U (.lst (y.sides.set (W.rf z.2.1).toNat (.int (k.side z.2.2 (W.sv s1 z.2.1)))))
   have es:(aM W s1 z k z').ss.map V.int=y.sides.set (W.rf z.2.1).toNat (.int (k.side z.2.2 (W.sv s1 z.2.1))):=by unfold aM; dsimp only; rw[if_pos hp,List.map_set,R.sd]
   have hT:Has _ (yL t.c_Yard A { y with sides:=y.sides.set (W.rf z.2.1).toNat (.int (k.side z.2.2 (W.sv s1 z.2.1))),trail:=y.trail++[.ref a] }++((a,W.tr s1)::L)):=h3
   refine⟨_,U,_,U,A.p,_,A.dx,_,_,U,hT.get 1 U,T.cl_Yard,T.n_Yard_notes,bN _ _ _,A.n,_,U,DGet.k (k:=Sum.inl z.2.1) (hT.get 4 U),_,U,if2 (fun hb=>?_) (fun hb=>?_)⟩
   ·have kb:k=.bell:=by
     rw[R.no _ _ hk] at hb
     by_cases c:k=.bell
     ·exact c
     ·rw[if_neg c] at hb; cases hb
    have nv:aq y.notes (Sum.inl z.2.1)=some (.int (W.nf z.2.1)):=by rw[R.no _ _ hk,if_pos kb]
    refine⟨_,U,A.p,_,A.dx,_,_,U,hT.get 1 U,T.cl_Yard,T.n_Yard_rung,eV _ _ _,.inl ⟨U,_,SqL.of (hT.get 8 U)⟩,_,U,A.p,_,A.dx,_,_,U,hT.get 1 U,T.cl_Yard,T.n_Yard_notes,bN _ _ _,_,U,A.n,_,U,(by rw[<- nv]; exact DGet.k (k:=Sum.inl z.2.1) (hT.get 4 U)),A.g,_,_,U,U,hT.get 8 U,sizeOk (show y.rung.length<=1000000 by omega),?_⟩
    have h4:Has _ (yL t.c_Yard A { y with sides:=y.sides.set (W.rf z.2.1).toNat (.int (k.side z.2.2 (W.sv s1 z.2.1))),rung:=y.rung++[.int (W.nf z.2.1)],trail:=y.trail++[.ref a] }++((a,W.tr s1)::L)):=hT.puti 8 U (.lst (y.rung++[.int (W.nf z.2.1)]))
    refine⟨_,U,_,U,A.p,_,A.dx,_,U,h4.get 1 U,T.cl_Yard,T.n_Jc_end,(show 9<1000 by decide),?_⟩
    rw[bx]
    have h5:=h4.puti 1 U (.ins t.c_Yard A.dx (fl A y.next (.ref z'.1)))
    have er:(aM W s1 z k z').rg.map V.int=y.rung++[.int (W.nf z.2.1)]:=by unfold aM; dsimp only; rw[if_pos kb,wg,R.rg]; rfl
    refine q _ a ?_
    rw[er,es]
    exact h5
   ·have kb:¬ k=.bell:=fun c=>by rw[R.no _ _ hk,if_pos c] at hb; cases hb
    refine⟨_,U,_,U,A.p,_,A.dx,_,U,hT.get 1 U,T.cl_Yard,T.n_Jc_end,(show 9<1000 by decide),?_⟩
    rw[bx]
    have h5:=hT.puti 1 U (.ins t.c_Yard A.dx (fl A y.next (.ref z'.1)))
    have er:(aM W s1 z k z').rg.map V.int=y.rung:=by unfold aM; dsimp only; rw[if_neg kb,R.rg]
    refine q _ a ?_
    rw[er,es]
    exact h5
  ·rw[if_neg hp] at etr ⊢
   try rw[if_neg hp]
   refine ifT rfl ?_
   refine⟨(show 2<=sizeLine by decide),fun a ha=>?_⟩
   have h1:=hH.alloc ha (.tup [.ref z.1,.non])
   refine⟨A.tr,_,_,U,U,h1.get 1 U,sizeOk (by omega),?_⟩
   have h2:=Has.comm (X:=[_]) (Y:=yL t.c_Yard A { y with trail:=y.trail++[.ref a] }) (R:=L) (h1.puti 1 U (.lst (y.trail++[.ref a])))
   generalize upd (upd H a _) A.tr _=H2 at h2 ⊢
   replace h2:Has H2 (yL t.c_Yard A { y with trail:=y.trail++[.ref a] }++((a,W.tr s1)::L)):=by rw[etr]; exact h2
   clear h1 ha
   refine⟨_,U,U,_,U,ifF rfl ?_⟩
   have h3:=h2
   have es:(aM W s1 z k z').ss.map V.int=y.sides:=by unfold aM; dsimp only; rw[if_neg hp,R.sd]
   have hT:Has _ (yL t.c_Yard A { y with sides:=y.sides,trail:=y.trail++[.ref a] }++((a,W.tr s1)::L)):=h3
   refine⟨_,U,_,U,A.p,_,A.dx,_,_,U,hT.get 1 U,T.cl_Yard,T.n_Yard_notes,bN _ _ _,A.n,_,U,DGet.k (k:=Sum.inl z.2.1) (hT.get 4 U),_,U,if2 (fun hb=>?_) (fun hb=>?_)⟩
   ·have kb:k=.bell:=by
     rw[R.no _ _ hk] at hb
     by_cases c:k=.bell
     ·exact c
     ·rw[if_neg c] at hb; cases hb
    have nv:aq y.notes (Sum.inl z.2.1)=some (.int (W.nf z.2.1)):=by rw[R.no _ _ hk,if_pos kb]
    refine⟨_,U,A.p,_,A.dx,_,_,U,hT.get 1 U,T.cl_Yard,T.n_Yard_rung,eV _ _ _,.inl ⟨U,_,SqL.of (hT.get 8 U)⟩,_,U,A.p,_,A.dx,_,_,U,hT.get 1 U,T.cl_Yard,T.n_Yard_notes,bN _ _ _,_,U,A.n,_,U,(by rw[<- nv]; exact DGet.k (k:=Sum.inl z.2.1) (hT.get 4 U)),A.g,_,_,U,U,hT.get 8 U,sizeOk (show y.rung.length<=1000000 by omega),?_⟩
    have h4:Has _ (yL t.c_Yard A { y with sides:=y.sides,rung:=y.rung++[.int (W.nf z.2.1)],trail:=y.trail++[.ref a] }++((a,W.tr s1)::L)):=hT.puti 8 U (.lst (y.rung++[.int (W.nf z.2.1)]))
    refine⟨_,U,_,U,A.p,_,A.dx,_,U,h4.get 1 U,T.cl_Yard,T.n_Jc_end,(show 9<1000 by decide),?_⟩
    rw[bx]
    have h5:=h4.puti 1 U (.ins t.c_Yard A.dx (fl A y.next (.ref z'.1)))
    have er:(aM W s1 z k z').rg.map V.int=y.rung++[.int (W.nf z.2.1)]:=by unfold aM; dsimp only; rw[if_pos kb,wg,R.rg]; rfl
    refine q _ a ?_
    rw[er,es]
    exact h5
   ·have kb:¬ k=.bell:=fun c=>by rw[R.no _ _ hk,if_pos c] at hb; cases hb
    refine⟨_,U,_,U,A.p,_,A.dx,_,U,hT.get 1 U,T.cl_Yard,T.n_Jc_end,(show 9<1000 by decide),?_⟩
    rw[bx]
    have h5:=hT.puti 1 U (.ins t.c_Yard A.dx (fl A y.next (.ref z'.1)))
    have er:(aM W s1 z k z').rg.map V.int=y.rung:=by unfold aM; dsimp only; rw[if_neg kb,R.rg]
    refine q _ a ?_
    rw[er,es]
    exact h5
theorem scNs:FnScope ["yard","stand","piece","end","kind","side","out","behind","mate"] ["yard"] (ah vt):={}
theorem ok_Jq (T:Txt K mg t):FnOk P w K mg base CX0 5 t.f_Jq t.d_Jq ["yard"] (sp_next t.c_Yard):=by
 refine T.F_Jq.ok scNs (fun vs H Q E h=>?_) (fun cdv A outer s H vs Q E hr h=>?_)
 ·obtain⟨_,_,_,_,_,rfl,_⟩:=h
  rfl
 ·obtain⟨A,y,L,W,s1,rfl,hH,R,PL,q⟩:=h
  have three:3<=sizeLine:=by decide
  refine⟨_,(ab (aB (i:=1) scNs.nd rfl (Or.inl rfl) (aT (pv 0) T.cl_Yard T.M_Jc (lU T) hr (rM T) .nil aH))
   (ab (av (ai d5 (pv 1) aY (am _))
    (af (ao (aR (aa az (aa aY (aa aY ae))))))
    ak)
   (ab (bA (pv 1) (bB rfl (ap (aj (i:=2) scNs.nd rfl (Or.inl rfl)) (ap (aj (i:=3) scNs.nd rfl (Or.inl rfl)) ba))))
   (ab (aB (i:=4) scNs.nd rfl (Or.inl rfl) (aF (pv 0) T.cl_Yard T.M_Jx (lS T) hr (rL T) .nil aH (aa (pv 2) ae)))
   (ab (aB (i:=5) scNs.nd rfl (Or.inl rfl) (dA (bp (pcl (jb T) hr T.m_J31 T.F_J31.kp (mF T) (aa (pv 4) ae))) (aF (pv 0) T.cl_Yard T.M_Jz (pq T) hr (uT T) .nil aH (aa (aF (pv 0) T.cl_Yard T.M_J71 (ja T) hr (mE T) .nil aH (aa (pv 2) ae)) ae)) aY))
   (ab (bA (pcl (uh T) hr T.m_Ja1 T.F_Ja1.kp (b_Ja1 T) (aa (pv 4) (aa (pv 3) (aa (pv 5) ae)))) (bB rfl (ap (aj (i:=6) scNs.nd rfl (Or.inl rfl)) (ap (aj (i:=7) scNs.nd rfl (Or.inl rfl)) ba))))
   (ab (av (ai d5 (pv 6) aY (am _))
    (af (ao (aR (aa az (aa aY (aa aY ae))))))
    ak)
   (ab (aB (i:=8) scNs.nd rfl (Or.inl rfl) (aF (pv 0) T.cl_Yard T.M_Jy (px T) hr (uU T) .nil aH (@aa _ _ _ _ _ (aR (aa (pv 2) (aa (pv 6) ae))) ae (by rfl))))
   (ab (av (ai d5 (pv 8) aY (am _))
    (af (ao (aR (aa az (aa aY (aa aY ae))))))
    ak)
   (af (ao (aR (aa aY (aa (pv 8) (aa (pv 7) ae))))))))))))))),?_⟩
  refine⟨_,U,A.p,A.dx,_,U,hH.get 1 U,(bT _ _ _).2.2.2.2.2.2.1,A,y,L,U,hH,?_⟩
  refine⟨_,U,U,_,U,?_⟩
  rw[R.en]
  cases hz:s1.at_ with
  | none=>
   obtain⟨n1,n2⟩:=jG (w:=W) hz
   exact da ⟨three,fun p hp=>q _ p _ (.held n1 _ n2) (hH.alloc hp _)⟩
  | some z=>
   obtain⟨j,hj⟩:=PL.e z hz
   obtain⟨k,hk,e0,e1⟩:=R.eo z hz
   have gz:=hH.get (j+9) (by simpa [yL] using hj)
   have vk:aq y.kinds (Sum.inl z.2.1)=some (.str k.str):=R.kd _ _ hk
   refine bz ?_
   refine⟨_,U,z.1,_,U,SqT.of gz,U,_,_,U,_,_,U,U,?_⟩
   refine⟨_,U,A.p,A.dx,_,U,hH.get 1 U,(bT _ _ _).2.2.2.2.1,_,U,A,y,L,z.2.1,_,U,hH,vk,?_⟩
   refine⟨_,U,k,U,_,U,?_⟩
   have thr:∀ o:Int,k.out z.2.2 (W.sv s1 z.2.1)=.int o->cP y z.2.1 o:=fun o ho=>by
    have:=Kd.out_in e0 e1 (fun hp=>R.s1 hk hp) ho
    exact⟨k,vk,this.1,this.2⟩
   refine if2 (fun hp=>?_) (fun hp=>?_)
   ·obtain⟨r0,r1⟩:=R.rr _ _ hk hp
    have vr:aq y.rods (Sum.inl z.2.1)=some (.int (W.rf z.2.1)):=by rw[R.ro _ _ hk,if_pos hp]
    refine⟨_,U,A.p,A.dx,_,U,hH.get 1 U,(bC _ _ _).2.2.2.2.2.1,_,U,A.p,A.dx,_,U,hH.get 1 U,(bC _ _ _).2.2.2.2.1,_,U,A,y,L,z.2.1,_,_,U,hH,vk,vr,A,y,L,W.rf z.2.1,_,U,hH,r0,R.sideAt hk hp,?_⟩
    refine⟨_,U,_,U,_,U,k,z.2.2,W.sv s1 z.2.1,V.int (W.sv s1 z.2.1),U,e0,e1,(fun h=>⟨U,R.s1 hk hp⟩),fun p hp1=>?_⟩
    have h1:=hH.alloc hp1 (.tup [k.out z.2.2 (W.sv s1 z.2.1),if k.point then .int (k.side z.2.2 (W.sv s1 z.2.1)) else V.int (W.sv s1 z.2.1)])
    refine⟨p,_,U,SqT.of (h1.get 0 U),U,_,_,U,_,_,U,U,?_⟩
    replace h1:=h1.tail
    generalize upd H p _=H1 at h1 ⊢
    refine⟨_,U,U,_,U,?_⟩
    by_cases c:k.out z.2.2 (W.sv s1 z.2.1)=.non
    ·obtain⟨n1,n2⟩:=ej hz hk c
     exact ifT (decide_eq_true c) ⟨three,fun p hp=>q _ p _ (.held n1 _ n2) (h1.alloc hp _)⟩
    ·refine ifF (decide_eq_false c) ?_
     obtain⟨o,ho⟩:=Kd.out_int (k:=k) (fun e=>c (by unfold Kd.out; rw[if_pos e])) z.2.2 (W.sv s1 z.2.1)
     rw[ho]
     refine⟨_,U,A.p,A.dx,_,U,h1.get 1 U,(dW _ _ _).2.1,_,U,_,U,(show 2<=sizeLine by decide),fun b hb=>?_⟩
     have h2:=Has.comm (X:=[(b,.tup [.int z.2.1,.int o])]) (Y:=yL t.c_Yard A y) (R:=L) (h1.alloc hb (.tup [.int z.2.1,.int o]))
     generalize upd H1 b _=H2 at h2 ⊢
     refine⟨A,y,_,b,z.2.1,o,0,U,h2,U,thr o ho,?_⟩
     have h3:=(Has.comm (X:=yL t.c_Yard A y) (Y:=[(b,.tup [.int z.2.1,.int o])]) (R:=L) h2).tail
     refine⟨_,U,U,_,U,?_⟩
     rw[R.mt]
     cases hm:W.mf z.2.1 o with
     | none=>
      obtain⟨n1,n2⟩:=dJ hz hk ho hm
      exact da ⟨three,fun p hp=>q _ p _ (.held n1 _ n2) (h3.alloc hp _)⟩
     | some z'=>
      exact bz ⟨_,U,_,U,three,fun p hp=>q _ p _ (.goes z k o z' hz hk ho hm) (by rw[if_pos (by assumption:k.point=true)]; have:=h3.alloc hp (.tup [.non,.ref z'.1,.int (k.side z.2.2 (W.sv s1 z.2.1))]); simpa [*] using this)⟩
   ·refine⟨_,U,_,U,_,U,k,z.2.2,W.sv s1 z.2.1,V.non,U,e0,e1,(fun h=>absurd h (by rw[hp]; decide)),fun p hp1=>?_⟩
    have h1:=hH.alloc hp1 (.tup [k.out z.2.2 (W.sv s1 z.2.1),if k.point then .int (k.side z.2.2 (W.sv s1 z.2.1)) else V.non])
    refine⟨p,_,U,SqT.of (h1.get 0 U),U,_,_,U,_,_,U,U,?_⟩
    replace h1:=h1.tail
    generalize upd H p _=H1 at h1 ⊢
    refine⟨_,U,U,_,U,?_⟩
    by_cases c:k.out z.2.2 (W.sv s1 z.2.1)=.non
    ·obtain⟨n1,n2⟩:=ej hz hk c
     exact ifT (decide_eq_true c) ⟨three,fun p hp=>q _ p _ (.held n1 _ n2) (h1.alloc hp _)⟩
    ·refine ifF (decide_eq_false c) ?_
     obtain⟨o,ho⟩:=Kd.out_int (k:=k) (fun e=>c (by unfold Kd.out; rw[if_pos e])) z.2.2 (W.sv s1 z.2.1)
     rw[ho]
     refine⟨_,U,A.p,A.dx,_,U,h1.get 1 U,(dW _ _ _).2.1,_,U,_,U,(show 2<=sizeLine by decide),fun b hb=>?_⟩
     have h2:=Has.comm (X:=[(b,.tup [.int z.2.1,.int o])]) (Y:=yL t.c_Yard A y) (R:=L) (h1.alloc hb (.tup [.int z.2.1,.int o]))
     generalize upd H1 b _=H2 at h2 ⊢
     refine⟨A,y,_,b,z.2.1,o,0,U,h2,U,thr o ho,?_⟩
     have h3:=(Has.comm (X:=yL t.c_Yard A y) (Y:=[(b,.tup [.int z.2.1,.int o])]) (R:=L) h2).tail
     refine⟨_,U,U,_,U,?_⟩
     rw[R.mt]
     cases hm:W.mf z.2.1 o with
     | none=>
      obtain⟨n1,n2⟩:=dJ hz hk ho hm
      exact da ⟨three,fun p hp=>q _ p _ (.held n1 _ n2) (h3.alloc hp _)⟩
     | some z'=>
      exact bz ⟨_,U,_,U,three,fun p hp=>q _ p _ (.goes z k o z' hz hk ho hm) (by exact h3.alloc hp _)⟩
theorem scRn:FnScope ["yard","most","done","why","end","side"] ["yard","most"] (ah se):={}
theorem pd (T:Txt K mg t):FnOk P w K mg base CX0 6 t.f_run t.d_run ["yard","most"] (sp_run t.c_Yard):=by
 refine T.F_run.ok scRn (fun vs H Q E h=>?_) (fun cdv A outer s H vs Q E hr h=>?_)
 ·obtain⟨_,_,_,_,_,_,_,rfl,_⟩:=h
  rfl
 ·obtain⟨A,y,L,W,s0,ts,m,rfl,hH,R,PL,tl,b1,b2,b3,b4,q⟩:=h
  refine⟨_,(ab (aB (i:=2) scRn.nd rfl (Or.inl rfl) ag)
   (ab (gA PassesOwn.never (ai eF (pv 2) (pv 1) (am _))
    (ab (bA (pcl (ok_Jq T) hr T.m_Jq T.F_Jq.kp (b_Jq T) (aa (pv 0) ae)) (bB rfl (ap (aj (i:=3) scRn.nd rfl (Or.inl rfl)) (ap (aj (i:=4) scRn.nd rfl (Or.inl rfl)) (ap (aj (i:=5) scRn.nd rfl (Or.inl rfl)) ba)))))
     (ab (av (ai cH (pv 3) aY (am _))
      (af oT)
      ak)
     (ab (al (aF (pv 0) T.cl_Yard T.M_Jn (ok_Jn T) hr (b_Jn T) .nil aH (aa (pv 4) (aa (pv 5) ae))))
     (af (tR (i:=2) scRn.nd rfl (Or.inl rfl) ag uF))))))
   (af (ao (pv 2))))),?_⟩
  refine⟨runInv t.c_Yard A y L W s0 ts m,⟨_,0,y,[],s0,_,_,_,U,Nat.zero_le _,U,by rw[wx]; exact hH,R,PL,by rw[wx]; exact tl,U,U,U,Nat.le_refl _,U,U,U,U,U⟩,?_⟩
  rintro r σ H1 ⟨i,y1,ts1,s1,o1,o2,o3,rfl,im,rfl,h1,R1,P1,tl1,li,eg,eh,rg,f1,f2,f3,f4,f5⟩
  refine⟨_,U,_,U,_,_,U,U,_,U,if2 (fun hc=>?_) (fun hc=>?_)⟩
  ·have hlt:(i:Int)<m:=of_decide_eq_true hc
   refine⟨fun σ' H'=>∃ r',r'<m.toNat - i/\runInv t.c_Yard A y L W s0 ts m r' σ' H',fun _ _ h=>h,?_⟩
   refine⟨_,U,A,y1,_,W,s1,U,h1,R1,P1.app _,fun H2 p xs nx h2=>?_⟩
   cases nx with
   | held hn x e=>
    refine⟨p,_,U,SqT.of (h2.get 0 U),U,_,_,U,_,_,U,_,_,U,U,?_⟩
    refine⟨_,U,U,_,U,ifT rfl ?_⟩
    rw[cu W hn] at eg
    rw[bQ W hn,wx] at eh
    refine⟨_,U,?_⟩
    have:=q H2 y1 ts1 h2.tail (by rw[eg]; exact R1) tl1 eh.symm f1 f2 f3 f4 f5 (by rw[eg]; exact P1)
    rw[li] at this
    exact this
   | goes z k o z' hz hk ho hm=>
    have hn:=jT hz hk ho hm
    refine⟨p,_,U,SqT.of (h2.get 0 U),U,_,_,U,_,_,U,_,_,U,U,?_⟩
    refine⟨_,U,U,_,U,ifF rfl ?_⟩
    replace h2:=h2.tail
    have tll:y1.trail.length=ts.length+i:=by rw[tl1]; unfold trV; rw[v9,wf,li]
    refine⟨_,U,A.p,A.dx,_,U,h2.get 1 U,(bT _ _ _).2.2.1,_,U,_,U,A,y1,_,W,s1,z,k,z',U,h2,R1,hz,hk,(P1.app _).e z hz,by omega,by omega,fun H3 a h3=>?_⟩
    refine⟨_,U,_,_,U,U,?_⟩
    have em:m.toNat - i=(m.toNat - (i+1))+1:=by omega
    rw[em,bH W hn] at eg
    rw[em,bg W hn] at eh
    refine⟨m.toNat - (i+1),by omega,i+1,{ y1 with sides:=(aM W s1 z k z').ss.map V.int,eng:=.ref z'.1,rung:=(aM W s1 z k z').rg.map V.int,trail:=y1.trail++[.ref a] },ts1++[(a,s1)],aM W s1 z k z',_,_,_,U,by omega,U,?_,kH R1 hz hk hm rfl rfl rfl rfl rfl rfl rfl,P1.step hn,?_,by simp[li],eg,by rw[eh]; simp,?_,f1,f2,f3,f4,f5⟩
    ·rw[<- wm ts ts1,nY]
     exact h3.perm (List.Perm.append_left _ List.perm_middle.symm)
    ·show y1.trail++[.ref a]=_
     rw[tl1]; unfold trV; simp
    ·show((aM W s1 z k z').rg.map V.int).length<=_
     have:=cv (w:=W) (s:=s1) (z:=z) (k:=k) (z':=z')
     have e:=congrArg List.length R1.rg
     rw[v9] at e ⊢
     omega
  ·have hge:¬ (i:Int)<m:=of_decide_eq_false hc
   have e0:m.toNat - i=0:=by omega
   rw[e0] at eg eh
   refine⟨_,U,?_⟩
   have:=q H1 y1 ts1 h1 (by rw[eg]; exact R1) tl1 (by rw[eh]; exact(wx _).symm) f1 f2 f3 f4 f5 (by rw[eg]; exact P1)
   rw[li] at this
   exact this
end
noncomputable def dS (ks:List Kd):List (Key×V):=ks.zipIdx.map fun p=>((Sum.inl (p.2:Int):Key),V.str p.1.str)
theorem m9 (ks:List Kd) (k:Kd):dS (ks++[k])=dS ks++[((Sum.inl (ks.length:Int):Key),V.str k.str)]:=by
 unfold dS
 rw[List.zipIdx_append,wg]
 simp
theorem dF (ks:List Kd):(dS ks).length=ks.length:=by unfold dS; simp
theorem lp (f:Kd->V):∀ (ks:List Kd) (n m:Nat),aq ((ks.zipIdx n).map fun p=>((Sum.inl (p.2:Int):Key),f p.1)) (Sum.inl (m:Int))=if n<=m then(ks[m - n]?).map f else none
 | [],n,m=>by simp[jH]
 | k::ks,n,m=>by
  rw[List.zipIdx_cons,wu]
  by_cases e:n=m
  ·subst e
   rw[bt rfl]; simp
  ·rw[bo (fun z=>e (by injection z with z; exact Int.ofNat.inj z)),lp f ks (n+1) m]
   by_cases c:n<=m
   ·rw[if_pos c,if_pos (by omega)]
    obtain⟨d,rfl⟩:∃ d,m=n+1+d:=⟨m - (n+1),by omega⟩
    rw[show n+1+d - (n+1)=d by omega,show n+1+d - n=d+1 by omega]
    rfl
   ·rw[if_neg c,if_neg (by omega)]
theorem cX (ks:List Kd) (m:Nat):aq (dS ks) (Sum.inl (m:Int))=(ks[m]?).map fun k=>V.str k.str:=by
 have:=lp (fun k=>V.str k.str) ks 0 m
 rw[if_pos (Nat.zero_le _)] at this
 exact this
structure Blt (y:YR) (ks:List Kd) (ns rs ss:List Int):Prop where
 nx:y.next=ks.length
 kd:y.kinds=dS ks
 nl:ns.length=ks.length
 rl:rs.length=ks.length
 no:∀ (i:Nat),aq y.notes (Sum.inl (i:Int))=if ks[i]?=some .bell then some (.int (ns.getD i 0)) else none
 ro:∀ (i:Nat),aq y.rods (Sum.inl (i:Int))=if (ks[i]?.map Kd.point)=some true then some (.int (rs.getD i 0)) else none
 rr:∀ (i:Nat),(ks[i]?.map Kd.point)=some true->0<=rs.getD i 0/\rs.getD i 0<ss.length
 nlen:y.notes.length<=ks.length
 rlen:y.rods.length<=ks.length
 sd:y.sides=ss.map V.int
 s12:∀ s ∈ ss,s=1∨s=2
 sl:ss.length<=ks.length
 mt:y.mates=[]
 en:y.eng=.non
 rg:y.rung=[]
 tl:y.trail=[]
 nr:∀ x ∈ ns,0<=x/\x<=9999
 rn:∀ (i:Nat),(ks[i]?.map Kd.point)=some false->rs.getD i 0<0
theorem Blt.nil:Blt y0 [] [] [] []:=⟨U,U,U,U,(fun i=>rfl),(fun i=>rfl),(fun i h=>by simp at h),Nat.le_refl _,Nat.le_refl _,U,(fun _ h=>nomatch h),Nat.le_refl _,U,U,U,U,(fun _ h=>nomatch h),(fun i h=>by simp at h)⟩
variable{ks:List Kd}
theorem Blt.small {y:YR}{ns rs ss:List Int} (h:Blt y ks ns rs ss) (hk:ks.length<=1000):cC y :=
 ⟨by rw[h.kd,dF]; omega,by have:=h.nlen; omega,by have:=h.rlen; omega,by have:=h.sl; rw[h.sd,v9]; omega,by rw[h.mt]; decide,by rw[h.rg]; decide,by rw[h.tl]; decide⟩
variable{i:Nat}
theorem dQ {xs:List Int}{x:Int} (h:i<xs.length):(xs++[x]).getD i 0=xs.getD i 0:=by simp[List.getD,wr h]
theorem dR {xs:List Int}{x:Int}:(xs++[x]).getD xs.length 0=x:=by simp[List.getD]
theorem Blt.lay {y:YR}{ns rs ss:List Int} (h:Blt y ks ns rs ss) (k:Kd) (z note bar:Int) (rod:V) (ss':List Int) (hz:0<=z/\z<=9999) (hb:k=.bell->note=z)
  (hp:k.point=true->(rod=.non/\bar=ss.length/\ss'=ss++[1])∨(rod=.int bar/\0<=bar/\bar<ss.length/\ss'=ss)) (hn:k.point=false->ss'=ss/\bar<0) :
  Blt (du y k note rod) (ks++[k]) (ns++[z]) (rs++[bar]) ss':=by
 have hnl:=h.nl
 have hrl:=h.rl
 have up:ss.length<=ss'.length/\ss'.length<=ss.length+1:=by
  cases e:k.point with
  | false=>rw[(hn e).1]; omega
  | true=>rcases hp e with ⟨_,_,r⟩ | ⟨_,_,_,r⟩ <;> rw[r] <;> simp
 have fresh:aq y.kinds (Sum.inl (ks.length:Int))=none:=by rw[h.kd,cX,List.getElem?_eq_none (Nat.le_refl _)]; rfl
 have ne:∀ {i:Nat},¬ i=ks.length->¬ (Sum.inl (i:Int):Key)=Sum.inl (ks.length:Int):=fun {i} c e=>c (by injection e with e; exact Int.ofNat.inj e)
 have out:∀ {i:Nat},¬ i=ks.length->¬ i<ks.length->(ks++[k])[i]?=none/\ks[i]?=none:=fun {i} c1 c2=>⟨List.getElem?_eq_none (by simp; omega),List.getElem?_eq_none (by omega)⟩
 refine⟨?_,?_,by simp[hnl],by simp[hrl],fun i=>?_,fun i=>?_,fun i hi=>?_,?_,?_,?_,?_,?_,h.mt,h.en,h.rg,U,?_,fun i hi=>?_⟩
 ·show y.next+1=_
  rw[h.nx]; simp
 ·show aO y.kinds (Sum.inl y.next) (.str k.str)=_
  rw[h.nx,cM _ fresh,h.kd,m9]
 ·show aq (if k=.bell then aO y.notes (Sum.inl y.next) (.int note) else y.notes) _=_
  rw[h.nx]
  by_cases c:i=ks.length
  ·subst c
   rw[List.getElem?_concat_length]
   by_cases kb:k=.bell
   ·rw[if_pos kb,aN,if_pos rfl,if_pos (by rw[kb]),<- hnl,dR,hb kb]
   ·rw[if_neg kb,h.no,List.getElem?_eq_none (Nat.le_refl _),if_neg (by intro z; cases z),if_neg (by intro z; exact kb (Option.some.inj z))]
  ·have e:aq (if k=.bell then aO y.notes (Sum.inl (ks.length:Int)) (.int note) else y.notes) (Sum.inl (i:Int))=aq y.notes (Sum.inl (i:Int)):=by
    by_cases kb:k=.bell
    ·rw[if_pos kb,aN,if_neg (ne c)]
    ·rw[if_neg kb]
   rw[e,h.no]
   by_cases c2:i<ks.length
   ·rw[wr c2,dQ (by omega)]
   ·rw[(out c c2).1,(out c c2).2,if_neg (by intro z; cases z),if_neg (by intro z; cases z)]
 ·show aq (if k.point=true then aO y.rods (Sum.inl y.next) (if rod=.non then .int y.sides.length else rod) else y.rods) _=_
  rw[h.nx]
  by_cases c:i=ks.length
  ·subst c
   rw[List.getElem?_concat_length,<- hrl,dR,hrl]
   cases kp:k.point with
   | true=>
    rw[if_pos rfl,aN,if_pos rfl,if_pos (show Option.map Kd.point (some k)=some true by simp[kp])]
    rcases hp kp with ⟨r1,r2,_⟩ | ⟨r1,_,_,_⟩
    ·rw[if_pos r1,h.sd,v9,r2]
    ·rw[r1,if_neg (by intro z; cases z)]
   | false=>
    rw[if_neg Bool.false_ne_true,h.ro,List.getElem?_eq_none (Nat.le_refl _),if_neg (by intro z; cases z),if_neg (by simp[kp])]
  ·have e:aq (if k.point=true then aO y.rods (Sum.inl (ks.length:Int)) (if rod=.non then .int y.sides.length else rod) else y.rods) (Sum.inl (i:Int))=aq y.rods (Sum.inl (i:Int)):=by
    by_cases kb:k.point=true
    ·rw[if_pos kb,aN,if_neg (ne c)]
    ·rw[if_neg kb]
   rw[e,h.ro]
   by_cases c2:i<ks.length
   ·rw[wr c2,dQ (by omega)]
   ·rw[(out c c2).1,(out c c2).2,if_neg (by intro z; cases z),if_neg (by intro z; cases z)]
 ·by_cases c:i=ks.length
  ·subst c
   rw[List.getElem?_concat_length] at hi
   rw[<- hrl,dR]
   rcases hp (by simpa using hi) with ⟨_,r2,r3⟩ | ⟨_,r2,r3,r4⟩
   ·refine⟨by omega,?_⟩
    rw[r3,r2,wf,wB]
    omega
   ·rw[r4]; exact⟨r2,r3⟩
  ·by_cases c2:i<ks.length
   ·rw[wr c2] at hi
    rw[dQ (by omega)]
    have:=h.rr i hi
    exact⟨this.1,by omega⟩
   ·rw[(out c c2).1] at hi; cases hi
 ·show(if k=.bell then aO y.notes (Sum.inl y.next) (.int note) else y.notes).length<=_
  have:=h.nlen
  have:=bD y.notes (Sum.inl y.next) (.int note)
  rw[wf,wB]
  split <;> omega
 ·show(if k.point=true then aO y.rods (Sum.inl y.next) (if rod=.non then .int y.sides.length else rod) else y.rods).length<=_
  have:=h.rlen
  have:=bD y.rods (Sum.inl y.next) (if rod=.non then .int y.sides.length else rod)
  rw[wf,wB]
  split <;> omega
 ·show(if k.point=true/\rod=.non then y.sides++[.int 1] else y.sides)=_
  cases kp:k.point with
  | true=>
   rcases hp kp with ⟨r1,_,r3⟩ | ⟨r1,_,_,r4⟩
   ·rw[if_pos ⟨U,r1⟩,h.sd,r3,wg]; rfl
   ·rw[if_neg (by rw[r1]; intro z; cases z.2),h.sd,r4]
  | false=>rw[if_neg (fun z=>Bool.false_ne_true z.1),h.sd,(hn kp).1]
 ·intro s hs
  cases kp:k.point with
  | true=>
   rcases hp kp with ⟨r1,_,r3⟩ | ⟨r1,_,_,r4⟩
   ·rw[r3,wq] at hs
    rcases hs with hs | hs
    ·exact h.s12 s hs
    ·exact .inl (by simpa using hs)
   ·rw[r4] at hs; exact h.s12 s hs
  | false=>rw[(hn kp).1] at hs; exact h.s12 s hs
 ·have:=h.sl
  rw[wf,wB]
  omega
 ·intro x hx
  rw[wq] at hx
  rcases hx with hx | hx
  ·exact h.nr x hx
  ·rw[wo.mp hx]; exact hz
 ·by_cases c:i=ks.length
  ·subst c
   rw[List.getElem?_concat_length] at hi
   rw[<- hrl,dR]
   exact(hn (by simpa using hi)).2
  ·by_cases c2:i<ks.length
   ·rw[wr c2] at hi
    rw[dQ (by omega)]
    exact h.rn i hi
   ·rw[(out c c2).1] at hi; cases hi
noncomputable def oq:Sp:=fun vs H Q _=>vs=[]/\∀ p,H p=none->Q (.ref p) (upd H p (.lst [.str "line",.str "bell",.str "still",.str "lazy",.str "turning",.str "stop"]))
inductive sp_kind (vs:List V) (H:Hp) (Q:VK) (E_:XK):Prop
 | mk (x:Int) (L:Kn) (_:vs=[.int x]) (_:Has H L) (_:∀ (k:Kd) H',Has H' L->Q (.str k.str) H'):sp_kind vs H Q E_
noncomputable def qy:Sp:=fun vs H Q _=>∃ x:Int,vs=[.int x]/\∀ n:Int,1<=n->n<=24->Q (.int n) H
noncomputable def ksV (ks:List Kd):List V:=ks.map fun k=>V.str k.str
inductive sp_built (C:Addr) (vs:List V) (H:Hp) (Q:VK) (E_:XK):Prop
 | mk (d:Addr) (ds:List Int) (a n:Int) (L:Kn) (j:Nat) (_:vs=[.ref d,.int a,.int n]) (_:Has H L) (_:L[j]?=some (d,.lst (ds.map V.int))) (_:0<=a) (_:0<=n) (_:n<=24) (_:a+3*n<=ds.length) (_:∀ H' A y (ks:List Kd) (ns rs ss:List Int) (tp sd rr nn kk:Addr),Blt y ks ns rs ss->(ks.length:Int)=n->Has H' ((tp,.tup [.ref A.p,.ref kk,.ref nn,.ref rr,.ref sd])::(yL C A y++([(sd,.lst (ss.map V.int)),(rr,.lst (rs.map V.int)),(nn,.lst (ns.map V.int)),(kk,.lst (ksV ks))]++L)))->Q (.ref tp) H'):sp_built C vs H Q E_
theorem Kd.of11 (x:Int):∃ k:Kd,atI ([V.str "line",.str "bell",.str "still",.str "lazy",.str "turning",.str "stop"]++[V.str "lazy",.str "turning",.str "bell",.str "still",.str "line"]) (x % 11)=some (.str k.str):=by
 have l0:=Int.emod_nonneg x (show(11:Int)≠0 by decide)
 have l1:=Int.emod_lt_of_pos x (show(0:Int)<11 by decide)
 generalize x % 11=m at *
 obtain⟨n,rfl⟩:=Int.eq_ofNat_of_zero_le l0
 have h:n<11:=Int.ofNat_lt.mp l1
 clear l0 l1
 rcases n with _ | n
 ·exact⟨.line,U⟩
 rcases n with _ | n
 ·exact⟨.bell,U⟩
 rcases n with _ | n
 ·exact⟨.still,U⟩
 rcases n with _ | n
 ·exact⟨.lazy,U⟩
 rcases n with _ | n
 ·exact⟨.turning,U⟩
 rcases n with _ | n
 ·exact⟨.stop,U⟩
 rcases n with _ | n
 ·exact⟨.lazy,U⟩
 rcases n with _ | n
 ·exact⟨.turning,U⟩
 rcases n with _ | n
 ·exact⟨.bell,U⟩
 rcases n with _ | n
 ·exact⟨.still,U⟩
 rcases n with _ | n
 ·exact⟨.line,U⟩
 exact absurd h (by omega)
theorem atD {ds:List Int}{i:Int} (h0:0<=i) (h1:i<ds.length):atI (ds.map V.int) i=some (.int (ds.getD i.toNat 0)):=by
 obtain⟨m,rfl⟩:∃ m:Nat,i=m:=⟨i.toNat,by omega⟩
 have hl:m<ds.length:=by omega
 rw[Int.toNat_natCast]
 refine aK ?_
 rw[wd,wa hl]
 simp[List.getD,wa hl]
inductive bui1Inv (C_:Addr) (d:Addr) (a:Int) (n:Int) (kk:Addr) (nn:Addr) (rr:Addr) (sd:Addr) (L:Kn) (i:Nat) (σ':St) (H':Hp):Prop
 | mk (A1:YA) (y:YR) (ks:List Kd) (ns rs ss:List Int) (o1 o2 o3 o4 o5:Option V) (_:Blt y ks ns rs ss) (_:ks.length=i) (_:σ'=[some (.ref d),some (.int a),some (.int n),some (.ref A1.p),some (.ref kk),some (.ref nn),some (.ref rr),some (.ref sd),o1,o2,o3,o4,o5]) (_:Has H' (yL C_ A1 y++([(sd,.lst (ss.map V.int)),(rr,.lst (rs.map V.int)),(nn,.lst (ns.map V.int)),(kk,.lst (ksV ks))]++L))):bui1Inv C_ d a n kk nn rr sd L i σ' H'
section
variable {P:Program}{w:World}{K:PySem.W.Frag}{mg:Str->Option Value}{base:Heap}{t:Adr}
theorem scKs:FnScope [] [] (ah lC):={}
theorem pf (T:Txt K mg t):FnOk P w K mg base CX0 1 t.f_kinds t.d_kinds [] oq:=by
 refine T.F_kinds.ok scKs (fun vs H Q E h=>?_) (fun cdv A outer s H vs Q E hr h=>?_)
 ·obtain⟨rfl,_⟩:=h
  rfl
 ·obtain⟨rfl,q⟩:=h
  refine⟨_,(af (ao (a9 (aa az (aa az (aa az (aa az (aa az (aa az ae))))))))),?_⟩
  exact⟨(show 6<=sizeLine by decide),fun p hp=>q p hp⟩
theorem scKn:FnScope ["_law_draw"] ["_law_draw"] (ah oI):={}
theorem qN (T:Txt K mg t):FnOk P w K mg base CX0 2 t.f_kind t.d_kind ["_law_draw"] sp_kind:=by
 refine T.F_kind.ok scKn (fun vs H Q E h=>?_) (fun cdv A outer s H vs Q E hr h=>?_)
 ·obtain⟨_,_,rfl,_⟩:=h
  rfl
 ·obtain⟨x,L,rfl,hH,q⟩:=h
  refine⟨_,(af (ao (aI au (aC fV (o0 (pf T) (hr.mono (by decide)) (by rfl) T.m_kinds T.F_kinds.kp (rF T) .nil aH) (a9 (aa az (aa az (aa az (aa az (aa az ae))))))) (aC bq (pv 0) ag)))),?_⟩
  refine⟨U,fun p1 hp1=>?_⟩
  have h1:=hH.alloc hp1 (.lst [.str "line",.str "bell",.str "still",.str "lazy",.str "turning",.str "stop"])
  refine⟨(show 5<=sizeLine by decide),fun p2 hp2=>?_⟩
  have h2:=h1.alloc hp2 (.lst [.str "lazy",.str "turning",.str "bell",.str "still",.str "line"])
  refine⟨p1,p2,_,_,U,U,SqL.of (h2.get 1 U),SqL.of (h2.get 0 U),(show 11<=sizeLine by decide),fun p3 hp3=>?_⟩
  have h3:=h2.alloc hp3 (.lst ([V.str "line",.str "bell",.str "still",.str "lazy",.str "turning",.str "stop"]++[V.str "lazy",.str "turning",.str "bell",.str "still",.str "line"]))
  obtain⟨k,hk⟩:=Kd.of11 x
  refine⟨_,U,_,_,U,U,(show(0:Int)<11 by decide),p3,_,_,_,U,U,SqL.of (h3.get 0 U),hk,?_⟩
  exact q k _ h3.tail.tail.tail
theorem scSz:FnScope ["_law_draw"] ["_law_draw"] (ah oF):={}
theorem qM (T:Txt K mg t):FnOk P w K mg base CX0 1 t.f_size t.d_size ["_law_draw"] qy:=by
 refine T.F_size.ok scSz (fun vs H Q E h=>?_) (fun cdv A outer s H vs Q E hr h=>?_)
 ·obtain⟨_,rfl,_⟩:=h
  rfl
 ·obtain⟨x,rfl,q⟩:=h
  refine⟨_,(ab (av (ai bj (aC bq (aC eJ (pv 0) ag) ag) ag (am _))
    (af (ao ag))
    ak)
   (af (ao (aC bh ag (aC bq (pv 0) ag))))),?_⟩
  refine⟨_,U,_,_,U,U,⟨by decide,by decide⟩,_,_,U,U,(show(0:Int)<6 by decide),U,_,U,if2 (fun _=>?_) (fun _=>?_)⟩
  ·exact q 24 (by decide) (by decide)
  ·refine⟨_,U,_,_,U,U,(show(0:Int)<9 by decide),_,_,U,U,?_⟩
   have l0:=Int.emod_nonneg x (show(9:Int)≠0 by decide)
   have l1:=Int.emod_lt_of_pos x (show(0:Int)<9 by decide)
   exact q _ (by omega) (by omega)
theorem scBu:FnScope ["_law_d","_law_at","_law_many_here","_law_yard","_law_kinds_here","_law_notes","_law_rods","_law_sides","_law_piece","_law_kind_here","_law_note","_law_way","_law_bar"] ["_law_d","_law_at","_law_many_here"] (ah lG):={}
theorem pj (T:Txt K mg t):FnOk P w K mg base CX0 5 t.f_built t.d_built ["_law_d","_law_at","_law_many_here"] (sp_built t.c_Yard):=by
 obtain⟨_,hd_J61_2,hb_J61_2⟩:=ig T
 obtain⟨_,hd_J61_3,hb_J61_3⟩:=qj T
 obtain⟨_,hd_J61_4,hb_J61_4⟩:=qi T
 refine T.F_built.ok scBu (fun vs H Q E h=>?_) (fun cdv A outer s H vs Q E hr h=>?_)
 ·obtain⟨_,_,_,_,_,_,rfl,_⟩:=h
  rfl
 ·obtain⟨d,ds,a,n,L,j,rfl,hH,hj,a0,n0,n24,hds,q⟩:=h
  refine⟨_,(ab (aB (i:=3) scBu.nd rfl (Or.inl rfl) (jM T.mk_Yard (sM T) (hr.mono (by decide)) (by rfl) T.m_Yard (vY T) .nil aH))
   (ab (aB (i:=4) scBu.nd rfl (Or.inl rfl) (a9 ae))
   (ab (aB (i:=5) scBu.nd rfl (Or.inl rfl) (a9 ae))
   (ab (aB (i:=6) scBu.nd rfl (Or.inl rfl) (a9 ae))
   (ab (aB (i:=7) scBu.nd rfl (Or.inl rfl) (a9 ae))
   (ab (bm PassesOwn.never rfl (bP (by rfl) T.z_range (aa (pv 2) ae)) (aj (i:=8) scBu.nd rfl (Or.inl rfl))
    (ab (aB (i:=9) scBu.nd rfl (Or.inl rfl) (pcl (qN T) hr T.m_kind T.F_kind.kp (uR T) (aa (aI au (pv 0) (aC bh (pv 1) (aC dj ag (pv 8)))) ae)))
     (ab (aB (i:=10) scBu.nd rfl (Or.inl rfl) (aC bq (aI au (pv 0) (aC bh (aC bh (pv 1) (aC dj ag (pv 8))) ag)) ag))
     (ab (aB (i:=11) scBu.nd rfl (Or.inl rfl) (aI au (pv 0) (aC bh (aC bh (pv 1) (aC dj ag (pv 8))) ag)))
     (ab (aB (i:=12) scBu.nd rfl (Or.inl rfl) (aC d4 ag ag))
     (ab (av (ai bj (pv 9) az (am _))
      (af (al (aF (pv 3) T.cl_Yard T.M_J61 (dD T) hr hb_J61_3 hd_J61_3 aH (aa (pv 9) (aa (pv 10) ae)))))
      (af (av (ai eF (pcl (i9 T) hr T.m_many T.F_many.kp (k5 T) (aa (pv 9) ae)) ag (am _))
        (af (al (aF (pv 3) T.cl_Yard T.M_J61 (dD T) hr hb_J61_2 hd_J61_2 aH (aa (pv 9) ae))))
        (af (av (PW.pt (de (ai bj (aC bq (pv 11) ag) ag (am _)) (cG (ai eG (aG aA (by rfl) T.z_len (by rfl) (aa (pv 7) ae)) ag (am _)))))
          (ab (aB (i:=12) scBu.nd rfl (Or.inl rfl) (aC bq (aC eJ (pv 11) ag) (aG aA (by rfl) T.z_len (by rfl) (aa (pv 7) ae))))
           (af (al (aF (pv 3) T.cl_Yard T.M_J61 (dD T) hr hb_J61_4 hd_J61_4 aH (aa (pv 9) (aa ag (aa (pv 12) ae)))))))
          (ab (aB (i:=12) scBu.nd rfl (Or.inl rfl) (aG aA (by rfl) T.z_len (by rfl) (aa (pv 7) ae)))
           (ab (al (bi PySem.F.plainAttrs_list PySem.F.slot_list_append PySem.F.type_list_append aL (pv 7) (aa ag ae)))
           (af (al (aF (pv 3) T.cl_Yard T.M_J61 (dD T) hr hb_J61_2 hd_J61_2 aH (aa (pv 9) ae)))))))))))
     (ab (al (bi PySem.F.plainAttrs_list PySem.F.slot_list_append PySem.F.type_list_append aL (pv 4) (aa (pv 9) ae)))
     (ab (al (bi PySem.F.plainAttrs_list PySem.F.slot_list_append PySem.F.type_list_append aL (pv 5) (aa (pv 10) ae)))
     (af (al (bi PySem.F.plainAttrs_list PySem.F.slot_list_append PySem.F.type_list_append aL (pv 6) (aa (pv 12) ae))))))))))))
   (af (ao (aR (aa (pv 3) (aa (pv 4) (aa (pv 5) (aa (pv 6) (aa (pv 7) ae)))))))))))))),?_⟩
  intro p1 dx1 hp1 hdx1 ne1
  refine⟨p1,dx1,_,U,(hH.alloc hdx1 (.own p1)).alloc (by rw[aQ (Ne.symm ne1)]; exact hp1) (.ins t.c_Yard dx1 []),fun H2 A1 e1 h2=>⟨U,?_⟩⟩
  subst e1
  refine⟨by decide,fun kk hkk=>?_⟩
  have h3:=h2.alloc hkk (.lst [])
  generalize upd H2 kk _=H3 at h3 ⊢
  refine⟨by decide,fun nn hnn=>?_⟩
  have h4:=h3.alloc hnn (.lst [])
  generalize upd H3 nn _=H4 at h4 ⊢
  refine⟨by decide,fun rr hrr=>?_⟩
  have h5:=h4.alloc hrr (.lst [])
  generalize upd H4 rr _=H5 at h5 ⊢
  refine⟨by decide,fun sd hsd=>?_⟩
  have h6:=Has.comm (X:=[(sd,.lst []),(rr,.lst []),(nn,.lst []),(kk,.lst [])]) (Y:=yL t.c_Yard A1 y0) (R:=L) (h5.alloc hsd (.lst []))
  generalize upd H5 sd _=H6 at h6 ⊢
  refine⟨_,U,n,U,by omega,by omega,bF (bui1Inv t.c_Yard d a n kk nn rr sd L) ⟨_,_,_,_,_,_,_,_,_,_,_,Blt.nil,U,U,h6⟩ ?_ ?_⟩
  ·clear h2 h3 h4 h5 h6
   rintro i σ H6 hi ⟨A1,y,ks,ns,rs,ss,o1,o2,o3,o4,o5,B,lk,rfl,h6⟩
   have i24:i<24:=by omega
   have hnl:=B.nl
   have hrl:=B.rl
   have hsl:=B.sl
   have hd1:SqL K H6 d (ds.map V.int):=SqL.of (h6.get (j+13) (by simpa [yL] using hj))
   refine⟨_,U,_,U,_,U,_,_,U,U,(.inl ⟨by decide,by decide⟩),_,_,U,U,d,_,_,_,U,U,hd1,atD (by omega) (by omega),_,_,U,h6,fun k H7 h7=>?_⟩
   have hd2:SqL K H7 d (ds.map V.int):=SqL.of (h7.get (j+13) (by simpa [yL] using hj))
   clear h6
   refine⟨_,U,_,U,_,U,_,_,U,U,(.inl ⟨by decide,by decide⟩),_,_,U,U,_,_,U,U,d,_,_,_,U,U,hd2,atD (by omega) (by omega),_,_,U,U,(show(0:Int)<10000 by decide),?_⟩
   refine⟨_,U,_,U,_,U,_,_,U,U,(.inl ⟨by decide,by decide⟩),_,_,U,U,_,_,U,U,d,_,_,_,U,U,hd2,atD (by omega) (by omega),?_⟩
   refine⟨_,_,U,U,?_⟩
   dsimp only
   have z0:=Int.emod_nonneg (ds.getD (a+3*(0+(i:Int))+1).toNat 0) (show(10000:Int)≠0 by decide)
   have z1:=Int.emod_lt_of_pos (ds.getD (a+3*(0+(i:Int))+1).toNat 0) (show(0:Int)<10000 by decide)
   generalize ds.getD (a+3*(0+(i:Int))+1).toNat 0 % 10000=z at z0 z1 ⊢
   generalize ds.getD (a+3*(0+(i:Int))+2).toNat 0=way
   have hz:0<=z/\z<=9999:=⟨z0,by omega⟩
   refine⟨_,U,U,_,U,?_⟩
   rw[k.isBell]
   refine ifd (fun kb=>?_) (fun kb=>?_)
   ·refine⟨_,U,A1.p,A1.dx,_,U,h7.get 1 U,(bC _ _ _).1,_,U,_,U,A1,y,_,k,z,.non,U,h7,B.small (by omega),fun _=>hz,fun _ h=>absurd rfl h,fun H9 q9 h9=>?_⟩
    have kp:k.point=false:=by rw[kb]; rfl
    refine⟨_,U,.inl ⟨U,_,SqL.of (h9.get 12 U)⟩,_,U,kk,_,_,U,U,h9.get 12 U,sizeOk (by unfold ksV; rw[v9]; omega),?_⟩
    have h10:=h9.puti 12 U (.lst (ksV ks++[.str k.str]))
    refine⟨_,U,.inl ⟨U,_,SqL.of (h10.get 11 U)⟩,_,U,nn,_,_,U,U,h10.get 11 U,sizeOk (by rw[v9]; omega),?_⟩
    have h11:=h10.puti 11 U (.lst (ns.map V.int++[.int z]))
    refine⟨_,U,.inl ⟨U,_,SqL.of (h11.get 10 U)⟩,_,U,rr,_,_,U,U,h11.get 10 U,sizeOk (by rw[v9]; omega),?_⟩
    have h12:=h11.puti 10 U (.lst (rs.map V.int++[.int (0 - 1)]))
    refine⟨{ A1 with tr:=q9 },_,ks++[k],ns++[z],rs++[(0 - 1)],ss,_,_,_,_,_,(B.lay k z z (0 - 1) .non ss hz (fun _=>rfl) (fun h=>absurd (kp.symm.trans h) (by decide)) (fun _=>⟨U,by decide⟩)),by simp[lk],U,?_⟩
    have e1:ksV (ks++[k])=ksV ks++[.str k.str]:=by unfold ksV; rw[wg]; rfl
    rw[e1,wg (l₁:=ns),wg (l₁:=rs)]
    exact h12
   ·refine⟨_,U,k,U,_,_,U,U,_,U,if2 (fun km=>?_) (fun km=>?_)⟩
    ·refine⟨_,U,A1.p,A1.dx,_,U,h7.get 1 U,(bC _ _ _).1,_,U,A1,y,_,k,0,.non,U,h7,B.small (by omega),fun h=>absurd h kb,fun _ h=>absurd rfl h,fun H9 q9 h9=>?_⟩
     have kp:k.point = false:=by cases k <;> first | rfl | (exfalso; revert km; decide)
     refine⟨_,U,.inl ⟨U,_,SqL.of (h9.get 12 U)⟩,_,U,kk,_,_,U,U,h9.get 12 U,sizeOk (by unfold ksV; rw[v9]; omega),?_⟩
     have h10:=h9.puti 12 U (.lst (ksV ks++[.str k.str]))
     refine⟨_,U,.inl ⟨U,_,SqL.of (h10.get 11 U)⟩,_,U,nn,_,_,U,U,h10.get 11 U,sizeOk (by rw[v9]; omega),?_⟩
     have h11:=h10.puti 11 U (.lst (ns.map V.int++[.int z]))
     refine⟨_,U,.inl ⟨U,_,SqL.of (h11.get 10 U)⟩,_,U,rr,_,_,U,U,h11.get 10 U,sizeOk (by rw[v9]; omega),?_⟩
     have h12:=h11.puti 10 U (.lst (rs.map V.int++[.int (0 - 1)]))
     refine⟨{ A1 with tr:=q9 },_,ks++[k],ns++[z],rs++[(0 - 1)],ss,_,_,_,_,_,(B.lay k z 0 (0 - 1) .non ss hz (fun h=>absurd h kb) (fun h=>absurd (kp.symm.trans h) (by decide)) (fun _=>⟨U,by decide⟩)),by simp[lk],U,?_⟩
     have e1:ksV (ks++[k])=ksV ks++[.str k.str]:=by unfold ksV; rw[wg]; rfl
     rw[e1,wg (l₁:=ns),wg (l₁:=rs)]
     exact h12
    ·have kp:k.point = true:=by cases k <;> first | rfl | (exfalso; revert km; decide) | exact absurd rfl kb
     have hsd:SqL K H7 sd (ss.map V.int):=SqL.of (h7.get 9 U)
     have h8:Has (upd H7 sd (.lst (ss.map V.int++[.int 1]))) (yL t.c_Yard A1 y++([(sd,.lst ((ss++[1]).map V.int)),(rr,.lst (rs.map V.int)),(nn,.lst (ns.map V.int)),(kk,.lst (ksV ks))]++L)):=by
      rw[wg]
      exact h7.puti 9 U (.lst (ss.map V.int++[.int 1]))
     refine⟨_,U,_,_,U,U,(show(0:Int)<3 by decide),U,_,U,if2 (fun _=>⟨_,U,sd,_,U,.inl hsd,_,_,U,U,_,U,if2 (fun hs=>?_) (fun hs=>?_)⟩) (fun _=>bz ?_)⟩
     ·have s0:0<ss.length:=by
       have:=of_decide_eq_true hs
       rw[v9] at this
       omega
      refine⟨_,U,_,_,U,U,⟨by decide,by decide⟩,_,U,sd,_,U,.inl hsd,_,_,U,U,(show(0:Int)<((ss.map V.int).length:Int) by rw[v9]; omega),?_⟩
      rw[v9]
      dsimp only
      have b0:=Int.emod_nonneg (way / 3) (show((ss.length:Nat):Int)≠0 by omega)
      have b1:=Int.emod_lt_of_pos (way / 3) (show(0:Int)<((ss.length:Nat):Int) by omega)
      generalize way / 3 % (ss.length:Int)=bar at b0 b1 ⊢
      refine⟨_,U,A1.p,A1.dx,_,U,h7.get 1 U,(bC _ _ _).1,_,U,_,U,A1,y,_,k,0,.int bar,U,h7,B.small (by omega),fun h=>absurd h kb,fun _ _=>⟨bar,U,b0,by rw[B.sd,v9]; exact b1⟩,fun H9 q9 h9=>?_⟩
      refine⟨_,U,.inl ⟨U,_,SqL.of (h9.get 12 U)⟩,_,U,kk,_,_,U,U,h9.get 12 U,sizeOk (by unfold ksV; rw[v9]; omega),?_⟩
      have h10:=h9.puti 12 U (.lst (ksV ks++[.str k.str]))
      refine⟨_,U,.inl ⟨U,_,SqL.of (h10.get 11 U)⟩,_,U,nn,_,_,U,U,h10.get 11 U,sizeOk (by rw[v9]; omega),?_⟩
      have h11:=h10.puti 11 U (.lst (ns.map V.int++[.int z]))
      refine⟨_,U,.inl ⟨U,_,SqL.of (h11.get 10 U)⟩,_,U,rr,_,_,U,U,h11.get 10 U,sizeOk (by rw[v9]; omega),?_⟩
      have h12:=h11.puti 10 U (.lst (rs.map V.int++[.int bar]))
      refine⟨{ A1 with tr:=q9 },_,ks++[k],ns++[z],rs++[bar],ss,_,_,_,_,_,(B.lay k z 0 bar (.int bar) ss hz (fun h=>absurd h kb) (fun _=>.inr ⟨U,b0,b1,U⟩) (fun h=>absurd (kp.symm.trans h) (by decide))),by simp[lk],U,?_⟩
      have e1:ksV (ks++[k])=ksV ks++[.str k.str]:=by unfold ksV; rw[wg]; rfl
      rw[e1,wg (l₁:=ns),wg (l₁:=rs)]
      exact h12
     all_goals
      refine⟨_,U,sd,_,U,.inl hsd,?_⟩
      refine⟨_,U,.inl ⟨U,_,hsd⟩,sd,_,_,U,U,h7.get 9 U,sizeOk (by rw[v9]; omega),?_⟩
      refine⟨_,U,A1.p,A1.dx,_,U,h8.get 1 U,(bC _ _ _).1,_,U,A1,y,_,k,0,.non,U,h8,B.small (by omega),fun h=>absurd h kb,fun _ h=>absurd rfl h,fun H9 q9 h9=>?_⟩
      refine⟨_,U,.inl ⟨U,_,SqL.of (h9.get 12 U)⟩,_,U,kk,_,_,U,U,h9.get 12 U,sizeOk (by unfold ksV; rw[v9]; omega),?_⟩
      have h10:=h9.puti 12 U (.lst (ksV ks++[.str k.str]))
      refine⟨_,U,.inl ⟨U,_,SqL.of (h10.get 11 U)⟩,_,U,nn,_,_,U,U,h10.get 11 U,sizeOk (by rw[v9]; omega),?_⟩
      have h11:=h10.puti 11 U (.lst (ns.map V.int++[.int z]))
      refine⟨_,U,.inl ⟨U,_,SqL.of (h11.get 10 U)⟩,_,U,rr,_,_,U,U,h11.get 10 U,sizeOk (by rw[v9]; omega),?_⟩
      have h12:=h11.puti 10 U (.lst (rs.map V.int++[.int (((ss.map V.int).length:Int))]))
      refine⟨{ A1 with tr:=q9 },_,ks++[k],ns++[z],rs++[(((ss.map V.int).length:Int))],(ss++[1]),_,_,_,_,_,(B.lay k z 0 (((ss.map V.int).length:Int)) .non (ss++[1]) hz (fun h=>absurd h kb) (fun _=>.inl ⟨U,by rw[v9],U⟩) (fun h=>absurd (kp.symm.trans h) (by decide))),by simp[lk],U,?_⟩
      have e1:ksV (ks++[k])=ksV ks++[.str k.str]:=by unfold ksV; rw[wg]; rfl
      rw[e1,wg (l₁:=ns),wg (l₁:=rs)]
      exact h12
  ·rintro σ H6 ⟨A1,y,ks,ns,rs,ss,o1,o2,o3,o4,o5,B,lk,rfl,h6⟩
   refine⟨_,U,_,U,_,U,_,U,_,U,(show 5<=sizeLine by decide),fun tp htp=>?_⟩
   exact q _ A1 y ks ns rs ss tp sd rr nn kk B (by omega) (h6.alloc htp _)
end
noncomputable def aV (ks:List Kd):List (Int×Int):=ks.zipIdx.flatMap fun p=>(List.range p.1.many.toNat).map fun e:Nat=>((p.2:Int),(e:Int))
theorem hG (ks:List Kd) (k:Kd):aV (ks++[k])=aV ks++(List.range k.many.toNat).map fun e:Nat=>((ks.length:Int),(e:Int)):=by
 unfold aV
 rw[List.zipIdx_append,List.flatMap_append]
 simp
noncomputable def esK (es:List (Addr×Int×Int)):Kn:=es.map fun x=>(x.1,HO.tup [.int x.2.1,.int x.2.2])
noncomputable def esV (es:List (Addr×Int×Int)):List V:=es.map fun x=>V.ref x.1
theorem kj (ks:List Kd):(aV ks).length<=3*ks.length:=by
 unfold aV
 have:∀ (l:List (Kd×Nat)),(l.flatMap fun p=>(List.range p.1.many.toNat).map fun e:Nat=>((p.2:Int),(e:Int))).length<=3*l.length:=by
  intro l
  induction l with
  | nil=>simp
  | cons p l ih=>
   rw[List.flatMap_cons,wf,v9,List.length_range,wl]
   have:p.1.many.toNat<=3:=by cases p.1 <;> decide
   omega
 have h:=this ks.zipIdx
 rw[List.length_zipIdx] at h
 exact h
theorem bu {n e:Int} (h:(n,e) ∈ aV ks):∃ (i:Nat) (k:Kd),n=i/\ks[i]?=some k/\0<=e/\e<k.many:=by
 unfold aV at h
 obtain⟨p,hp,hq⟩:=List.mem_flatMap.mp h
 obtain⟨x,hx,he⟩:=wv.mp hq
 rw[wG] at hx
 cases he
 refine⟨p.2,p.1,U,?_,by omega,by omega⟩
 have:=List.mem_zipIdx_iff_getElem?.mp hp
 simpa using this
inductive sp_ends (vs:List V) (H:Hp) (Q:VK) (E_:XK):Prop
 | mk (kk:Addr) (ks:List Kd) (L:Kn) (j:Nat) (_:vs=[.ref kk]) (_:Has H L) (_:L[j]?=some (kk,.lst (ksV ks))) (_:ks.length<=1000) (_:∀ H' (el:Addr) (es:List (Addr×Int×Int)),es.map (·.2)=aV ks->Has H' ((el,.lst (esV es))::(esK es++L))->Q (.ref el) H'):sp_ends vs H Q E_
section
variable {P:Program}{w:World}{K:PySem.W.Frag}{mg:Str->Option Value}{base:Heap}{t:Adr}
theorem scEn:FnScope ["_law_kinds_here","_law_ends_here","_law_piece","_law_kind_here","_law_place"] ["_law_kinds_here"] (ah oJ):={}
theorem fW (T:Txt K mg t):FnOk P w K mg base CX0 2 t.f_ends t.d_ends ["_law_kinds_here"] sp_ends:=by
 refine T.F_ends.ok scEn (fun vs H Q E h=>?_) (fun cdv A outer s H vs Q E hr h=>?_)
 ·obtain⟨_,_,_,_,rfl,_⟩:=h
  rfl
 ·obtain⟨kk,ks,L,j,rfl,hH,hj,hk,q⟩:=h
  refine⟨_,(ab (aB (i:=1) scEn.nd rfl (Or.inl rfl) (a9 ae))
   (ab (bm PassesOwn.never rfl (eB (by rfl) T.z_enumerate (aa (pv 0) ae)) (bB rfl (ap (aj (i:=2) scEn.nd rfl (Or.inl rfl)) (ap (aj (i:=3) scEn.nd rfl (Or.inl rfl)) ba)))
    (af (bm PassesOwn.never rfl (bP (by rfl) T.z_range (aa (pcl (i9 T) hr T.m_many T.F_many.kp (k5 T) (aa (pv 3) ae)) ae)) (aj (i:=4) scEn.nd rfl (Or.inl rfl))
      (af (al (bi PySem.F.plainAttrs_list PySem.F.slot_list_append PySem.F.type_list_append aL (pv 1) (@aa _ _ _ _ _ (aR (aa (pv 2) (aa (pv 4) ae))) ae (by rfl))))))))
   (af (ao (pv 1))))),?_⟩
  refine⟨by decide,fun el hel=>?_⟩
  have h1:=hH.alloc hel (.lst [])
  generalize upd H el _=H1 at h1 ⊢
  have gk:∀ {H:Hp}{x:HO}{M:Kn},Has H ((el,x)::(M++L))->SqL K H kk (ksV ks):=fun {H x M} h=>SqL.of (h.get (M.length+j+1) (by
   rw[List.getElem?_cons_succ,wn (by omega),show M.length+j - M.length=j by omega]; exact hj))
  refine⟨_,U,kk,U,⟨_,gk (M:=[]) h1⟩,eU (xs:=ksV ks) (fun i σ H'=>∃ (es:List (Addr×Int×Int)) (o1 o2 o3:Option V),es.map (·.2)=aV (ks.take i)/\σ=[some (.ref kk),some (.ref el),o1,o2,o3]/\Has H' ((el,.lst (esV es))::(esK es++L)))
   ⟨[],_,_,_,U,U,h1⟩ (fun i σ H' _ ⟨es,_,_,_,_,_,h⟩=>gk h) ?_ ?_⟩
  ·rintro i x σ H2 p hx ⟨es,o1,o2,o3,hes,rfl,h2⟩ hp
   have hi:i<ks.length:=by
    have:=(List.getElem?_eq_some_iff.mp hx).1
    unfold ksV at this
    rw[v9] at this; exact this
   have ex:x=.str (ks[i]).str:=by
    unfold ksV at hx
    rw[wd,wa hi] at hx
    exact(Option.some.inj hx).symm
   subst ex
   have h3:=h2.alloc hp (.tup [.int i,.str (ks[i]).str])
   refine⟨p,_,U,SqT.of (h3.get 0 U),U,_,_,U,_,_,U,U,?_⟩
   have h4:=h3.tail
   generalize upd H2 p _=H3 at h4 ⊢
   clear h2 h3 hp
   have hm:1<=(ks[i]).many/\(ks[i]).many<=3:=by cases ks[i] <;> decide
   have hti:(ks.take i).length=i:=by rw[wy]; omega
   have hen:(aV (ks.take i)).length<=3000:=Nat.le_trans (kj _) (by omega)
   refine⟨_,U,ks[i],U,_,U,by omega,by omega,bF (fun e σ H'=>∃ (es:List (Addr×Int×Int)) (o3:Option V),es.map (·.2)=aV (ks.take i)++(List.range e).map (fun e:Nat=>((i:Int),(e:Int)))/\σ=[some (.ref kk),some (.ref el),some (.int i),some (.str (ks[i]).str),o3]/\Has H' ((el,.lst (esV es))::(esK es++L)))
    ⟨es,_,by rw[hes]; simp,U,h4⟩ ?_ ?_⟩
   ·clear h4 hes es o3
    rintro e σ H4 he ⟨es,o3,hes,rfl,h4⟩
    have hle:es.length<=3003:=by
     have:=congrArg List.length hes
     rw[v9,wf,v9,List.length_range] at this
     omega
    refine⟨_,U,.inl ⟨U,_,SqL.of (h4.get 0 U)⟩,_,U,_,U,(show 2<=sizeLine by decide),fun b hb=>?_⟩
    have h5:=h4.alloc hb (.tup [.int i,.int (0+e)])
    refine⟨el,_,_,U,U,h5.get 1 U,sizeOk (by unfold esV; rw[v9]; omega),?_⟩
    have h6:=(h5.puti 1 U (.lst (esV es++[.ref b]))).swap2.perm (List.Perm.cons _ (List.perm_append_comm_assoc [_] (esK es) L))
    refine⟨es++[(b,(i:Int),0+(e:Int))],_,?_,U,?_⟩
    ·rw[wg,hes,List.range_succ,wg,wm]
     simp
    ·have e1:esV (es++[(b,(i:Int),0+(e:Int))])=esV es++[.ref b]:=by unfold esV; rw[wg]; rfl
     have e2:esK (es++[(b,(i:Int),0+(e:Int))])++L=esK es++([(b,.tup [.int i,.int (0+e)])]++L):=by unfold esK; rw[wg,wm]; rfl
     rw[e1,e2]
     exact h6
   ·rintro σ H4 ⟨es,o3,hes,rfl,h4⟩
    refine⟨es,_,_,_,?_,U,h4⟩
    rw[hes,List.take_succ,wa hi]
    show _=aV (ks.take i++[ks[i]])
    rw[hG,hti]
  ·rintro σ H2 ⟨es,o1,o2,o3,hes,rfl,h2⟩
   refine⟨_,U,?_⟩
   refine q _ el es ?_ h2
   rw[hes]
   unfold ksV
   rw[v9,List.take_length]
end
theorem eY {es:List (Addr×Int×Int)}{x:Addr×Int×Int} (L:Kn) (h:es[i]?=some x):(esK es++L)[i]?=some (x.1,.tup [.int x.2.1,.int x.2.2]):=by
 have hi:=(List.getElem?_eq_some_iff.mp h).1
 rw[wr (by unfold esK; rw[v9]; exact hi)]
 unfold esK
 rw[wd,h]
 rfl
theorem f8 {es:List (Addr×Int×Int)}{x:Addr×Int×Int} (h:es[i]?=some x):(esV es)[i]?=some (.ref x.1):=by
 unfold esV
 rw[wd,h]
 rfl
theorem dX {α β:Type} (f:α->β):∀ (l:List α) (k:Nat),(l.map f).eraseIdx k=(l.eraseIdx k).map f
 | [],_=>rfl
 | _::_,0=>rfl
 | a::l,k+1=>by
  show f a::(l.map f).eraseIdx k=f a::(l.eraseIdx k).map f
  rw[dX f l k]
theorem cO {α:Type}:∀ (l:List α) (k:Nat) (h:k<l.length),(l[k]::l.eraseIdx k).Perm l
 | [],k,h=>absurd h (Nat.not_lt_zero k)
 | a::l,0,h=>List.Perm.refl _
 | a::l,k+1,h=>(List.Perm.swap _ _ _).trans (List.Perm.cons a (cO l k (by simpa using h)))
theorem ki (ks:List Kd):(aV ks).Nodup:=by
 have H:∀ i,i<=ks.length->(aV (ks.take i)).Nodup:=by
  intro i
  induction i with
  | zero=>intro _; exact List.Pairwise.nil
  | succ i ih=>
   intro hi
   have hlt:i<ks.length:=by omega
   rw[List.take_succ,wa hlt]
   show(aV (ks.take i++[ks[i]])).Nodup
   rw[hG]
   refine List.nodup_append.mpr ⟨ih (by omega),?_,?_⟩
   ·refine List.Pairwise.map _ (fun a b hab hc=>hab ?_) List.nodup_range
    have:=congrArg Prod.snd hc
    exact Int.ofNat.inj this
   ·intro a ha b hb e
    subst e
    obtain⟨x,_,hx⟩:=wv.mp hb
    obtain⟨j,k,e1,e2,_⟩:=bu (n:=a.1) (e:=a.2) ha
    have:a.1=((ks.take i).length:Int):=by rw[<- hx]
    have hj:=(List.getElem?_eq_some_iff.mp e2).1
    rw[wy] at this hj
    omega
 have:=H ks.length (Nat.le_refl _)
 rwa [List.take_length] at this
noncomputable def cI (es:List En) (m:List (List Key×V)) (n e:Int):Option En:=match aq m (kE n e) with | some (.ref b)=>es.find? fun x=>decide (x.1=b) | _=>none
noncomputable def MIn (es:List En) (m:List (List Key×V)):Prop:=∀ k v,aq m k=some v->∃ z ∈ es,v=.ref z.1
variable{m:List (List Key×V)}{es:List En}
theorem jZ (h:MIn es m) (n e:Int):aq m (kE n e)=(cI es m n e).map fun z=>V.ref z.1:=by
 unfold cI
 cases hv:aq m (kE n e) with
 | none=>rfl
 | some v=>
  obtain⟨z,hz,rfl⟩:=h _ _ hv
  dsimp only
  cases hf:es.find? fun x=>decide (x.1=z.1) with
  | none=>exact absurd (List.find?_eq_none.mp hf z hz) (by simp)
  | some x=>have:=List.find?_some hf; rw[Option.map_some,of_decide_eq_true this]
theorem j3 {n e:Int}{z:En} (h:cI es m n e=some z):z ∈ es:=by
 unfold cI at h
 split at h
 ·exact List.mem_of_find?_eq_some h
 ·cases h
theorem MIn.nil (es:List En):MIn es []:=fun k v h=>by cases h
theorem MIn.put (h:MIn es m) {x:En} (hx:x ∈ es) (k:List Key):MIn es (aO m k (.ref x.1)):=fun j v hv=>by
 rw[aN] at hv
 split at hv
 ·exact⟨x,hx,(Option.some.inj hv).symm⟩
 ·exact h j v hv
theorem MIn.mono {es es':List En} (h:MIn es m) (s:∀ x ∈ es,x ∈ es'):MIn es' m:=fun k v hv=>let ⟨z,hz,e⟩:=h k v hv; ⟨z,s z hz,e⟩
noncomputable def wOf (ks:List Kd) (ns rs:List Int) (es:List En) (m:List (List Key×V)):Wd:=⟨fun n=>if 0<=n then ks[n.toNat]? else none,fun n=>ns.getD n.toNat 0,fun n=>rs.getD n.toNat 0,cI es m⟩
theorem lh {ns rs:List Int}{n:Int}{k:Kd} (h:(wOf ks ns rs es m).kf n=some k):∃ i:Nat,n=i/\ks[i]?=some k:=by
 unfold wOf at h
 dsimp only at h
 split at h
 ·exact⟨n.toNat,by omega,h⟩
 ·cases h
theorem iW {ns rs:List Int} (i:Nat):(wOf ks ns rs es m).kf i=ks[i]?:=by
 unfold wOf; dsimp only; rw[if_pos (by omega),Int.toNat_natCast]
theorem nS {ns rs:List Int}{z:En} (h:z.2 ∈ aV ks):(wOf ks ns rs es m).ok z:=by
 obtain⟨i,k,e1,e2,e3,e4⟩:=bu (n:=z.2.1) (e:=z.2.2) h
 exact⟨k,by rw[e1,iW]; exact e2,e3,e4⟩
theorem Rep.of {y y':YR}{ns rs ss ss':List Int}{u:Option En} (B:Blt y ks ns rs ss) (hm:MIn es m) (he:∀ x ∈ es,x.2 ∈ aV ks) (hl:ss'.length=ss.length) (h12:∀ x ∈ ss',x=1∨x=2) (hu:∀ z,u=some z->z.2 ∈ aV ks)
  (e1:y'.kinds=y.kinds) (e2:y'.notes=y.notes) (e3:y'.rods=y.rods) (e4:y'.mates=m) (e5:y'.sides=ss'.map V.int) (e6:y'.eng=enV u) (e7:y'.rung=[]) :
  Rep (wOf ks ns rs es m) ⟨ss',u,[]⟩ y':=by
 refine⟨fun n k h=>?_,fun n k h=>?_,fun n k h=>?_,fun n k h hp=>?_,e5,h12,fun n e=>by rw[e4]; exact jZ hm n e,fun n e z h=>nS (he z (j3 h)),e6,fun z hz=>nS (hu z hz),e7⟩
 all_goals obtain⟨i,rfl,hk⟩:=lh h
 ·rw[e1,B.kd,cX,hk]; rfl
 ·rw[e2,B.no,hk]
  by_cases c:k=.bell
  ·rw[if_pos (by rw[c]),if_pos c]; unfold wOf; dsimp only; rw[Int.toNat_natCast]
  ·rw[if_neg (fun z=>c (Option.some.inj z)),if_neg c]
 ·rw[e3,B.ro,hk]
  by_cases c:k.point=true
  ·rw[if_pos (by simp[c]),if_pos c]; unfold wOf; dsimp only; rw[Int.toNat_natCast]
  ·rw[if_neg (by simp[c]),if_neg c]
 ·have:=B.rr i (by rw[hk]; simp[hp])
  show 0<=rs.getD (i:Int).toNat 0/\rs.getD (i:Int).toNat 0<(ss'.length:Int)
  rw[Int.toNat_natCast,hl]
  exact this
theorem rq {M R:Kn}{z:En} (h:z ∈ es):∃ j:Nat,(M++(esK es++R))[j]?=some (z.1,HO.tup [.int z.2.1,.int z.2.2]):=by
 obtain⟨i,hi⟩:=List.mem_iff_getElem?.mp h
 exact⟨M.length+i,by rw[wn (by omega),show M.length+i - M.length=i by omega]; exact eY R hi⟩
theorem g9 {y:YR}{ns rs ss:List Int} (B:Blt y ks ns rs ss) {y':YR} (e:y'.kinds=y.kinds) {p:Int×Int} (h:p ∈ aV ks):cP y' p.1 p.2:=by
 obtain⟨i,k,e1,e2,e3,e4⟩:=bu (n:=p.1) (e:=p.2) h
 exact⟨k,by rw[e,e1,B.kd,cX,e2]; rfl,e3,e4⟩
theorem oy {n:Nat}{x:Int} (h:0<n):∃ k:Nat,k<n/\x % (n:Int)=k/\seqIndex? (x % (n:Int)) n=some k/\-(2 ^ 63)<=x % (n:Int)/\(n<=1000000->x % (n:Int)<2 ^ 63):=by
 have b0:=Int.emod_nonneg x (show((n:Nat):Int)≠0 by omega)
 have b1:=Int.emod_lt_of_pos x (show(0:Int)<((n:Nat):Int) by omega)
 refine⟨(x % (n:Int)).toNat,by omega,by omega,?_,by omega,fun hn=>by omega⟩
 generalize x % (n:Int)=i at b0 b1
 unfold seqIndex?
 dsimp only
 rw[if_neg (show ¬ i<0 by omega),if_pos (show(decide (0<=i) && decide (i<(n:Int)))=true by rw[decide_eq_true b0,decide_eq_true b1]; rfl)]
noncomputable def Wsym (mf:Int->Int->Option En):Prop:=∀ n e z,mf n e=some z->¬ z.2=(n,e)/\∃ z',mf z.2.1 z.2.2=some z'/\z'.2=(n,e)
noncomputable def qU (mf:Int->Int->Option En) (x z:En) (n e:Int):Option En:=if (n,e)=z.2 then some x else if (n,e)=x.2 then some z else mf n e
noncomputable def mfUn (mf:Int->Int->Option En) (p1 p2:Int×Int) (n e:Int):Option En:=if (n,e)=p1∨(n,e)=p2 then none else mf n e
theorem Wsym.link {mf:Int->Int->Option En} (S:Wsym mf) {x z:En} (hx:mf x.2.1 x.2.2=none) (hz:mf z.2.1 z.2.2=none) (ne:¬ x.2=z.2):Wsym (qU mf x z):=by
 intro n e u h
 unfold qU at h
 by_cases c1:(n,e)=z.2
 ·rw[if_pos c1] at h
  cases h
  refine⟨fun q=>ne (q.trans c1),z,?_,c1.symm⟩
  show(if (x.2.1,x.2.2)=z.2 then some x else if (x.2.1,x.2.2)=x.2 then some z else mf x.2.1 x.2.2)=some z
  rw[if_neg (show ¬ (x.2.1,x.2.2)=z.2 from ne),if_pos rfl]
 ·rw[if_neg c1] at h
  by_cases c2:(n,e)=x.2
  ·rw[if_pos c2] at h
   cases h
   refine⟨fun q=>ne (c2.symm.trans q.symm),x,?_,c2.symm⟩
   show(if (z.2.1,z.2.2)=z.2 then some x else if (z.2.1,z.2.2)=x.2 then some z else mf z.2.1 z.2.2)=some x
   rw[if_pos rfl]
  ·rw[if_neg c2] at h
   obtain⟨a,z',b,c⟩:=S n e u h
   refine⟨a,z',?_,c⟩
   have d1:¬ (u.2.1,u.2.2)=z.2:=fun q=>by
    rw[show u.2.1=z.2.1 from congrArg Prod.fst q,show u.2.2=z.2.2 from congrArg Prod.snd q,hz] at b
    cases b
   have d2:¬ (u.2.1,u.2.2)=x.2:=fun q=>by
    rw[show u.2.1=x.2.1 from congrArg Prod.fst q,show u.2.2=x.2.2 from congrArg Prod.snd q,hx] at b
    cases b
   show(if (u.2.1,u.2.2)=z.2 then some x else if (u.2.1,u.2.2)=x.2 then some z else mf u.2.1 u.2.2)=some z'
   rw[if_neg d1,if_neg d2]
   exact b
theorem eX (eu:∀ x ∈ es,∀ z ∈ es,x.1=z.1->x=z) {x:En} (hx:x ∈ es):(es.find? fun u=>decide (u.1=x.1))=some x:=by
 cases hf:es.find? fun u=>decide (u.1=x.1) with
 | none=>exact absurd (List.find?_eq_none.mp hf x hx) (by simp)
 | some u=>
  have h0:=List.find?_some hf
  have h1:u.1=x.1:=of_decide_eq_true h0
  rw[eu u (List.mem_of_find?_eq_some hf) x hx h1]
theorem mY (eu:∀ x ∈ es,∀ z ∈ es,x.1=z.1->x=z) {x z:En} (hx:x ∈ es) (hz:z ∈ es) :
  cI es (aO (aO m (kE x.2.1 x.2.2) (.ref z.1)) (kE z.2.1 z.2.2) (.ref x.1))=qU (cI es m) x z:=by
 have ke:∀ (n e:Int) (u:En),kE n e=kE u.2.1 u.2.2↔(n,e)=u.2:=fun n e u=>by
  constructor
  ·intro h
   injection h with h1 h2
   injection h2 with h2 _
   injection h1 with h1
   injection h2 with h2
   rw[h1,h2]
  ·intro h
   rw[<- h]
 funext n e
 unfold cI qU
 rw[aN,aN]
 by_cases c1:(n,e)=z.2
 ·rw[if_pos ((ke _ _ _).mpr c1),if_pos c1]
  show(es.find? fun u=>decide (u.1=x.1))=some x
  exact eX eu hx
 ·rw[if_neg (fun h=>c1 ((ke _ _ _).mp h)),if_neg c1]
  by_cases c2:(n,e)=x.2
  ·rw[if_pos ((ke _ _ _).mpr c2),if_pos c2]
   exact eX eu hz
  ·rw[if_neg (fun h=>c2 ((ke _ _ _).mp h)),if_neg c2]
theorem fw {n e:Int} (h:aq m (kE n e)=none):cI es m n e=none:=by unfold cI; rw[h]
theorem fm {κ:Type} [DecidableEq κ] {kvs:List (κ×V)}{k:κ}{v:V}{x:κ} (h:x ∈ (aO kvs k v).map (·.1)):x ∈ kvs.map (·.1)∨x=k:=by
 unfold aO at h
 split at h
 ·left
  rw[wD] at h
  obtain⟨p,hp,e⟩:=wv.mp h
  refine wv.mpr ⟨p,hp,?_⟩
  rw[<- e]
  show p.1=(if p.1=k then(p.1,v) else p).1
  split <;> rfl
 ·rw[wg,wq] at h
  rcases h with h | h
  ·exact .inl h
  ·right; simpa using h
theorem pZ (h:∀ k ∈ m.map (·.1),∃ p ∈ aV ks,k=kE p.1 p.2) {k0:List Key} (h0:∃ p ∈ aV ks,k0=kE p.1 p.2) (v:V):∀ k ∈ (aO m k0 v).map (·.1),∃ p ∈ aV ks,k=kE p.1 p.2:=fun k hk=>by
 rcases fm hk with hk | rfl
 ·exact h k hk
 ·exact h0
inductive sp_Jd1 (C:Addr) (vs:List V) (H:Hp) (Q:VK) (E_:XK):Prop
 | mk (A:YA) (y:YR) (L:Kn) (kk d:Addr) (ks:List Kd) (ns rs ss ds:List Int) (a n:Int) (jk jd:Nat) (_:vs=[.ref A.p,.ref kk,.ref d,.int a,.int n]) (_:Has H (yL C A y++L)) (_:Blt y ks ns rs ss) (_:L[jk]?=some (kk,.lst (ksV ks))) (_:L[jd]?=some (d,.lst (ds.map V.int))) (_:ks.length<=1000) (_:0<=a) (_:0<=n) (_:n<=10000) (_:a+2*n<=ds.length) (_:∀ (H':Hp) (q mh:Addr) (m:List (List Key×V)) (es:List En),MIn es m->Wsym (cI es m)->es.map (·.2)=aV ks->m.length<=2*n.toNat->(∀ k ∈ m.map (·.1),∃ p ∈ aV ks,k=kE p.1 p.2)->Has H' (yL C { A with tr:=q } { y with mates:=m,trail:=[] }++((mh,.dT m)::(esK es++L)))->Q (.ref mh) H'):sp_Jd1 C vs H Q E_
inductive sp_Je1 (C:Addr) (vs:List V) (H:Hp) (Q:VK) (E_:XK):Prop
 | mk (A:YA) (y:YR) (L:Kn) (sd d:Addr) (ss ds:List Int) (a:Int) (jd:Nat) (_:vs=[.ref A.p,.ref sd,.ref d,.int a]) (_:Has H (yL C A y++((sd,.lst (ss.map V.int))::L))) (_:y.sides=ss.map V.int) (_:y.trail=[]) (_:L[jd]?=some (d,.lst (ds.map V.int))) (_:0<=a) (_:a+ss.length<=ds.length) (_:ss.length<=10000) (_:∀ (H':Hp) (q:Addr) (ss':List Int),ss'.length=ss.length->(∀ x ∈ ss',x=1∨x=2)->Has H' (yL C { A with tr:=q } { y with sides:=ss'.map V.int,trail:=[] }++((sd,.lst (ss'.map V.int))::L))->Q .non H'):sp_Je1 C vs H Q E_
noncomputable def om:Sp:=fun vs H Q _=>∃ x:Int,vs=[.int x]/\∀ n:Int,0<=n->n<=40->Q (.int n) H
inductive lnk1Inv (C_:Addr) (A:YA) (y:YR) (kk:Addr) (d:Addr) (fl_:Addr) (mh:Addr) (a:Int) (n:Int) (es:List En) (ks:List Kd) (L:Kn) (i:Nat) (σ':St) (H':Hp):Prop
 | mk (q1:Addr) (m:List (List Key×V)) (fs:List En) (o1 o2 o3:Option V) (_:MIn es m) (_:Wsym (cI es m)) (_:(∀ x ∈ fs,x ∈ es)) (_:(fs.map (·.2)).Nodup) (_:(∀ x ∈ fs,aq m (kE x.2.1 x.2.2)=none)) (_:m.length<=2*i) (_:fs.length<=3000) (_:(∀ k ∈ m.map (·.1),∃ p ∈ aV ks,k=kE p.1 p.2)) (_:σ'=[some (.ref A.p),some (.ref kk),some (.ref d),some (.int a),some (.int n),some (.ref fl_),some (.ref mh),o1,o2,o3]) (_:Has H' (yL C_ { A with tr:=q1 } { y with mates:=m,trail:=[] }++((fl_,.lst (esV fs))::(mh,.dT m)::(esK es++L)))):lnk1Inv C_ A y kk d fl_ mh a n es ks L i σ' H'
inductive lnk2Inv (C_:Addr) (A:YA) (y:YR) (d:Addr) (sd:Addr) (a:Int) (ss:List Int) (L:Kn) (i:Nat) (σ':St) (H':Hp):Prop
 | mk (q1:Addr) (s1:List Int) (o1:Option V) (_:s1.length=ss.length) (_:(∀ j,j<i->∀ x,s1[j]?=some x->x=1∨x=2)) (_:σ'=[some (.ref A.p),some (.ref sd),some (.ref d),some (.int a),o1]) (_:Has H' (yL C_ { A with tr:=q1 } { y with sides:=s1.map V.int,trail:=[] }++((sd,.lst (s1.map V.int))::L))):lnk2Inv C_ A y d sd a ss L i σ' H'
section
variable {P:Program}{w:World}{K:PySem.W.Frag}{mg:Str->Option Value}{base:Heap}{t:Adr}
theorem scLs:FnScope ["_law_draw"] ["_law_draw"] (ah lB):={}
theorem pe (T:Txt K mg t):FnOk P w K mg base CX0 1 t.f_links t.d_links ["_law_draw"] om:=by
 refine T.F_links.ok scLs (fun vs H Q E h=>?_) (fun cdv A outer s H vs Q E hr h=>?_)
 ·obtain⟨_,rfl,_⟩:=h
  rfl
 ·obtain⟨x,rfl,q⟩:=h
  refine⟨_,(ab (av (ai eG (aC bq (pv 0) ag) ag (am _))
    (af (ao ag))
    ak)
   (af (ao (aC bq (aC eJ (pv 0) ag) ag)))),?_⟩
  refine⟨_,U,_,_,U,U,(show(0:Int)<3 by decide),_,_,U,U,_,U,if2 (fun _=>?_) (fun _=>?_)⟩
  ·exact q 40 (by decide) (by decide)
  ·refine⟨_,U,_,_,U,U,⟨by decide,by decide⟩,_,_,U,U,(show(0:Int)<40 by decide),?_⟩
   have l0:=Int.emod_nonneg (x / 3) (show(40:Int)≠0 by decide)
   have l1:=Int.emod_lt_of_pos (x / 3) (show(0:Int)<40 by decide)
   exact q _ (by omega) (by omega)
theorem scLd:FnScope ["_law_yard","_law_kinds_here","_law_d","_law_at","_law_many_here","_law_free","_law_mates","_law_turn","_law_one","_law_other"] ["_law_yard","_law_kinds_here","_law_d","_law_at","_law_many_here"] (ah sk):={}
theorem uf (T:Txt K mg t):FnOk P w K mg base CX0 5 t.f_Jd1 t.d_Jd1 ["_law_yard","_law_kinds_here","_law_d","_law_at","_law_many_here"] (sp_Jd1 t.c_Yard):=by
 refine T.F_Jd1.ok scLd (fun vs H Q E h=>?_) (fun cdv A outer s H vs Q E hr h=>?_)
 ·obtain⟨_,_,_,_,_,_,_,_,_,_,_,_,_,_,rfl,_⟩:=h
  rfl
 ·obtain⟨A,y,L,kk,d,ks,ns,rs,ss,ds,a,n,jk,jd,rfl,hH,B,hjk,hjd,kl,a0,n0,n1,hds,q⟩:=h
  have hu:=cN hr
  refine⟨_,(ab (aB (i:=5) scLd.nd rfl (Or.inl rfl) (pcl (fW T) hr T.m_ends T.F_ends.kp (jB T) (aa (pv 1) ae)))
   (ab (aB (i:=6) scLd.nd rfl (Or.inl rfl) jP)
   (ab (bm PassesOwn.never rfl (bP (by rfl) T.z_range (aa (pv 4) ae)) (aj (i:=7) scLd.nd rfl (Or.inl rfl))
    (af (av (ai eG (aG aA (by rfl) T.z_len (by rfl) (aa (pv 5) ae)) ag (am _))
      (ab (aB (i:=8) scLd.nd rfl (Or.inl rfl) (bi PySem.F.plainAttrs_list PySem.F.slot_list_pop PySem.F.type_list_pop jW (pv 5) (aa (aC bq (aI au (pv 2) (aC bh (pv 3) (aC dj ag (pv 7)))) (aG aA (by rfl) T.z_len (by rfl) (aa (pv 5) ae))) ae)))
       (ab (aB (i:=9) scLd.nd rfl (Or.inl rfl) (bi PySem.F.plainAttrs_list PySem.F.slot_list_pop PySem.F.type_list_pop jW (pv 5) (aa (aC bq (aI au (pv 2) (aC bh (aC bh (pv 3) (aC dj ag (pv 7))) ag)) (aG aA (by rfl) T.z_len (by rfl) (aa (pv 5) ae))) ae)))
       (ab (al (aF (pv 0) T.cl_Yard T.M_Jw (sL T) hr (vX T) .nil aH (aa (pv 8) (aa (pv 9) ae))))
       (ab (dh hu (pv 6) (pv 8) (pv 9) rfl)
       (af (dh hu (pv 6) (pv 9) (pv 8) rfl))))))
      ak)))
   (af (ao (pv 6)))))),?_⟩
  refine⟨_,U,kk,ks,_,jk+9,U,hH,(by simpa [yL] using hjk),kl,fun H1 fl_ es hes h1=>?_⟩
  intro mh hmh
  have h2:Has (upd H1 mh (.dT [])) (yL t.c_Yard A y++((fl_,.lst (esV es))::(mh,.dT [])::(esK es++L))) :=
   Has.comm (X:=(fl_,.lst (esV es))::(mh,.dT [])::esK es) (Y:=yL t.c_Yard A y) (R:=L) (h1.alloc hmh (.dT [])).swap2
  generalize upd H1 mh _=H2 at h2 ⊢
  clear h1 hmh hH
  have emem:∀ x ∈ es,x.2 ∈ aV ks:=fun x hx=>by rw[<- hes]; exact wv.mpr ⟨x,hx,U⟩
  have enod:(es.map (·.2)).Nodup:=by rw[hes]; exact ki ks
  have elen:es.length<=3000:=by have:=congrArg List.length hes; rw[v9] at this; have:=kj ks; omega
  refine⟨_,U,_,U,by omega,by omega,bF (lnk1Inv t.c_Yard A y kk d fl_ mh a n es ks L)
   ⟨A.tr,[],es,_,_,_,MIn.nil es,(fun n e z h=>by cases h),fun _ h=>h,enod,fun _ _=>rfl,Nat.zero_le _,elen,(fun k hk=>(nomatch hk)),rfl,?_⟩ ?_ ?_⟩
  ·have e:({ y with mates:=[],trail:=[] }:YR)=y:=by rw[<- B.mt,<- B.tl]
   rw[e]; exact h2
  ·clear h2
   rintro i σ H2 hi ⟨q1,m,fs,o1,o2,o3,M,WS,fin,fnd,fno,ml,flen,ekm,rfl,h2⟩
   have gd:∀ {H:Hp}{A1:YA}{y1:YR}{f1 m1:HO},Has H (yL t.c_Yard A1 y1++((fl_,f1)::(mh,m1)::(esK es++L)))->SqL K H d (ds.map V.int):=fun {H A1 y1 f1 m1} h=>SqL.of (h.get (es.length+jd+11) (by
    show(esK es++L)[es.length+jd]?=_
    have e:(esK es).length=es.length:=by unfold esK; rw[v9]
    rw[wn (by omega),show es.length+jd - (esK es).length=jd by omega]
    exact hjd))
   have gs:∀ {H:Hp}{A1:YA}{y1:YR}{f1 m1:HO},Has H (yL t.c_Yard A1 y1++((fl_,f1)::(mh,m1)::(esK es++L)))->∀ x ∈ es,H x.1=some (.tup [.int x.2.1,.int x.2.2]):=fun {H A1 y1 f1 m1} h x hx=>by
    obtain⟨j,hj⟩:=List.mem_iff_getElem?.mp hx
    exact h.get (j+11) (eY L hj)
   have evl:∀ l:List En,(esV l).length=l.length:=fun l=>by unfold esV; rw[v9]
   have evx:∀ (l:List En) (k:Nat),(esV l).eraseIdx k=esV (l.eraseIdx k):=fun l k=>by unfold esV; rw[dX]
   refine⟨_,U,fl_,_,U,.inl (SqL.of (h2.get 9 U)),_,_,U,U,_,U,if2 (fun hc=>?_) (fun hc=>?_)⟩
   ·have f2:1<fs.length:=by
     have:=of_decide_eq_true hc
     rw[evl] at this
     omega
    obtain⟨k1,k1l,k1e,k1s,k1a,k1b⟩:=oy (n:=fs.length) (x:=ds.getD (a+2*(0+(i:Int))).toNat 0) (by omega)
    refine⟨_,U,.inl ⟨U,_,SqL.of (h2.get 9 U)⟩,?_⟩
    refine⟨_,U,_,U,_,U,_,_,U,U,(.inl ⟨by decide,by decide⟩),_,_,U,U,d,_,_,_,U,U,gd h2,atD (by omega) (by omega),_,U,fl_,_,U,.inl (SqL.of (h2.get 9 U)),_,_,U,U,(show(0:Int)<((esV fs).length:Int) by rw[evl]; omega),?_⟩
    rw[evl]
    refine⟨fl_,_,_,k1,.ref (fs[k1]).1,U,U,h2.get 9 U,k1a,k1b (by omega),(by rw[evl]; exact k1s),f8 (wa k1l),?_⟩
    rw[evx]
    have h3:=h2.puti 9 U (.lst (esV (fs.eraseIdx k1)))
    generalize upd H2 fl_ _=H3 at h3 ⊢
    have pm1:=cO fs k1 k1l
    have l1:(fs.eraseIdx k1).length=fs.length - 1:=List.length_eraseIdx_of_lt k1l
    generalize hx:fs[k1]=x at *
    have nd1:(x.2::(fs.eraseIdx k1).map (·.2)).Nodup:=(pm1.map (fun x:En=>x.2)).nodup_iff.mpr fnd
    have xin:x ∈ fs:=by rw[<- hx]; exact List.getElem_mem _
    have sub1:∀ z ∈ fs.eraseIdx k1,z ∈ fs:=fun z hz=>List.mem_of_mem_eraseIdx hz
    generalize fs.eraseIdx k1=fs1 at *
    obtain⟨k2,k2l,k2e,k2s,k2a,k2b⟩:=oy (n:=fs1.length) (x:=ds.getD (a+2*(0+(i:Int))+1).toNat 0) (by omega)
    refine⟨_,U,.inl ⟨U,_,SqL.of (h3.get 9 U)⟩,?_⟩
    refine⟨_,U,_,U,_,U,_,_,U,U,(.inl ⟨by decide,by decide⟩),_,_,U,U,_,_,U,U,d,_,_,_,U,U,gd h3,atD (by omega) (by omega),_,U,fl_,_,U,.inl (SqL.of (h3.get 9 U)),_,_,U,U,(show(0:Int)<((esV fs1).length:Int) by rw[evl]; omega),?_⟩
    rw[evl]
    refine⟨fl_,_,_,k2,.ref (fs1[k2]).1,U,U,h3.get 9 U,k2a,k2b (by omega),(by rw[evl]; exact k2s),f8 (wa k2l),?_⟩
    rw[evx]
    have h4:=h3.puti 9 U (.lst (esV (fs1.eraseIdx k2)))
    generalize upd H3 fl_ _=H4 at h4 ⊢
    have pm2:=cO fs1 k2 k2l
    have l2:(fs1.eraseIdx k2).length=fs1.length - 1:=List.length_eraseIdx_of_lt k2l
    generalize hz:fs1[k2]=z at *
    rw[List.nodup_cons] at nd1
    have nd2:(z.2::(fs1.eraseIdx k2).map (·.2)).Nodup:=(pm2.map (fun x:En=>x.2)).nodup_iff.mpr nd1.2
    have zin:z ∈ fs1:=by rw[<- hz]; exact List.getElem_mem _
    have sub2:∀ z ∈ fs1.eraseIdx k2,z ∈ fs1:=fun z hz=>List.mem_of_mem_eraseIdx hz
    generalize fs1.eraseIdx k2=fs2 at *
    rw[List.nodup_cons] at nd2
    have kne:∀ {u v:En},¬ u.2=v.2->¬ kE u.2.1 u.2.2=kE v.2.1 v.2.2:=fun {u v} c e=>c (by
     injection e with e1 e2
     injection e2 with e2 _
     injection e1 with e1
     injection e2 with e2
     exact Prod.ext e1 e2)
    have xe:=fin x xin
    have ze:=fin z (sub1 z zin)
    have xz:¬ x.2=z.2:=fun e=>nd1.1 (by rw[e]; exact wv.mpr ⟨z,zin,U⟩)
    obtain⟨ix,hix⟩:=List.mem_iff_getElem?.mp xe
    obtain⟨iz,hiz⟩:=List.mem_iff_getElem?.mp ze
    refine⟨_,U,A.p,A.dx,_,U,h4.get 1 U,(dW _ _ _).2.2.1,_,U,_,U,{ A with tr:=q1 },_,_,x.1,z.1,x.2.1,x.2.2,z.2.1,z.2.2,ix+2,iz+2,U,h4,eY _ hix,eY _ hiz,g9 B rfl (emem x xe),g9 B rfl (emem z ze),kne xz,fno x xin,fno z (sub1 z zin),(show m.length<=30000 by omega),fun H5 q5 h5=>?_⟩
    refine⟨_,U,_,U,_,U,mh,_,U,DPut.t (k:=kE x.2.1 x.2.2) (h5.get 10 U) (gs h5 x xe) (sizeOk (by omega)),?_⟩
    have h6:=h5.puti 10 U (.dT (aO m (kE x.2.1 x.2.2) (.ref z.1)))
    refine⟨_,U,_,U,_,U,mh,_,U,DPut.t (k:=kE z.2.1 z.2.2) (h6.get 10 U) (gs h6 z ze) (sizeOk (Nat.le_trans (bD _ _ _) (by omega))),?_⟩
    have h7:=h6.puti 10 U (.dT (aO (aO m (kE x.2.1 x.2.2) (.ref z.1)) (kE z.2.1 z.2.2) (.ref x.1)))
    have eu:∀ x ∈ es,∀ z ∈ es,x.1=z.1->x=z:=fun u hu v hv e=>by
     have g1:=gs h5 u hu
     rw[e,gs h5 v hv] at g1
     have g2:=Option.some.inj g1
     injection g2 with g2
     injection g2 with g3 g4
     injection g4 with g4 _
     injection g3 with g3
     injection g4 with g4
     exact Prod.ext e (Prod.ext g3.symm g4.symm)
    refine⟨q5,_,fs2,_,_,_,(M.put ze _).put xe _,(by rw[mY eu xe ze]; exact WS.link (fw (fno x xin)) (fw (fno z (sub1 z zin))) xz),fun u hu=>fin u (sub1 u (sub2 u hu)),nd2.2,fun u hu=>?_,?_,by omega,(pZ (pZ ekm ⟨_,emem x xe,U⟩ _) ⟨_,emem z ze,U⟩ _),U,h7⟩
    ·rw[aN,if_neg (kne (fun e=>nd2.1 (by rw[<- e]; exact wv.mpr ⟨u,hu,U⟩))),aN,if_neg (kne (fun e=>nd1.1 (by rw[<- e]; exact wv.mpr ⟨u,sub2 u hu,U⟩)))]
     exact fno u (sub1 u (sub2 u hu))
    ·have b1:=bD m (kE x.2.1 x.2.2) (.ref z.1)
     have b2:=bD (aO m (kE x.2.1 x.2.2) (.ref z.1)) (kE z.2.1 z.2.2) (.ref x.1)
     omega
   ·exact⟨q1,m,fs,_,_,_,M,WS,fin,fnd,fno,by omega,flen,ekm,U,h2⟩
  ·rintro σ H2 ⟨q1,m,fs,o1,o2,o3,M,WS,fin,fnd,fno,ml,flen,ekm,rfl,h2⟩
   refine⟨_,U,q _ q1 mh m es M WS hes ml ekm ?_⟩
   exact(Has.comm (X:=yL t.c_Yard { A with tr:=q1 } { y with mates:=m,trail:=[] }) (Y:=[(fl_,.lst (esV fs))]) (R:=(mh,.dT m)::(esK es++L)) h2).tail
theorem scTw:FnScope ["_law_yard","_law_sides","_law_d","_law_at","_law_rod"] ["_law_yard","_law_sides","_law_d","_law_at"] (ah sj):={}
theorem ue (T:Txt K mg t):FnOk P w K mg base CX0 5 t.f_Je1 t.d_Je1 ["_law_yard","_law_sides","_law_d","_law_at"] (sp_Je1 t.c_Yard):=by
 refine T.F_Je1.ok scTw (fun vs H Q E h=>?_) (fun cdv A outer s H vs Q E hr h=>?_)
 ·obtain⟨_,_,_,_,_,_,_,_,_,rfl,_⟩:=h
  rfl
 ·obtain⟨A,y,L,sd,d,ss,ds,a,jd,rfl,hH,hsd,htr,hjd,a0,hds,sl,q⟩:=h
  refine⟨_,(af (bm PassesOwn.never rfl (bP (by rfl) T.z_range (aa (aG aA (by rfl) T.z_len (by rfl) (aa (pv 1) ae)) ae)) (aj (i:=4) scTw.nd rfl (Or.inl rfl))
    (ab (bA (aC bh ag (aC bq (aI au (pv 2) (aC bh (pv 3) (pv 4))) ag)) (gB (pv 1) (pv 4) dy))
     (af (al (aF (pv 0) T.cl_Yard T.M_Jm (ok_Jm T) hr (b_Jm T) .nil aH (aa (pv 4) (aa (aI au (pv 1) (pv 4)) ae)))))))),?_⟩
  have gd:∀ {H:Hp}{A1:YA}{y1:YR}{x1:HO},Has H (yL t.c_Yard A1 y1++((sd,x1)::L))->SqL K H d (ds.map V.int):=fun {H A1 y1 x1} h=>SqL.of (h.get (jd+10) (by simpa [yL] using hjd))
  refine⟨_,U,sd,_,U,.inl (SqL.of (hH.get 9 U)),_,U,by omega,by rw[v9]; omega,bF (lnk2Inv t.c_Yard A y d sd a ss L) ⟨A.tr,ss,_,U,fun j hj=>absurd hj (Nat.not_lt_zero _),U,?_⟩ ?_ ?_⟩
  ·have e:({ y with sides:=ss.map V.int,trail:=[] }:YR)=y:=by rw[<- hsd,<- htr]
   rw[e]; exact hH
  ·rintro i σ H1 hi ⟨q1,s1,o1,l1,hs,rfl,h1⟩
   have hi':i<s1.length:=by rw[l1]; rw[v9] at hi; omega
   refine⟨_,U,_,U,_,U,_,_,U,U,d,_,_,_,U,U,gd h1,atD (by omega) (by rw[v9] at hi; omega),_,_,U,U,(show(0:Int)<2 by decide),_,_,U,U,?_⟩
   dsimp only
   have b0:=Int.emod_nonneg (ds.getD (a+(0+(i:Int))).toNat 0) (show(2:Int)≠0 by decide)
   have b1:=Int.emod_lt_of_pos (ds.getD (a+(0+(i:Int))).toNat 0) (show(0:Int)<2 by decide)
   generalize ds.getD (a+(0+(i:Int))).toNat 0 % 2=b at b0 b1 ⊢
   have hz:1+b=1∨1+b=2:=by omega
   have ejx:ixN (s1.map V.int).length (0+(i:Int))=some i:=by unfold ixN; rw[v9,if_pos (by omega),if_pos (by omega)]; congr 1; omega
   refine⟨_,U,_,U,sd,_,_,_,U,U,h1.get 9 U,ejx,?_⟩
   have h2:=h1.puti 9 U (.lst ((s1.map V.int).set i (.int (1+b))))
   have ga:atI ((s1.map V.int).set i (.int (1+b))) (0+(i:Int))=some (.int (1+b)):=by
    rw[show 0+(i:Int)=((i:Nat):Int) by omega]
    exact aK (by rw[List.getElem?_set_self (by rw[v9]; exact hi')])
   refine⟨_,U,A.p,A.dx,_,U,h2.get 1 U,(bC _ _ _).2.2.1,_,U,_,U,_,U,sd,_,_,_,U,U,SqL.of (h2.get 9 U),ga,{ A with tr:=q1 },_,_,0+(i:Int),1+b,U,h2,by omega,(show 0+(i:Int)<((s1.map V.int).length:Int) by rw[v9]; omega),hz,fun H3 q3 h3=>?_⟩
   refine⟨q3,s1.set i (1+b),_,by rw[List.length_set]; exact l1,fun j hj x hx=>?_,U,?_⟩
   ·by_cases c:j=i
    ·subst c
     rw[List.getElem?_set_self hi'] at hx
     cases hx
     exact hz
    ·rw[List.getElem?_set_ne (fun e=>c e.symm)] at hx
     exact hs j (by omega) x hx
   ·rw[List.map_set]
    rw[show(0+(i:Int)).toNat=i by omega] at h3
    exact h3
  ·rintro σ H1 ⟨q1,s1,o1,l1,hs,rfl,h1⟩
   refine q _ q1 s1 l1 (fun x hx=>?_) h1
   obtain⟨j,hj⟩:=List.mem_iff_getElem?.mp hx
   exact hs j (by have:=(List.getElem?_eq_some_iff.mp hj).1; rw[v9]; omega) x hj
end
structure Lw (W:Wd) (ks:List Kd) (ns rs:List Int) (m:List (List Key×V)):Prop where
 kf:∀ n k,W.kf n=some k->∃ i:Nat,n=i/\ks[i]?=some k
 nf:∀ i:Nat,W.nf i=ns.getD i 0
 rf:∀ i:Nat,W.rf i=rs.getD i 0
 nl:ns.length=ks.length
 rl:rs.length=ks.length
 rn:∀ (i:Nat) k,ks[i]?=some k->(k.point=true↔0<=rs.getD i 0)
 mt:∀ n e,aq m (kE n e)=(W.mf n e).map fun z=>V.ref z.1
structure Okw (W:Wd) (s:Sd):Prop where
 rr:∀ n k,W.kf n=some k->k.point=true->0<=W.rf n/\W.rf n<s.ss.length
 s12:∀ x ∈ s.ss,x=1∨x=2
 mo:∀ n e z,W.mf n e=some z->W.ok z
 eo:∀ z,s.at_=some z->W.ok z
variable{W:Wd}
theorem Rep.okw {y:YR} (R:Rep W s y):Okw W s:=⟨R.rr,R.s12,R.mo,R.eo⟩
theorem Okw.s1 (R:Okw w s) {n:Int}{k:Kd} (hk:w.kf n=some k) (hp:k.point=true):w.sv s n=1∨w.sv s n=2:=by
 obtain⟨h0,h1⟩:=R.rr n k hk hp
 refine R.s12 _ ?_
 unfold Wd.sv
 rw[List.getD_eq_getElem?_getD,wa (by omega)]
 exact List.getElem_mem _
theorem Okw.step {z:En}{k:Kd}{z':En}{o:Int} (R:Okw w s) (hz:s.at_=some z) (hk:w.kf z.2.1=some k) (hm:w.mf z.2.1 o=some z'):Okw w (aM w s z k z'):=by
 have hl:(aM w s z k z').ss.length=s.ss.length:=by
  unfold aM; dsimp only; split
  ·exact List.length_set
  ·rfl
 refine⟨fun n k h1 h2=>by rw[hl]; exact R.rr n k h1 h2,fun x hx=>?_,R.mo,fun u hu=>?_⟩
 ·unfold aM at hx
  dsimp only at hx
  split at hx
  ·rename_i hp
   rcases List.mem_or_eq_of_mem_set hx with hx | hx
   ·exact R.s12 x hx
   ·obtain⟨k',h1,h2,h3⟩:=R.eo z hz
    rw[hk] at h1
    cases h1
    rw[hx]
    exact Kd.side12 h2 h3 (R.s1 hk hp)
  ·exact R.s12 x hx
 ·rw[dw] at hu
  cases hu
  exact R.mo _ _ _ hm
theorem fZ {k:Kd} (h:ks[i]?=some k):(ksV ks)[i]?=some (.str k.str):=by unfold ksV; rw[wd,h]; rfl
theorem eS {l:List Int} (h:i<l.length):(l.map V.int)[i]?=some (.int (l.getD i 0)):=by
 rw[wd,wa h]; simp[List.getD,wa h]
inductive walkInv (sd gg kk nn rr mh:Addr) (R:Kn) (W:Wd) (s:Sd) (m:Int) (r:Nat) (σ:St) (H:Hp):Prop
 | mk (i:Nat) (s1:Sd) (o1 o2 o3 o4 o5:Option V) (_:r=m.toNat - i) (_:i<=m.toNat) (_:σ=[some (.ref kk),some (.ref nn),some (.ref rr),some (.ref sd),some (.ref mh),some (.ref gg),some (enV s1.at_),some (.int m),some (.int i),o1,o2,o3,o4,o5]) (_:Has H ((sd,.lst (s1.ss.map V.int))::(gg,.lst (s1.rg.map V.int))::R)) (_:Okw W s1) (_:Pool W s1 R) (_:W.go m.toNat s=W.go (m.toNat - i) s1) (_:(W.hist m.toNat s).length=i+(W.hist (m.toNat - i) s1).length) (_:s1.rg.length<=s.rg.length+i):walkInv sd gg kk nn rr mh R W s m r σ H
inductive sp_walk (vs:List V) (H:Hp) (Q:VK) (E_:XK):Prop
 | mk (sd gg kk nn rr mh:Addr) (R:Kn) (W:Wd) (s:Sd) (m:Int) (ks:List Kd) (ns rs:List Int) (dm:List (List Key×V)) (jk jn jr jm:Nat) (_:vs=[.ref kk,.ref nn,.ref rr,.ref sd,.ref mh,.ref gg,enV s.at_,.int m]) (_:Has H ((sd,.lst (s.ss.map V.int))::(gg,.lst (s.rg.map V.int))::R)) (_:Lw W ks ns rs dm) (_:Okw W s) (_:Pool W s R) (_:R[jk]?=some (kk,.lst (ksV ks))) (_:R[jn]?=some (nn,.lst (ns.map V.int))) (_:R[jr]?=some (rr,.lst (rs.map V.int))) (_:R[jm]?=some (mh,.dT dm)) (_:s.rg.length+m<=900000) (_:∀ H' tp,Has H' ((tp,.tup [enV (W.go m.toNat s).at_,.int (W.hist m.toNat s).length])::(sd,.lst ((W.go m.toNat s).ss.map V.int))::(gg,.lst ((W.go m.toNat s).rg.map V.int))::R)->Okw W (W.go m.toNat s)->Pool W (W.go m.toNat s) R->(W.go m.toNat s).rg.length<=s.rg.length+m.toNat->Q (.ref tp) H'):sp_walk vs H Q E_
section
variable {P:Program}{w:World}{K:PySem.W.Frag}{mg:Str->Option Value}{base:Heap}{t:Adr}
theorem scWk:FnScope ["_law_kinds_here","_law_notes","_law_rods","_law_sides","_law_mates","_law_rung","_law_at","_law_most","_law_done","_law_piece","_law_place","_law_side","_law_out","_law_behind"] ["_law_kinds_here","_law_notes","_law_rods","_law_sides","_law_mates","_law_rung","_law_at","_law_most"] (ah oE):={}
theorem lO (T:Txt K mg t):FnOk P w K mg base CX0 3 t.f_walk t.d_walk ["_law_kinds_here","_law_notes","_law_rods","_law_sides","_law_mates","_law_rung","_law_at","_law_most"] sp_walk:=by
 refine T.F_walk.ok scWk (fun vs H Q E h=>?_) (fun cdv A outer s H vs Q E hr h=>?_)
 ·obtain⟨_,_,_,_,_,_,_,_,_,_,_,_,_,_,_,_,_,_,rfl,_⟩:=h
  rfl
 ·obtain⟨sd,gg,kk,nn,rr,mh,R,W,s0,m,ks,ns,rs,dm,jk,jn,jr,jm,rfl,hH,lw,O,PL,hjk,hjn,hjr,hjm,bd,q⟩:=h
  have hu:=cN hr
  refine⟨_,(ab (aB (i:=8) scWk.nd rfl (Or.inl rfl) ag)
   (ab (gA PassesOwn.never (PW.pt (de (ai eF (pv 8) (pv 7) (am _)) (cG (ai cH (pv 6) aY (am _)))))
    (ab (bA (pv 6) (bB rfl (ap (aj (i:=9) scWk.nd rfl (Or.inl rfl)) (ap (aj (i:=10) scWk.nd rfl (Or.inl rfl)) ba))))
     (ab (aB (i:=11) scWk.nd rfl (Or.inl rfl) ag)
     (ab (av (ai jR (aI au (pv 2) (pv 9)) ag (am _))
      (af (aB (i:=11) scWk.nd rfl (Or.inl rfl) (aI au (pv 3) (aI au (pv 2) (pv 9) (fun _ _=>rfl)))))
      ak)
     (ab (bA (pcl (ug T) hr T.m_Jc1 T.F_Jc1.kp (b_Jc1 T) (aa (aI au (pv 0) (pv 9)) (aa (pv 10) (aa (pv 11) ae)))) (bB rfl (ap (aj (i:=12) scWk.nd rfl (Or.inl rfl)) (ap (aj (i:=13) scWk.nd rfl (Or.inl rfl)) ba))))
     (ab (av (df (kM hu (aR (aa (pv 9) (aa (pv 12) ae))) (pv 4)))
      (af (ao (aR (aa (pv 6) (aa (pv 8) ae)))))
      ak)
     (ab (av (ai jR (aI au (pv 2) (pv 9)) ag (am _))
      (af (bA (pv 13) (gB (pv 3) (aI au (pv 2) (pv 9)) dy)))
      ak)
     (ab (av (ai bj (aI au (pv 0) (pv 9)) az (am _))
      (af (al (bi PySem.F.plainAttrs_list PySem.F.slot_list_append PySem.F.type_list_append aL (pv 5) (aa (aI au (pv 1) (pv 9)) ae))))
      ak)
     (ab (aB (i:=6) scWk.nd rfl (Or.inl rfl) (cm hu (pv 4) (aR (aa (pv 9) (aa (pv 12) ae)))))
     (af (aB (i:=8) scWk.nd rfl (Or.inl rfl) (aC bh (pv 8) ag))))))))))))
   (af (ao (aR (aa (pv 6) (aa (pv 8) ae))))))),?_⟩
  refine⟨walkInv sd gg kk nn rr mh R W s0 m,⟨_,0,s0,_,_,_,_,_,U,Nat.zero_le _,U,hH,O,PL,U,by simp,Nat.le_refl _⟩,?_⟩
  rintro r σ H1 ⟨i,s1,o1,o2,o3,o4,o5,rfl,im,rfl,h1,O1,P1,eg,eh,rg⟩
  have fin:∀ (H2:Hp),Has H2 ((sd,.lst (s1.ss.map V.int))::(gg,.lst (s1.rg.map V.int))::R)->W.go (m.toNat - i) s1=s1->(W.hist (m.toNat - i) s1).length=0->∀ p,H2 p=none->Q (.ref p) (upd H2 p (.tup [enV s1.at_,.int i])):=fun H2 h2 e1 e2 p hp=>by
   rw[e1] at eg
   rw[e2] at eh
   refine q _ p ?_ (by rw[eg]; exact O1) (by rw[eg]; exact P1) (by rw[eg]; omega)
   rw[eg,eh]
   exact h2.alloc hp _
  refine⟨_,U,_,U,_,_,U,U,_,U,if2 (fun hc=>?_) (fun hc=>bz ?_)⟩
  ·have hlt:(i:Int)<m:=of_decide_eq_true hc
   refine⟨_,U,U,_,U,?_⟩
   cases hz:s1.at_ with
   | none=>
    refine bz ?_
    have hn:=(jG (w:=W) hz).1
    rw[hz] at fin
    exact⟨_,U,_,U,(show 2<=sizeLine by decide),fun p hp=>fin _ h1 (cu W hn _) (by rw[bQ W hn]; rfl) p hp⟩
   | some z=>
    obtain⟨zb,zn,ze⟩:=z
    obtain⟨j,hj⟩:=P1.e _ hz
    obtain⟨k,hk,e0,e1⟩:=O1.eo _ hz
    obtain⟨i0,ei,hki⟩:=lw.kf _ _ hk
    dsimp only at ei e0 e1 hj hk
    subst ei
    have il:i0<ks.length:=(List.getElem?_eq_some_iff.mp hki).1
    refine da ⟨fun σ' H'=>∃ r',r'<m.toNat - i/\walkInv sd gg kk nn rr mh R W s0 m r' σ' H',fun _ _ h=>h,?_⟩
    refine⟨_,U,zb,_,U,SqT.of (h1.get (j+2) hj),U,_,_,U,_,_,U,U,?_⟩
    have grr:∀ {H:Hp}{x1 x2:HO},Has H ((sd,x1)::(gg,x2)::R)->SqL K H rr (rs.map V.int):=fun {H x1 x2} h=>SqL.of (h.get (jr+2) hjr)
    have ari:atI (rs.map V.int) (i0:Int)=some (.int (rs.getD i0 0)):=aK (eS (show i0<rs.length by rw[lw.rl]; exact il))
    refine⟨_,U,_,U,rr,_,_,_,U,U,grr h1,ari,_,_,U,U,_,U,if2 (fun hr0=>?_) (fun hr0=>?_)⟩
    ·have r0:0<=rs.getD i0 0:=of_decide_eq_true hr0
     have hp:k.point=true:=(lw.rn i0 k hki).mpr r0
     have rr1:=O1.rr _ _ hk hp
     rw[lw.rf] at rr1
     have esv:W.sv s1 (i0:Int)=s1.ss.getD (rs.getD i0 0).toNat 0:=by unfold Wd.sv; rw[lw.rf]
     have asd:atI (s1.ss.map V.int) (rs.getD i0 0)=some (.int (W.sv s1 (i0:Int))):=by
      rw[show rs.getD i0 0=(((rs.getD i0 0).toNat:Nat):Int) by omega,esv]
      exact aK (by rw[eS (by omega)])
     refine⟨_,U,_,U,_,U,rr,_,_,_,U,U,grr h1,ari,sd,_,_,_,U,U,SqL.of (h1.get 0 U),asd,?_⟩
     refine⟨_,U,_,U,kk,_,_,_,U,U,SqL.of (h1.get (jk+2) hjk),aK (fZ hki),_,U,_,U,k,ze,(W.sv s1 (i0:Int)),U,e0,e1,fun p hp1=>?_⟩
     have eo:k.out ze (W.sv s1 (i0:Int))=k.out ze (W.sv s1 (i0:Int)):=rfl
     have h2:=h1.alloc hp1 (.tup [k.out ze (W.sv s1 (i0:Int)),.int (k.side ze (W.sv s1 (i0:Int)))])
     refine⟨p,_,U,SqT.of (h2.get 0 U),U,_,_,U,_,_,U,U,?_⟩
     replace h2:=h2.tail
     generalize upd H1 p _=H2 at h2 ⊢
     rw[eo]
     refine⟨_,U,_,U,(show 2<=sizeLine by decide),fun b hb=>?_⟩
     have h3:=h2.alloc hb (.tup [.int (i0:Int),k.out ze (W.sv s1 (i0:Int))])
     have hcase:(W.nx s1=none/\mG (upd H2 b (.tup [.int (i0:Int),k.out ze (W.sv s1 (i0:Int))])) mh (.ref b) none)∨∃ (o:Int) (z':En),k.out ze (W.sv s1 (i0:Int))=.int o/\W.mf (i0:Int) o=some z':=by
      by_cases c:k.out ze (W.sv s1 (i0:Int))=.non
      ·refine .inl ⟨(ej hz hk c).1,.inr ⟨_,(i0:Int),b,.inl (h3.get (jm+3) hjm),U,?_,U⟩⟩
       rw[c]; exact bJ
      ·obtain⟨o,ho⟩:=Kd.out_int (k:=k) (fun e=>c (by unfold Kd.out; rw[if_pos e])) ze (W.sv s1 (i0:Int))
       cases hm:W.mf (i0:Int) o with
       | none=>
        refine .inl ⟨(dJ hz hk ho hm).1,.inl ?_⟩
        have:=DGet.t (k:=kE (i0:Int) o) (h3.get (jm+3) hjm) (by rw[ho]; exact bJ)
        rw[lw.mt,hm] at this
        exact this
       | some z'=>exact .inr ⟨o,z',ho,hm⟩
     rcases hcase with ⟨hn,hg⟩ | ⟨o,z',ho,hm⟩
     ·refine⟨_,U,mh,none,U,hg,_,U,da ?_⟩
      rw[hz] at fin
      exact⟨_,U,_,U,(show 2<=sizeLine by decide),fun p hp=>fin _ h3.tail (cu W hn _) (by rw[bQ W hn]; rfl) p hp⟩
     have hn:=jT hz hk ho hm
     have vm:aq dm (kE (i0:Int) o)=some (.ref z'.1):=by rw[lw.mt,hm]; rfl
     rw[ho] at h3 ⊢
     refine⟨_,U,mh,_,U,.inl (DGet.t (k:=kE (i0:Int) o) (h3.get (jm+3) hjm) (h3.get 0 U)),_,U,ifF (by rw[vm]; rfl) ?_⟩
     have h4:=h3.tail
     generalize upd H2 b _=H4 at h4 ⊢
     clear h3 h2 hb
     refine⟨_,U,_,U,rr,_,_,_,U,U,grr h4,ari,_,_,U,U,_,U,ifT hr0 ?_⟩
     have ejx:ixN (s1.ss.map V.int).length (rs.getD i0 0)=some (rs.getD i0 0).toNat:=by unfold ixN; rw[v9,if_pos r0,if_pos (by omega)]
     refine⟨_,U,_,U,_,U,_,U,rr,_,_,_,U,U,grr h4,ari,sd,_,_,_,U,U,h4.get 0 U,ejx,?_⟩
     have h5:=h4.puti 0 U (.lst ((s1.ss.map V.int).set (rs.getD i0 0).toNat (.int (k.side ze (W.sv s1 (i0:Int))))))
     generalize upd H4 sd _=H5 at h5 ⊢
     have es:(aM W s1 (zb,(i0:Int),ze) k z').ss.map V.int=(s1.ss.map V.int).set (rs.getD i0 0).toNat (.int (k.side ze (W.sv s1 (i0:Int)))):=by unfold aM; dsimp only; rw[if_pos hp,List.map_set,lw.rf]
     refine⟨_,U,_,U,kk,_,_,_,U,U,SqL.of (h5.get (jk+2) hjk),aK (fZ hki),U,_,U,?_⟩
     rw[k.isBell]
     refine ifd (fun kb=>?_) (fun kb=>?_)
     ·refine⟨_,U,.inl ⟨U,_,SqL.of (h5.get 1 U)⟩,_,U,_,U,nn,_,_,_,U,U,SqL.of (h5.get (jn+2) hjn),aK (eS (show i0<ns.length by rw[lw.nl]; exact il)),gg,_,_,U,U,h5.get 1 U,sizeOk (by rw[v9]; omega),?_⟩
      have h7:=h5.puti 1 U (.lst (s1.rg.map V.int++[.int (ns.getD i0 0)]))
      have er:(aM W s1 (zb,(i0:Int),ze) k z').rg.map V.int=s1.rg.map V.int++[.int (ns.getD i0 0)]:=by unfold aM; dsimp only; rw[if_pos kb,wg,lw.nf]; rfl
      generalize upd _ gg _=H7 at h7 ⊢
      rw[<- er,<- es] at h7
      refine⟨_,U,_,U,_,U,(show 2<=sizeLine by decide),fun b8 hb8=>?_⟩
      have h8:=h7.alloc hb8 (.tup [.int (i0:Int),.int o])
      refine⟨mh,_,U,(by rw[<- vm]; exact DGet.t (k:=kE (i0:Int) o) (h8.get (jm+3) hjm) (h8.get 0 U)),?_⟩
      refine⟨_,U,_,_,U,U,?_⟩
      have em:m.toNat - i=(m.toNat - (i+1))+1:=by omega
      rw[em,bH W hn] at eg
      rw[em,bg W hn,wl] at eh
      refine⟨m.toNat - (i+1),by omega,i+1,aM W s1 (zb,(i0:Int),ze) k z',_,_,_,_,_,U,by omega,U,h8.tail,O1.step hz hk hm,P1.step hn,eg,by omega,?_⟩
      have:=cv (w:=W) (s:=s1) (z:=(zb,(i0:Int),ze)) (k:=k) (z':=z')
      omega
     ·have er:(aM W s1 (zb,(i0:Int),ze) k z').rg.map V.int=s1.rg.map V.int:=by unfold aM; dsimp only; rw[if_neg kb]
      have h7:=h5
      rw[<- er,<- es] at h7
      refine⟨_,U,_,U,_,U,(show 2<=sizeLine by decide),fun b8 hb8=>?_⟩
      have h8:=h7.alloc hb8 (.tup [.int (i0:Int),.int o])
      refine⟨mh,_,U,(by rw[<- vm]; exact DGet.t (k:=kE (i0:Int) o) (h8.get (jm+3) hjm) (h8.get 0 U)),?_⟩
      refine⟨_,U,_,_,U,U,?_⟩
      have em:m.toNat - i=(m.toNat - (i+1))+1:=by omega
      rw[em,bH W hn] at eg
      rw[em,bg W hn,wl] at eh
      refine⟨m.toNat - (i+1),by omega,i+1,aM W s1 (zb,(i0:Int),ze) k z',_,_,_,_,_,U,by omega,U,h8.tail,O1.step hz hk hm,P1.step hn,eg,by omega,?_⟩
      have:=cv (w:=W) (s:=s1) (z:=(zb,(i0:Int),ze)) (k:=k) (z':=z')
      omega
    ·have r0:¬ 0<=rs.getD i0 0:=of_decide_eq_false hr0
     have hp:¬ k.point=true:=fun h=>r0 ((lw.rn i0 k hki).mp h)
     refine⟨_,U,_,U,kk,_,_,_,U,U,SqL.of (h1.get (jk+2) hjk),aK (fZ hki),_,U,_,U,k,ze,0,U,e0,e1,fun p hp1=>?_⟩
     have eo:k.out ze 0=k.out ze (W.sv s1 (i0:Int)):=Kd.out_np hp _ _ _
     have h2:=h1.alloc hp1 (.tup [k.out ze 0,.int (k.side ze 0)])
     refine⟨p,_,U,SqT.of (h2.get 0 U),U,_,_,U,_,_,U,U,?_⟩
     replace h2:=h2.tail
     generalize upd H1 p _=H2 at h2 ⊢
     rw[eo]
     refine⟨_,U,_,U,(show 2<=sizeLine by decide),fun b hb=>?_⟩
     have h3:=h2.alloc hb (.tup [.int (i0:Int),k.out ze (W.sv s1 (i0:Int))])
     have hcase:(W.nx s1=none/\mG (upd H2 b (.tup [.int (i0:Int),k.out ze (W.sv s1 (i0:Int))])) mh (.ref b) none)∨∃ (o:Int) (z':En),k.out ze (W.sv s1 (i0:Int))=.int o/\W.mf (i0:Int) o=some z':=by
      by_cases c:k.out ze (W.sv s1 (i0:Int))=.non
      ·refine .inl ⟨(ej hz hk c).1,.inr ⟨_,(i0:Int),b,.inl (h3.get (jm+3) hjm),U,?_,U⟩⟩
       rw[c]; exact bJ
      ·obtain⟨o,ho⟩:=Kd.out_int (k:=k) (fun e=>c (by unfold Kd.out; rw[if_pos e])) ze (W.sv s1 (i0:Int))
       cases hm:W.mf (i0:Int) o with
       | none=>
        refine .inl ⟨(dJ hz hk ho hm).1,.inl ?_⟩
        have:=DGet.t (k:=kE (i0:Int) o) (h3.get (jm+3) hjm) (by rw[ho]; exact bJ)
        rw[lw.mt,hm] at this
        exact this
       | some z'=>exact .inr ⟨o,z',ho,hm⟩
     rcases hcase with ⟨hn,hg⟩ | ⟨o,z',ho,hm⟩
     ·refine⟨_,U,mh,none,U,hg,_,U,da ?_⟩
      rw[hz] at fin
      exact⟨_,U,_,U,(show 2<=sizeLine by decide),fun p hp=>fin _ h3.tail (cu W hn _) (by rw[bQ W hn]; rfl) p hp⟩
     have hn:=jT hz hk ho hm
     have vm:aq dm (kE (i0:Int) o)=some (.ref z'.1):=by rw[lw.mt,hm]; rfl
     rw[ho] at h3 ⊢
     refine⟨_,U,mh,_,U,.inl (DGet.t (k:=kE (i0:Int) o) (h3.get (jm+3) hjm) (h3.get 0 U)),_,U,ifF (by rw[vm]; rfl) ?_⟩
     have h4:=h3.tail
     generalize upd H2 b _=H4 at h4 ⊢
     clear h3 h2 hb
     refine⟨_,U,_,U,rr,_,_,_,U,U,grr h4,ari,_,_,U,U,_,U,ifF hr0 ?_⟩
     have es:(aM W s1 (zb,(i0:Int),ze) k z').ss.map V.int=s1.ss.map V.int:=by unfold aM; dsimp only; rw[if_neg hp]
     refine⟨_,U,_,U,kk,_,_,_,U,U,SqL.of (h4.get (jk+2) hjk),aK (fZ hki),U,_,U,?_⟩
     rw[k.isBell]
     refine ifd (fun kb=>?_) (fun kb=>?_)
     ·refine⟨_,U,.inl ⟨U,_,SqL.of (h4.get 1 U)⟩,_,U,_,U,nn,_,_,_,U,U,SqL.of (h4.get (jn+2) hjn),aK (eS (show i0<ns.length by rw[lw.nl]; exact il)),gg,_,_,U,U,h4.get 1 U,sizeOk (by rw[v9]; omega),?_⟩
      have h7:=h4.puti 1 U (.lst (s1.rg.map V.int++[.int (ns.getD i0 0)]))
      have er:(aM W s1 (zb,(i0:Int),ze) k z').rg.map V.int=s1.rg.map V.int++[.int (ns.getD i0 0)]:=by unfold aM; dsimp only; rw[if_pos kb,wg,lw.nf]; rfl
      generalize upd _ gg _=H7 at h7 ⊢
      rw[<- er,<- es] at h7
      refine⟨_,U,_,U,_,U,(show 2<=sizeLine by decide),fun b8 hb8=>?_⟩
      have h8:=h7.alloc hb8 (.tup [.int (i0:Int),.int o])
      refine⟨mh,_,U,(by rw[<- vm]; exact DGet.t (k:=kE (i0:Int) o) (h8.get (jm+3) hjm) (h8.get 0 U)),?_⟩
      refine⟨_,U,_,_,U,U,?_⟩
      have em:m.toNat - i=(m.toNat - (i+1))+1:=by omega
      rw[em,bH W hn] at eg
      rw[em,bg W hn,wl] at eh
      refine⟨m.toNat - (i+1),by omega,i+1,aM W s1 (zb,(i0:Int),ze) k z',_,_,_,_,_,U,by omega,U,h8.tail,O1.step hz hk hm,P1.step hn,eg,by omega,?_⟩
      have:=cv (w:=W) (s:=s1) (z:=(zb,(i0:Int),ze)) (k:=k) (z':=z')
      omega
     ·have er:(aM W s1 (zb,(i0:Int),ze) k z').rg.map V.int=s1.rg.map V.int:=by unfold aM; dsimp only; rw[if_neg kb]
      have h7:=h4
      rw[<- er,<- es] at h7
      refine⟨_,U,_,U,_,U,(show 2<=sizeLine by decide),fun b8 hb8=>?_⟩
      have h8:=h7.alloc hb8 (.tup [.int (i0:Int),.int o])
      refine⟨mh,_,U,(by rw[<- vm]; exact DGet.t (k:=kE (i0:Int) o) (h8.get (jm+3) hjm) (h8.get 0 U)),?_⟩
      refine⟨_,U,_,_,U,U,?_⟩
      have em:m.toNat - i=(m.toNat - (i+1))+1:=by omega
      rw[em,bH W hn] at eg
      rw[em,bg W hn,wl] at eh
      refine⟨m.toNat - (i+1),by omega,i+1,aM W s1 (zb,(i0:Int),ze) k z',_,_,_,_,_,U,by omega,U,h8.tail,O1.step hz hk hm,P1.step hn,eg,by omega,?_⟩
      have:=cv (w:=W) (s:=s1) (z:=(zb,(i0:Int),ze)) (k:=k) (z':=z')
      omega
  ·have hge:¬ (i:Int)<m:=of_decide_eq_false hc
   have ez:m.toNat - i=0:=by omega
   rw[ez] at fin
   exact⟨_,U,_,U,(show 2<=sizeLine by decide),fun p hp=>fin _ h1 rfl rfl p hp⟩
end
theorem Blt.lw {y:YR}{ns rs ss:List Int} (B:Blt y ks ns rs ss) (M:MIn es m):Lw (wOf ks ns rs es m) ks ns rs m:=by
 refine⟨fun n k h=>lh h,fun i=>by unfold wOf; dsimp only; rw[Int.toNat_natCast],fun i=>by unfold wOf; dsimp only; rw[Int.toNat_natCast],B.nl,B.rl,fun i k hk=>⟨fun hp=>?_,fun h0=>?_⟩,fun n e=>jZ M n e⟩
 ·exact(B.rr i (by rw[hk]; simp[hp])).1
 ·cases hp:k.point with
  | true=>rfl
  | false=>have:=B.rn i (by rw[hk]; simp[hp]); omega
theorem rp (a b:List En) (L:Kn):esK (a++b)++L=esK a++(esK b++L):=by unfold esK; rw[wg,wm]
theorem nA {ks:List Kd} (h:0<ks.length):0<(aV ks).length:=by
 obtain⟨k,ks',rfl⟩:∃ k ks',ks=k::ks':=by cases ks with | nil=>simp at h | cons a b=>exact⟨a,b,rfl⟩
 unfold aV
 rw[List.zipIdx_cons,List.flatMap_cons,wf,v9,List.length_range]
 have:1<=k.many.toNat:=by cases k <;> decide
 show 0<k.many.toNat+_
 omega
theorem Has.dropL {H:Hp}:∀ (X:Kn) {L:Kn},Has H (X++L)->Has H L
 | [],_,h=>h
 | _::X,_,h=>Has.dropL X (Has.tail h)
theorem sU {H:Hp}{X:Kn} (h:Has H X) (mem:∀ x ∈ es,(x.1,HO.tup [.int x.2.1,.int x.2.2]) ∈ X):∀ x ∈ es,∀ z ∈ es,x.1=z.1->x=z:=fun u hu v hv e=>by
 have g1:=h.at_ _ (mem u hu)
 have g0:=h.at_ _ (mem v hv)
 dsimp only at g1 g0
 rw[e,g0] at g1
 have g2:=Option.some.inj g1
 injection g2 with g2
 injection g2 with g3 g4
 injection g4 with g4 _
 injection g3 with g3
 injection g4 with g4
 exact Prod.ext e (Prod.ext g3.symm g4.symm)
theorem qT {es es':List En} (eu:∀ x ∈ es',∀ z ∈ es',x.1=z.1->x=z) (M:MIn es m) (sub:∀ x ∈ es,x ∈ es'):cI es' m=cI es m:=by
 funext n e
 unfold cI
 cases hv:aq m (kE n e) with
 | none=>rfl
 | some v=>
  obtain⟨z,hz,rfl⟩:=M _ _ hv
  show(es'.find? fun x=>decide (x.1=z.1))=(es.find? fun x=>decide (x.1=z.1))
  rw[eX eu (sub z hz),eX (fun x hx z hz=>eu x (sub x hx) z (sub z hz)) hz]
structure SetOk (y:YR) (ks:List Kd) (ns rs ss:List Int) (es:List En) (m:List (List Key×V)) (z:En):Prop where
 R:Rep (wOf ks ns rs es m) ⟨ss,some z,[]⟩ y
 lw:Lw (wOf ks ns rs es m) ks ns rs m
 zi:z ∈ es
 ei:∀ x ∈ es,x.2 ∈ aV ks
 mi:MIn es m
 nx:y.next=ks.length
 kd:y.kinds=dS ks
 mt:y.mates=m
 tl:y.trail=[]
 rg:y.rung=[]
 k1:1<=ks.length
 k24:ks.length<=24
 sl:ss.length<=24
 ml:m.length<=80
 nr:∀ x ∈ ns,0<=x/\x<=9999
 nlen:y.notes.length<=24
 rlen:y.rods.length<=24
 fr:∀ i:Nat,ks.length<=i->aq y.notes (Sum.inl (i:Int))=none/\aq y.rods (Sum.inl (i:Int))=none
 mks:∀ k ∈ m.map (·.1),∃ p ∈ aV ks,k=kE p.1 p.2
 sy:Wsym (cI es m)
 eu:∀ x ∈ es,∀ z ∈ es,x.1=z.1->x=z
inductive sp_set (C:Addr) (vs:List V) (H:Hp) (Q:VK) (E_:XK):Prop
 | mk (d:Addr) (ds:List Int) (a:Int) (L:Kn) (j:Nat) (_:vs=[.ref d,.int a]) (_:Has H L) (_:L[j]?=some (d,.lst (ds.map V.int))) (_:0<=a) (_:a+184<=ds.length) (_:∀ (H':Hp) (tp:Addr) (A:YA) (y:YR) (ks:List Kd) (ns rs ss:List Int) (es:List En) (m:List (List Key×V)) (z:En) (sd mh rr nn kk:Addr),SetOk y ks ns rs ss es m z->Has H' ((tp,.tup [.ref A.p,.ref kk,.ref nn,.ref rr,.ref sd,.ref mh,.ref z.1])::(yL C A y++((sd,.lst (ss.map V.int))::(mh,.dT m)::(rr,.lst (rs.map V.int))::(nn,.lst (ns.map V.int))::(kk,.lst (ksV ks))::(esK es++L))))->Q (.ref tp) H'):sp_set C vs H Q E_
section
variable {P:Program}{w:World}{K:PySem.W.Frag}{mg:Str->Option Value}{base:Heap}{t:Adr}
theorem scSe:FnScope ["_law_d","_law_at","_law_yard","_law_kinds_here","_law_notes","_law_rods","_law_sides","_law_mates","_law_start"] ["_law_d","_law_at"] (ah r9):={}
theorem uc (T:Txt K mg t):FnOk P w K mg base CX0 6 t.f_set t.d_set ["_law_d","_law_at"] (sp_set t.c_Yard):=by
 refine T.F_set.ok scSe (fun vs H Q E h=>?_) (fun cdv A outer s H vs Q E hr h=>?_)
 ·obtain⟨_,_,_,_,_,rfl,_⟩:=h
  rfl
 ·obtain⟨d,ds,a,L,j,rfl,hH,hj,a0,hds,q⟩:=h
  refine⟨_,(ab (bA (pcl (pj T) hr T.m_built T.F_built.kp (rJ T) (aa (pv 0) (aa (aC bh (pv 1) ag) (aa (pcl (qM T) hr T.m_size T.F_size.kp (uQ T) (aa (aI au (pv 0) (pv 1)) ae)) ae)))) (bB rfl (ap (aj (i:=2) scSe.nd rfl (Or.inl rfl)) (ap (aj (i:=3) scSe.nd rfl (Or.inl rfl)) (ap (aj (i:=4) scSe.nd rfl (Or.inl rfl)) (ap (aj (i:=5) scSe.nd rfl (Or.inl rfl)) (ap (aj (i:=6) scSe.nd rfl (Or.inl rfl)) ba)))))))
   (ab (aB (i:=7) scSe.nd rfl (Or.inl rfl) (pcl (uf T) hr T.m_Jd1 T.F_Jd1.kp (b_Jd1 T) (aa (pv 2) (aa (pv 3) (aa (pv 0) (aa (aC bh (pv 1) ag) (aa (pcl (pe T) hr T.m_links T.F_links.kp (rE T) (aa (aI au (pv 0) (aC bh (pv 1) ag)) ae)) ae)))))))
   (ab (al (pcl (ue T) hr T.m_Je1 T.F_Je1.kp (b_Je1 T) (aa (pv 2) (aa (pv 6) (aa (pv 0) (aa (aC bh (pv 1) ag) ae))))))
   (ab (aB (i:=8) scSe.nd rfl (Or.inl rfl) (aI au (pcl (fW T) hr T.m_ends T.F_ends.kp (jB T) (aa (pv 3) ae)) (aC bq (aI au (pv 0) (aC bh (pv 1) ag) (fun _ _=>rfl)) (aG aA (by rfl) T.z_len (by rfl) (aa (pcl (fW T) hr T.m_ends T.F_ends.kp (jB T) (aa (pv 3) ae)) ae)))))
   (ab (al (aF (pv 2) T.cl_Yard T.M_J91 (pE T) hr (sY T) .nil aH (aa (pv 8) ae)))
   (af (ao (aR (aa (pv 2) (aa (pv 3) (aa (pv 4) (aa (pv 5) (aa (pv 6) (aa (pv 7) (aa (pv 8) ae))))))))))))))),?_⟩
  have gd:SqL K H d (ds.map V.int):=SqL.of (hH.get j hj)
  refine⟨_,U,_,U,_,_,U,U,_,U,_,U,d,_,_,_,U,U,gd,atD (by omega) (by omega),_,U,fun n n1 n24=>?_⟩
  refine⟨d,ds,a+3,n,L,j,U,hH,hj,by omega,by omega,by omega,by omega,fun H2 A1 y ks ns rs ss tp sd rr nn kk B lk h2=>?_⟩
  refine⟨tp,_,U,SqT.of (h2.get 0 U),U,_,_,U,_,_,U,_,_,U,_,_,U,_,_,U,U,?_⟩
  have h3:=h2.tail
  clear h2 hH gd
  have gd:∀ {H:Hp}{M:Kn},Has H (M++L)->SqL K H d (ds.map V.int):=fun {H M} h=>SqL.of (h.get (M.length+j) (by rw[wn (by omega),show M.length+j - M.length=j by omega]; exact hj))
  refine⟨_,U,_,U,_,U,_,U,_,_,U,U,_,U,_,U,_,_,U,U,d,_,_,_,U,U,gd (M:=_++_) (by rw[wm]; exact h3),atD (by omega) (by omega),_,U,fun n2 m0 m40=>?_⟩
  refine⟨A1,y,_,kk,d,ks,ns,rs,ss,ds,a+78,n2,3,j+4,U,h3,B,U,(by simpa using hj),by omega,by omega,by omega,by omega,by omega,fun H4 q4 mh m es M WS hes ml ekm h4=>?_⟩
  clear h3
  have h5:=h4.perm (List.Perm.append_left _ ((List.Perm.cons (mh,HO.dT m) (List.perm_append_comm_assoc (esK es) [(sd,HO.lst (ss.map V.int)),(rr,.lst (rs.map V.int)),(nn,.lst (ns.map V.int)),(kk,.lst (ksV ks))] L)).trans (List.Perm.swap _ _ _)))
  clear h4
  have jL:∀ (X:Kn) (es:List En),(X++(esK es++L))[X.length+es.length+j]?=some (d,.lst (ds.map V.int)):=fun X es=>by
   have e:(esK es).length=es.length:=by unfold esK; rw[v9]
   rw[wn (by omega),wn (by omega),show X.length+es.length+j - X.length - (esK es).length=j by omega]
   exact hj
  have emem:∀ x ∈ es,x.2 ∈ aV ks:=fun x hx=>by rw[<- hes]; exact wv.mpr ⟨x,hx,U⟩
  have ssl:=B.sl
  refine⟨_,U,_,U,_,U,_,U,_,_,U,U,{ A1 with tr:=q4 },_,_,sd,d,ss,ds,a+160,_,U,h5,B.sd,U,jL [(mh,HO.dT m),(rr,.lst (rs.map V.int)),(nn,.lst (ns.map V.int)),(kk,.lst (ksV ks))] es,by omega,by omega,by omega,fun H6 q6 ss' hl h12 h6=>?_⟩
  clear h5
  refine⟨_,U,kk,ks,_,13,U,h6,U,by omega,fun H7 el es2 hes2 h7=>?_⟩
  have g7:SqL K H7 d (ds.map V.int):=SqL.of (h7.get (es2.length+(5+es.length+j)+10) (by
   have e:(esK es2).length=es2.length:=by unfold esK; rw[v9]
   show(esK es2++(yL t.c_Yard _ _++_))[es2.length+(5+es.length+j)+9]?=_
   rw[wn (by omega),show es2.length+(5+es.length+j)+9 - (esK es2).length=(5+es.length+j)+9 by omega]
   exact jL [(sd,HO.lst (ss'.map V.int)),(mh,HO.dT m),(rr,.lst (rs.map V.int)),(nn,.lst (ns.map V.int)),(kk,.lst (ksV ks))] es))
  refine⟨_,U,_,U,_,_,U,U,d,_,_,_,U,U,g7,atD (by omega) (by omega),?_⟩
  refine⟨_,U,kk,ks,_,es2.length+14,U,h7,(by
   have e:(esK es2).length=es2.length:=by unfold esK; rw[v9]
   show(esK es2++(yL t.c_Yard _ _++_))[es2.length+13]?=_
   rw[wn (by omega),show es2.length+13 - (esK es2).length=13 by omega]
   rfl),by omega,fun H8 el3 es3 hes3 h8=>?_⟩
  have e2:es2.length=(aV ks).length:=by have:=congrArg List.length hes2; rw[v9] at this; exact this
  have e3:(esV es3).length=es2.length:=by have:=congrArg List.length hes3; rw[v9] at this; unfold esV; rw[v9]; omega
  have ep:=nA (ks:=ks) (by omega)
  refine⟨el3,_,U,.inl (SqL.of (h8.get 0 U)),_,_,U,U,(show(0:Int)<((esV es3).length:Int) by omega),?_⟩
  rw[e3]
  replace h8:=Has.dropL (esK es3) h8.tail
  obtain⟨i,il,ie,_⟩:=oy (n:=es2.length) (x:=ds.getD (a+2).toNat 0) (by omega)
  refine⟨el,_,_,_,U,U,SqL.of (h8.get 0 U),(by rw[ie]; exact aK (f8 (wa il))),?_⟩
  have zi:es2[i] ∈ es2:=List.getElem_mem il
  generalize es2[i]=z at zi ⊢
  have h9:=(h8.tail).perm ((List.perm_append_comm_assoc (esK es2) (yL t.c_Yard _ _) _).trans (List.Perm.append_left _ (List.perm_append_comm_assoc (esK es2) [(sd,HO.lst (ss'.map V.int)),(mh,HO.dT m),(rr,.lst (rs.map V.int)),(nn,.lst (ns.map V.int)),(kk,.lst (ksV ks))] (esK es++L))))
  rw[<- rp] at h9
  clear h8 h7 h6 g7
  have zin:z.2 ∈ aV ks:=by rw[<- hes2]; exact wv.mpr ⟨z,zi,U⟩
  have zi':z ∈ es2++es:=wA _ zi
  obtain⟨jz,hjz⟩:=rq (M:=[(sd,HO.lst (ss'.map V.int)),(mh,HO.dT m),(rr,.lst (rs.map V.int)),(nn,.lst (ns.map V.int)),(kk,.lst (ksV ks))]) (R:=L) zi'
  refine⟨_,U,A1.p,A1.dx,_,U,h9.get 1 U,(bT _ _ _).1,_,U,{ A1 with tr:=q6 },_,_,z.1,z.2.1,z.2.2,jz,U,h9,hjz,g9 B rfl zin,fun H10 q10 h10=>?_⟩
  refine⟨_,U,_,U,_,U,_,U,_,U,_,U,_,U,(show 7<=sizeLine by decide),fun tp htp=>?_⟩
  have emem':∀ x ∈ es2++es,x.2 ∈ aV ks:=fun x hx=>by
   rcases wq.mp hx with h | h
   ·rw[<- hes2]; exact wv.mpr ⟨x,h,U⟩
   ·exact emem x h
  have eu':∀ x ∈ es2++es,∀ z ∈ es2++es,x.1=z.1->x=z:=sU h10 fun x hx=>by
   have:(x.1,HO.tup [.int x.2.1,.int x.2.2]) ∈ esK (es2++es):=wv.mpr ⟨x,hx,U⟩
   simp[this]
  have M':MIn (es2++es) m:=M.mono (fun x hx=>wb _ hx)
  refine q _ tp { A1 with tr:=q10 } _ ks ns rs ss' (es2++es) m z sd mh rr nn kk ?_ (h10.alloc htp _)
  have nl:=B.nlen
  have rl:=B.rlen
  refine⟨Rep.of B M' emem' hl h12 (fun u hu=>by cases hu; exact zin) rfl rfl rfl rfl rfl rfl B.rg,B.lw M',zi',emem',M',B.nx,B.kd,U,U,B.rg,by omega,by omega,by omega,by omega,B.nr,by show y.notes.length<=24; omega,by show y.rods.length<=24; omega,fun i hi=>⟨by show aq y.notes _=none; rw[B.no,List.getElem?_eq_none hi,if_neg (fun e=>nomatch e)],by show aq y.rods _=none; rw[B.ro,List.getElem?_eq_none hi,if_neg (fun e=>nomatch e)]⟩,ekm,(by rw[qT eu' M (fun x hx=>wb _ hx)]; exact WS),eu'⟩
end
theorem ic {α:Type}:∀ (L:List α) (i:Nat) (hi:i<L.length),L.Perm (L[i]::L.eraseIdx i)
 | x::L,0,_=>List.Perm.refl _
 | x::L,i+1,hi=>by
  have:=ic L i (by simpa using hi)
  simp only[List.getElem_cons_succ,List.eraseIdx_cons_succ]
  exact(this.cons x).trans (List.Perm.swap _ _ _)
theorem uO {H:Hp} (h:Has H L) (i:Nat) {x:Addr×HO} (e:L[i]?=some x):Has H (x::L.eraseIdx i):=by
 obtain⟨hi,rfl⟩:=List.getElem?_eq_some_iff.mp e
 exact h.perm (ic L i hi)
theorem sz {n:Nat} (h:n<=1000000):n<=sizeLine:=Nat.le_of_lt (sizeOk h)
theorem sz_ (n:Nat) (h:n<=1000000:=by decide):n<=sizeLine:=sz h
noncomputable def lnT (y:Str) (ns:List Int):Str:=Txt.join " " (y::ns.map nT)
noncomputable def dU (ns:List Int):Prop:=ns.length<=1000/\∀ n ∈ ns,0<=n/\n<10 ^ 10
inductive sp_wl (K:PySem.W.Frag) (vs:List V) (H:Hp) (Q:VK) (E_:XK):Prop
 | mk (y:Str) (a:Addr) (b:Bool) (ns:List Int) (L:Kn) (_:vs=[.str y,.ref a]) (_:Has H L) (_:((b=true/\(a,HO.lst (ns.map V.int)) ∈ L)∨(b=false/\(a,HO.tup (ns.map V.int)) ∈ L))) (_:y.length<=100) (_:dU ns) (_:∀ H',Has H' L->Q (.str (lnT y ns)) H'):sp_wl K vs H Q E_
inductive sp_plain (vs:List V) (H:Hp) (Q:VK) (E_:XK):Prop
 | mk (n:Nat) (_:vs=[.str (nT (n:Int))]) (_:n<10 ^ 10) (_:Q (.bl true) H):sp_plain vs H Q E_
inductive sp_rnum (vs:List V) (H:Hp) (Q:VK) (E_:XK):Prop
 | mk (n:Int) (_:vs=[.str (nT n)]) (_:0<=n) (_:n<10 ^ 10) (_:Q (.int n) H):sp_rnum vs H Q E_
theorem uI:∀ c:Nat,48<=c->c<=57->(!(!(Builtin.Str.occurrences ("0123456789" : Str) ⟨#[c]⟩ 0 ("0123456789" : Str).length 1).isEmpty))=false:=by
 intro c h1 h2
 have:c=48∨c=49∨c=50∨c=51∨c=52∨c=53∨c=54∨c=55∨c=56∨c=57:=by omega
 rcases this with rfl | rfl | rfl | rfl | rfl | rfl | rfl | rfl | rfl | rfl <;> decide +kernel
theorem pI {n:Int} (h0:0<=n) (h1:n<10 ^ 10):n.natAbs.log2<1920:=by
 exact ot (Nat.lt_of_le_of_lt (show n.natAbs<=10 ^ 10 by omega) (by decide))
noncomputable def ij (c:Nat) (y:Str):Prop:=c ∉ y.cps.toList
theorem lX {n:Int} (h0:0<=n) {c:Nat} (hc:c<48):ij c (nT n):=by
 obtain⟨m,rfl⟩:=Int.eq_ofNat_of_zero_le h0
 intro h
 have:=iI m c h
 omega
variable{ns:List Int}
theorem m7 {y:Str} (hy:ij 32 y) (hn:dU ns):Txt.split (lnT y ns) " " = y::ns.map nT:=by
 show Txt.split (Builtin.Str.glued " " (y::ns.map nT)) _=_
 rw[StrLaws.glued_eq_join]
 refine gu (c:=32) (by simp) (fun x hx=>?_)
 rcases wt.mp hx with rfl | hx
 ·exact hy
 ·obtain⟨n,hn',rfl⟩:=wv.mp hx
  exact lX (hn.2 n hn').1 (by decide)
theorem ji {sep:Str}{ys:List Str}{M:Nat} (h:∀ y ∈ ys,y.length<=M):(Txt.join sep ys).length<=ys.length*(M+sep.length):=by
 show(Builtin.Str.glued sep ys).length<=_
 rw[StrLaws.glued_eq_join]
 refine Nat.le_trans (StrLaws.join_length_le sep ys) ?_
 have:(ys.map (·.length)).sum<=ys.length*M:=by
  induction ys with
  | nil=>simp
  | cons a r ih=>
   rw[wu,List.sum_cons,wl,Nat.succ_mul]
   have:=h a we
   have:=ih fun y hy=>h y (wc _ hy)
   omega
 rw[Nat.mul_add]
 omega
theorem j5 {y:Str} (hy:y.length<=100) (hn:dU ns):∀ x ∈ y::ns.map nT,x.length<=100:=fun x hx=>by
 rcases wt.mp hx with rfl | hx
 ·exact hy
 ·obtain⟨n,hn',rfl⟩:=wv.mp hx
  exact Nat.le_trans (jc (hn.2 n hn').1 (hn.2 n hn').2) (by decide)
theorem qX {y:Str} (hy:y.length<=100) (hn:dU ns):(lnT y ns).length<=1000000:=by
 refine Nat.le_trans (ji (j5 hy hn)) ?_
 have:=hn.1
 rw[wl,v9,show(Str.ofString " ").length=1 from rfl]
 omega
inductive sp_rl (vs:List V) (H:Hp) (Q:VK) (E_:XK):Prop
 | mk (y:Str) (ns:List Int) (L:Kn) (_:vs=[.str (lnT y ns)]) (_:Has H L) (_:ij 32 y) (_:y.length<=100) (_:dU ns) (_:∀ H' p l,Has H' ((p,.tup [.str y,.ref l])::(l,.lst (ns.map V.int))::L)->Q (.ref p) H'):sp_rl vs H Q E_
section
variable {P:Program}{w:World}{K:PySem.W.Frag}{mg:Str->Option Value}{base:Heap}{t:Adr}
theorem scxWl:FnScope ["word","numbers"] ["word","numbers"] (ah tN):={}
theorem fE (T:Txt K mg t):FnOk P w K mg base CX0 1 t.f_Jj t.d_Jj ["word","numbers"] (sp_wl K):=by
 refine T.F_Jj.ok scxWl (fun vs H Q E h=>?_) (fun cdv A outer s H vs Q E hr h=>?_)
 ·obtain⟨_,_,_,_,_,rfl,_⟩:=h
  rfl
 ·obtain⟨y,a,b,ns,L,rfl,hH,ha,hy,hns,q⟩:=h
  have sq:∀ {H':Hp}{X:Kn},Has H' (X++L)->SqB b K H' a (ns.map V.int):=fun h=>by
   rcases ha with ⟨rfl,m⟩ | ⟨rfl,m⟩
   ·exact SqL.of (h.at_ _ (wb _ m))
   ·exact SqT.of (h.at_ _ (wb _ m))
  refine⟨_,(af (ao (bi PySem.F.plainAttrs_str PySem.F.slot_str_join PySem.F.type_str_join fX az (aa (aC fV (a9 (aa (pv 0) ae)) (jN (esc:=ah tN) (k:=1) ["number","word","numbers"] rfl (tW (pv 1)) (fun _ _ _ _ _=>by exact(aj (i:=0) (show List.Nodup (["number","word","numbers"]:List Str) from by decide +kernel) rfl (Or.inl rfl))) (fun _ _ _ _ _=>by exact dL) (fun _ _ _ _ _=>by exact(bb fc (by rfl) T.z_str (by rfl) (aa (pv 0) ae))) rfl (by decide +kernel) (by decide +kernel) rfl (by decide +kernel) (by rfl) (fun _ _ h _=>h) (by decide +kernel))) ae)))),?_⟩
  refine⟨U,_,U,(sz_ 1),fun l1 hl1=>?_⟩
  have h1:=hH.alloc hl1 (.lst [.str y])
  refine⟨_,U,a,b,U,⟨_,sq (X:=[_]) h1⟩,fun D hD=>?_⟩
  refine⟨fun n m zs H'=>m=ns.length - n/\n<=ns.length/\zs=(ns.take n).map (fun x=>V.str (nT x))/\Has H' ((D,.lst zs)::(l1,.lst [.str y])::L),⟨_,U,Nat.zero_le _,U,h1.alloc hD _⟩,?_⟩
  rintro n m zs H2 ⟨rfl,hn,ez,h2⟩
  refine⟨h2.get 0 U,?_⟩
  have g0:=sq (X:=[_,_]) h2
  have lz:zs.length<=1000:=by rw[ez,v9,wy]; have:=hns.1; omega
  by_cases hlt:n<ns.length
  ·have hx0:(ns.map V.int)[n]?=some (.int ns[n]):=by rw[wd,wa hlt]; rfl
   refine .inr ⟨ItB.go g0 hx0,?_⟩
   intro x H3 hy3
   obtain⟨rfl,hx⟩:=ItB.yld hy3 g0
   rw[hx0] at hx
   cases hx
   have nb:=hns.2 ns[n] (List.getElem_mem hlt)
   refine⟨U,fj ?_⟩
   refine⟨_,U,_,U,pI nb.1 nb.2,?_⟩
   refine⟨sizeOk (by omega),h2.get 0 U,ns.length - (n+1),by omega,U,hlt,?_,h2.puti 0 U _⟩
   rw[ez,List.take_succ,wa hlt,wg]
   rfl
  ·refine .inl ⟨ItB.stop g0 (by rw[v9]; omega),?_⟩
   have en:n=ns.length:=by omega
   rw[en,List.take_length] at ez
   refine⟨l1,D,_,_,U,U,SqL.of (h2.get 1 U),SqL.of (h2.get 0 U),Nat.le_trans (show [V.str y].length+zs.length<=1001 by simp; omega) ((sz_ 1001)),fun l hl=>?_⟩
   have h3:=h2.alloc hl (.lst ([.str y]++zs))
   have e3:[V.str y]++zs=(y::ns.map nT).map V.str:=by rw[ez]; simp
   rw[e3] at h3 ⊢
   refine⟨_,l,y::ns.map nT,U,U,SqL.of (h3.get 0 U),kT (M:=100) (fun x hx=>?_) ?_,q _ h3.tail.tail.tail⟩
   ·rcases wt.mp hx with rfl | hx
    ·exact hy
    ·obtain⟨n,hn,rfl⟩:=wv.mp hx
     exact Nat.le_trans (jc (hns.2 n hn).1 (hns.2 n hn).2) (by decide)
   ·have:=hns.1
    rw[wl,v9,show(Str.ofString " ").length=1 from rfl]
    exact Nat.le_trans (show(ns.length+1)*(100+1)<=1000000 by omega) (sz (Nat.le_refl _))
theorem scxIp:FnScope ["word","sign"] ["word"] (ah sD):={}
theorem uj (T:Txt K mg t):FnOk P w K mg base CX0 1 t.f_J51 t.d_J51 ["word"] sp_plain:=by
 refine T.F_J51.ok scxIp (fun vs H Q E h=>?_) (fun cdv A outer s H vs Q E hr h=>?_)
 ·obtain⟨_,rfl,_⟩:=h
  rfl
 ·obtain⟨n,rfl,hn,q⟩:=h
  refine⟨_,(ab (bm PassesOwn.never rfl (tV (pv 0)) (aj (i:=1) scxIp.nd rfl (Or.inl rfl))
    (af (av (ai i8 (pv 1) (bX (by rfl) T.g_FIGURES T.r_FIGURES) (by rfl))
      (af (ao cT))
      ak)))
   (af (ao (pe_or (cq bj (pv 0) az (am _)) (ft (gF (cq dB (pv 0) az (am _)) (ft (cq dB (aI uD (pv 0) ag) az (am _))))))))),?_⟩
  obtain⟨z,ez⟩:∃ z,nT (n:Int)=z:=⟨_,U⟩
  have hd:=iI n
  have hne:=nT_ne n
  have hhd:=@qQ n
  have hz0:n=0->z = "0":=fun e=>by rw[<- ez,e]; rfl
  rw[ez] at hd hne hhd ⊢
  have asc:z.cps.all (· < 128)=true:=by
   rw[<- Array.all_toList,List.all_eq_true]
   intro c hc
   have:=hd c hc
   exact decide_eq_true (by omega)
  refine⟨_,U,z,U,asc,rj (fun i σ H'=>∃ o:Option V,σ=[some (.str z),o]/\H'=H) ⟨_,U,U⟩ ?_ ?_⟩
  ·rintro i c σ H' hc ⟨o,rfl,rfl⟩
   have hm:c ∈ z.cps.toList:=wj (by rw[Array.getElem?_toList]; exact hc)
   have:=hd c hm
   exact⟨_,U,_,_,U,U,_,U,ifF (uI c this.1 this.2) ⟨_,U,U⟩⟩
  ·rintro σ H' ⟨o,rfl,rfl⟩
   have decS:∀ x y:Str,decide (V.str x=V.str y)=decide (x=y):=fun x y=>by by_cases h:x=y <;> simp[h]
   refine⟨_,U,U,_,U,?_⟩
   rw[decS]
   refine ifd (fun e0=>?_) (fun e0=>?_)
   ·exact q
   refine⟨_,U,U,_,U,?_⟩
   rw[decS]
   have e1:z ≠ "":=fun e=>hne (by rw[e]; rfl)
   refine ifT (by rw[decide_eq_false e1]; rfl) ?_
   obtain⟨c,hc⟩:∃ c,z.cps.toList[0]?=some c:=⟨_,wa (List.length_pos_iff.mpr hne)⟩
   have c48:c≠48:=fun e=>e0 (hz0 (hhd hc e))
   have lz:z.length<=sizeLine:=by
    rw[<- ez]
    exact Nat.le_trans (jc (by omega) (by omega)) ((sz_ 10))
   refine⟨_,U,z,0,c,U,U,lz,aK (j:=0) hc,U,?_⟩
   rw[decS,decide_eq_false (fun e=>c48 (by injection e with e; injection e with e; injection e))]
   exact q
theorem scxRn:FnScope ["word"] ["word"] (ah vJ):={}
theorem ok_Ja (T:Txt K mg t):FnOk P w K mg base CX0 2 t.f_Ja t.d_Ja ["word"] sp_rnum:=by
 refine T.F_Ja.ok scxRn (fun vs H Q E h=>?_) (fun cdv A outer s H vs Q E hr h=>?_)
 ·obtain⟨_,rfl,_⟩:=h
  rfl
 ·obtain⟨n,rfl,h0,h1,q⟩:=h
  refine⟨_,(ab (av (bG (bp (pcl (uj T) hr T.m_J51 T.F_J51.kp (b_J51 T) (aa (pv 0) ae))))
    (af aX)
    ak)
   (af (ao (bb jA (by rfl) T.z_int (by rfl) (aa (pv 0) ae))))),?_⟩
  obtain⟨m,rfl⟩:=Int.eq_ofNat_of_zero_le h0
  refine⟨_,U,m,U,by omega,_,U,bz ?_⟩
  exact⟨_,U,(m:Int),U,h0,h1,q⟩
theorem scxRl:FnScope ["line","words"] ["line"] (ah tL):={}
theorem ok_Jt (T:Txt K mg t):FnOk P w K mg base CX0 3 t.f_Jt t.d_Jt ["line"] sp_rl:=by
 refine T.F_Jt.ok scxRl (fun vs H Q E h=>?_) (fun cdv A outer s H vs Q E hr h=>?_)
 ·obtain⟨_,_,_,rfl,_⟩:=h
  rfl
 ·obtain⟨y,ns,L,rfl,hH,fy,hy,hns,q⟩:=h
  refine⟨_,(ab (aB (i:=1) scxRl.nd rfl (Or.inl rfl) (bi PySem.F.plainAttrs_str PySem.F.slot_str_split PySem.F.type_str_split jV (pv 0) (aa az ae)))
   (af (ao (aR (aa (aI au (pv 1) ag) (aa (jN (esc:=ah tL) (k:=1) ["word","line","words"] rfl (bW (cZ fS (pv 1) (dM ag) dN)) (fun _ _ _ _ _=>by exact(aj (i:=0) (show List.Nodup (["word","line","words"]:List Str) from by decide +kernel) rfl (Or.inl rfl))) (fun _ _ _ _ _=>by exact dL) (fun _ _ _ _ _=>by exact(pcl (ok_Ja T) hr T.m_Ja T.F_Ja.kp (b_Ja T) (aa (pv 0) ae))) rfl (by decide +kernel) (by decide +kernel) rfl (by decide +kernel) (by rfl) (fun _ _ h _=>h) (by decide +kernel)) ae)))))),?_⟩
  have es:=m7 fy hns
  refine⟨_,U,U,lnT y ns,_,U,U,U,Nat.le_trans (qX hy hns) (sz (Nat.le_refl _)),?_,fun l hl=>?_⟩
  ·rw[es,wl,v9]
   have:=hns.1
   exact sz (by omega)
  rw[es]
  have h1:=hH.alloc hl (.lst ((y::ns.map nT).map V.str))
  refine⟨_,U,l,_,_,_,U,U,SqL.of (h1.get 0 U),aK (j:=0) rfl,?_⟩
  refine⟨_,U,_,U,l,_,U,SqL.of (h1.get 0 U),fun l2 hl2=>?_⟩
  have ecut:cQ ((y::ns.map nT).map V.str) (some 1) none=ns.map fun n=>V.str (nT n):=by
   simp only[cQ,HT.sIx,wu,wl,v9]
   simp
   rw[List.take_of_length_le (by simp)]
   rfl
  rw[ecut]
  have h2:=h1.alloc hl2 (.lst (ns.map fun n=>V.str (nT n)))
  refine⟨l2,U,⟨_,SqL.of (h2.get 0 U)⟩,fun D hD=>?_⟩
  refine⟨fun n m zs H'=>m=ns.length - n/\n<=ns.length/\zs=(ns.take n).map V.int/\Has H' ((D,.lst zs)::(l2,.lst (ns.map fun n=>V.str (nT n)))::(l,.lst ((y::ns.map nT).map V.str))::L),⟨_,U,Nat.zero_le _,U,h2.alloc hD _⟩,?_⟩
  rintro n m zs H3 ⟨rfl,hn,ez,h3⟩
  refine⟨h3.get 0 U,?_⟩
  have lz:zs.length<=1000:=by rw[ez,v9,wy]; have:=hns.1; omega
  by_cases hlt:n<ns.length
  ·have hx0:(ns.map fun n=>V.str (nT n))[n]?=some (.str (nT ns[n])):=by rw[wd,wa hlt]; rfl
   refine .inr ⟨⟨_,_,SqL.of (h3.get 1 U),hx0⟩,?_⟩
   rintro x H4 ⟨rfl,hx⟩
   have e1:=hx _ (SqL.of (h3.get 1 U))
   rw[hx0] at e1
   cases e1
   have nb:=hns.2 ns[n] (List.getElem_mem hlt)
   refine⟨U,fj ?_⟩
   refine⟨_,U,ns[n],U,nb.1,nb.2,?_⟩
   refine⟨sizeOk (by omega),h3.get 0 U,ns.length - (n+1),by omega,U,hlt,?_,h3.puti 0 U _⟩
   rw[ez,List.take_succ,wa hlt,wg]
   rfl
  ·refine .inl ⟨⟨_,SqL.of (h3.get 1 U),by rw[v9]; omega⟩,?_⟩
   have en:n=ns.length:=by omega
   rw[en,List.take_length] at ez
   subst ez
   refine⟨(sz_ 2),fun p hp=>?_⟩
   have h4:=h3.alloc hp (.tup [.str y,.ref D])
   exact q _ p D (h4.sub (by
    refine .cons_cons _ (.cons_cons _ ?_)
    exact .cons _ (.cons _ (List.Sublist.refl _))))
end
inductive sp_lift (C:Addr) (vs:List V) (H:Hp) (Q:VK) (E_:XK):Prop
 | mk (A:YA) (y:YR) (L:Kn) (n:Int) (k:Kd) (_:vs=[.ref A.p,.int n]) (_:Has H (yL C A y++L)) (_:aq y.kinds (Sum.inl n)=some (.str k.str)) (_:(∀ e:Int,0<=e->e<k.many->aq y.mates (kE n e)=none)) (_:(y.eng=.non∨∃ (b:Addr) (n1 e1:Int),y.eng=.ref b/\(b,HO.tup [.int n1,.int e1]) ∈ L/\n1≠n)) (_:∀ H' q,Has H' (yL C { A with tr:=q } { y with kinds:=aD y.kinds (Sum.inl n),notes:=aD y.notes (Sum.inl n),rods:=aD y.rods (Sum.inl n),trail:=[] }++L)->Q .non H'):sp_lift C vs H Q E_
theorem fl_m6 (A:YA) (next:Int) (eng:V):(fl A next eng).lookup ("lift" : Str)=none:=by kernel_rfl
theorem bO {κ:Type} [DecidableEq κ] {kvs:List (κ×V)}{k:κ} (h:aq kvs k=none):aD kvs k=kvs:=by
 induction kvs with
 | nil=>rfl
 | cons p r ih=>
  by_cases e:p.1=k
  ·rw[bt e] at h; cases h
  ·rw[bo e] at h
   rw[nC e,ih h]
section
variable {P:Program}{w:World}{K:PySem.W.Frag}{mg:Str->Option Value}{base:Heap}{t:Adr}
theorem scLf:FnScope ["self","piece","end"] ["self","piece"] (ah vo):={}
theorem ok_Jv (T:Txt K mg t):FnOk P w K mg base CX0 2 t.f_Jv t.d_Jv ["self","piece"] (sp_lift t.c_Yard):=by
 refine T.F_Jv.ok scLf (fun vs H Q E h=>?_) (fun cdv A outer s H vs Q E hr h=>?_)
 ·obtain⟨_,_,_,_,_,rfl,_⟩:=h
  rfl
 ·obtain⟨A,y,L,n,k,rfl,hH,hk,hm,en,q⟩:=h
  have hu:=cN hr
  refine⟨_,(ab (al (aF (pv 0) T.cl_Yard T.M_J0 (jS T) hr (qh T) .nil aH (aa (pv 1) ae)))
   (ab (bm PassesOwn.never rfl (bP (by rfl) T.z_range (aa (pcl (kO T) hr T.m_Jb1 T.F_Jb1.kp (qg T) (aa (cm hu (aJ (pv 0) rfl) (pv 1)) ae)) ae)) (aj (i:=2) scLf.nd rfl (Or.inl rfl))
    (af (av (df (gG hu (aR (aa (pv 1) (aa (pv 2) ae))) (aJ (pv 0) rfl)))
      (af aX)
      ak)))
   (ab (av (PW.pt (de (ai cH (aJ (pv 0) rfl) aY (am _)) (cG (ai bj (aI cE (aJ (pv 0) rfl) ag) (pv 1) (am _)))))
    (af aX)
    ak)
   (ab (qI (aJ (pv 0) rfl) (pv 1))
   (ab (al (jO (aJ (pv 0) rfl) (pv 1) aY ⟨U,U,U,U⟩))
   (ab (al (jO (aJ (pv 0) rfl) (pv 1) aY ⟨U,U,U,U⟩))
   (af (al (aT (pv 0) T.cl_Yard T.M_J3 (gI T) hr (k6 T) .nil aH))))))))),?_⟩
  refine⟨_,U,A.p,A.dx,_,U,hH.get 1 U,(bC _ _ _).2.2.2.2.2.2.2.1,_,U,A,y,L,n,_,U,hH,hk,?_⟩
  have km:1<=k.many/\k.many<=3:=by cases k <;> decide
  refine⟨_,U,A.p,_,A.dx,_,_,U,hH.get 1 U,T.cl_Yard,T.n_Yard_kinds,cB _ _ _,_,U,A.k,_,U,(by rw[<- hk]; exact DGet.k (k:=Sum.inl n) (hH.get 3 U)),k,U,k.many,U,by omega,by omega,bF (fun i σ H'=>∃ o1:Option V,σ=[some (.ref A.p),some (.int n),o1]/\Has H' (yL t.c_Yard A y++L)) ⟨_,U,hH⟩ ?_ ?_⟩
  ·rintro i σ H1 hi ⟨o1,rfl,h1⟩
   refine⟨_,U,_,U,(show 2<=sizeLine by decide),fun b hb=>?_⟩
   have h2:=h1.alloc hb (.tup [.int n,.int (0+(i:Int))])
   refine⟨_,U,A.p,_,A.dx,_,_,U,h2.get 2 U,T.cl_Yard,T.n_Yard_mates,db _ _ _,A.m,_,U,DGet.t (k:=kE n (0+(i:Int))) (h2.get 8 U) (h2.get 0 U),_,U,ifF (by rw[hm _ (by omega) (by omega)]; rfl) ?_⟩
   exact⟨_,U,h2.tail⟩
  ·rintro σ H1 ⟨o1,rfl,h1⟩
   rcases en with en | ⟨eb,n1,e1,en,eL,ne⟩
   ·refine⟨_,U,A.p,_,A.dx,_,_,U,h1.get 1 U,T.cl_Yard,T.n_Jc_end,fC _ _ _,U,_,U,ifF (by rw[en]; rfl) (bz ?_)⟩
    refine⟨_,U,A.p,_,A.dx,_,_,U,h1.get 1 U,T.cl_Yard,T.n_Yard_kinds,cB _ _ _,_,U,A.k,_,Sum.inl n,U,h1.get 3 U,U,by rw[hk]; rfl,?_⟩
    have h2:Has _ (yL t.c_Yard A { y with kinds:=aD y.kinds (Sum.inl n) }++L):=h1.puti 3 U (.dK (aD y.kinds (Sum.inl n)))
    generalize upd H1 A.k _=H2 at h2 ⊢
    refine⟨_,U,A.p,_,A.dx,_,_,U,h2.get 1 U,T.cl_Yard,T.n_Yard_notes,bN _ _ _,A.n,U,.inl ⟨_,.inl (h2.get 4 U)⟩,_,U,_,Sum.inl n,h2.get 4 U,U,fun v hv=>?_,fun hv=>?_⟩
    ·have h3:Has _ (yL t.c_Yard A { y with kinds:=aD y.kinds (Sum.inl n),notes:=aD y.notes (Sum.inl n) }++L):=h2.puti 4 U (.dK (aD y.notes (Sum.inl n)))
     refine⟨_,U,A.p,_,A.dx,_,_,U,h3.get 1 U,T.cl_Yard,T.n_J01_under,b5 _ _ _,A.r,U,.inl ⟨_,.inl (h3.get 5 U)⟩,_,U,_,Sum.inl n,h3.get 5 U,U,fun v hv=>?_,fun hv=>?_⟩
     ·have h4:Has _ (yL t.c_Yard A { y with kinds:=aD y.kinds (Sum.inl n),notes:=aD y.notes (Sum.inl n),rods:=aD y.rods (Sum.inl n) }++L):=h3.puti 5 U (.dK (aD y.rods (Sum.inl n)))
      exact⟨_,U,A.p,A.dx,_,U,h4.get 1 U,(bC _ _ _).2.2.2.2.2.2.1,A,_,L,U,h4,fun H' a h5=>q H' a h5⟩
     ·have h4':∀ H,Has H (yL t.c_Yard A { y with kinds:=aD y.kinds (Sum.inl n),notes:=aD y.notes (Sum.inl n) }++L)->Has H (yL t.c_Yard A { y with kinds:=aD y.kinds (Sum.inl n),notes:=aD y.notes (Sum.inl n),rods:=aD y.rods (Sum.inl n) }++L):=fun H h=>by rw[bO (kvs:=y.rods) hv]; exact h
      have h4:=h4' _ h3
      exact⟨_,U,A.p,A.dx,_,U,h4.get 1 U,(bC _ _ _).2.2.2.2.2.2.1,A,_,L,U,h4,fun H' a h5=>q H' a h5⟩
    ·have h3:Has H2 (yL t.c_Yard A { y with kinds:=aD y.kinds (Sum.inl n),notes:=aD y.notes (Sum.inl n) }++L):=by rw[bO (kvs:=y.notes) hv]; exact h2
     refine⟨_,U,A.p,_,A.dx,_,_,U,h3.get 1 U,T.cl_Yard,T.n_J01_under,b5 _ _ _,A.r,U,.inl ⟨_,.inl (h3.get 5 U)⟩,_,U,_,Sum.inl n,h3.get 5 U,U,fun v hv=>?_,fun hv=>?_⟩
     ·have h4:Has _ (yL t.c_Yard A { y with kinds:=aD y.kinds (Sum.inl n),notes:=aD y.notes (Sum.inl n),rods:=aD y.rods (Sum.inl n) }++L):=h3.puti 5 U (.dK (aD y.rods (Sum.inl n)))
      exact⟨_,U,A.p,A.dx,_,U,h4.get 1 U,(bC _ _ _).2.2.2.2.2.2.1,A,_,L,U,h4,fun H' a h5=>q H' a h5⟩
     ·have h4':∀ H,Has H (yL t.c_Yard A { y with kinds:=aD y.kinds (Sum.inl n),notes:=aD y.notes (Sum.inl n) }++L)->Has H (yL t.c_Yard A { y with kinds:=aD y.kinds (Sum.inl n),notes:=aD y.notes (Sum.inl n),rods:=aD y.rods (Sum.inl n) }++L):=fun H h=>by rw[bO (kvs:=y.rods) hv]; exact h
      have h4:=h4' _ h3
      exact⟨_,U,A.p,A.dx,_,U,h4.get 1 U,(bC _ _ _).2.2.2.2.2.2.1,A,_,L,U,h4,fun H' a h5=>q H' a h5⟩
   ·refine⟨_,U,A.p,_,A.dx,_,_,U,h1.get 1 U,T.cl_Yard,T.n_Jc_end,fC _ _ _,U,_,U,ifT (by rw[en]; rfl) ?_⟩
    have gb:H1 eb=some (.tup [.int n1,.int e1]):=h1.at_ _ (wb _ eL)
    refine⟨_,U,A.p,_,A.dx,_,_,U,h1.get 1 U,T.cl_Yard,T.n_Jc_end,fC _ _ _,eb,_,_,_,en,U,SqT.of gb,U,_,U,U,_,U,ifF (decide_eq_false (fun e=>ne (by injection e))) ?_⟩
    refine⟨_,U,A.p,_,A.dx,_,_,U,h1.get 1 U,T.cl_Yard,T.n_Yard_kinds,cB _ _ _,_,U,A.k,_,Sum.inl n,U,h1.get 3 U,U,by rw[hk]; rfl,?_⟩
    have h2:Has _ (yL t.c_Yard A { y with kinds:=aD y.kinds (Sum.inl n) }++L):=h1.puti 3 U (.dK (aD y.kinds (Sum.inl n)))
    generalize upd H1 A.k _=H2 at h2 ⊢
    refine⟨_,U,A.p,_,A.dx,_,_,U,h2.get 1 U,T.cl_Yard,T.n_Yard_notes,bN _ _ _,A.n,U,.inl ⟨_,.inl (h2.get 4 U)⟩,_,U,_,Sum.inl n,h2.get 4 U,U,fun v hv=>?_,fun hv=>?_⟩
    ·have h3:Has _ (yL t.c_Yard A { y with kinds:=aD y.kinds (Sum.inl n),notes:=aD y.notes (Sum.inl n) }++L):=h2.puti 4 U (.dK (aD y.notes (Sum.inl n)))
     refine⟨_,U,A.p,_,A.dx,_,_,U,h3.get 1 U,T.cl_Yard,T.n_J01_under,b5 _ _ _,A.r,U,.inl ⟨_,.inl (h3.get 5 U)⟩,_,U,_,Sum.inl n,h3.get 5 U,U,fun v hv=>?_,fun hv=>?_⟩
     ·have h4:Has _ (yL t.c_Yard A { y with kinds:=aD y.kinds (Sum.inl n),notes:=aD y.notes (Sum.inl n),rods:=aD y.rods (Sum.inl n) }++L):=h3.puti 5 U (.dK (aD y.rods (Sum.inl n)))
      exact⟨_,U,A.p,A.dx,_,U,h4.get 1 U,(bC _ _ _).2.2.2.2.2.2.1,A,_,L,U,h4,fun H' a h5=>q H' a h5⟩
     ·have h4':∀ H,Has H (yL t.c_Yard A { y with kinds:=aD y.kinds (Sum.inl n),notes:=aD y.notes (Sum.inl n) }++L)->Has H (yL t.c_Yard A { y with kinds:=aD y.kinds (Sum.inl n),notes:=aD y.notes (Sum.inl n),rods:=aD y.rods (Sum.inl n) }++L):=fun H h=>by rw[bO (kvs:=y.rods) hv]; exact h
      have h4:=h4' _ h3
      exact⟨_,U,A.p,A.dx,_,U,h4.get 1 U,(bC _ _ _).2.2.2.2.2.2.1,A,_,L,U,h4,fun H' a h5=>q H' a h5⟩
    ·have h3:Has H2 (yL t.c_Yard A { y with kinds:=aD y.kinds (Sum.inl n),notes:=aD y.notes (Sum.inl n) }++L):=by rw[bO (kvs:=y.notes) hv]; exact h2
     refine⟨_,U,A.p,_,A.dx,_,_,U,h3.get 1 U,T.cl_Yard,T.n_J01_under,b5 _ _ _,A.r,U,.inl ⟨_,.inl (h3.get 5 U)⟩,_,U,_,Sum.inl n,h3.get 5 U,U,fun v hv=>?_,fun hv=>?_⟩
     ·have h4:Has _ (yL t.c_Yard A { y with kinds:=aD y.kinds (Sum.inl n),notes:=aD y.notes (Sum.inl n),rods:=aD y.rods (Sum.inl n) }++L):=h3.puti 5 U (.dK (aD y.rods (Sum.inl n)))
      exact⟨_,U,A.p,A.dx,_,U,h4.get 1 U,(bC _ _ _).2.2.2.2.2.2.1,A,_,L,U,h4,fun H' a h5=>q H' a h5⟩
     ·have h4':∀ H,Has H (yL t.c_Yard A { y with kinds:=aD y.kinds (Sum.inl n),notes:=aD y.notes (Sum.inl n) }++L)->Has H (yL t.c_Yard A { y with kinds:=aD y.kinds (Sum.inl n),notes:=aD y.notes (Sum.inl n),rods:=aD y.rods (Sum.inl n) }++L):=fun H h=>by rw[bO (kvs:=y.rods) hv]; exact h
      have h4:=h4' _ h3
      exact⟨_,U,A.p,A.dx,_,U,h4.get 1 U,(bC _ _ _).2.2.2.2.2.2.1,A,_,L,U,h4,fun H' a h5=>q H' a h5⟩
end
noncomputable def iw (KS:List (Int×Kd)):List (Key×V):=KS.map fun p=>((Sum.inl p.1:Key),V.str p.2.str)
theorem iL (KS:List (Int×Kd)):(iw KS).map (fun kv=>kV kv.1)=(KS.map (·.1)).map V.int:=by
 unfold iw; rw[wD,wD]; rfl
theorem pS (n:Nat):dq n=((List.range n).map fun i:Nat=>(i:Int)).map V.int:=by
 unfold dq; rw[wD]; rfl
noncomputable def cz (W:Wd) (n:Int) (e:Nat):List (List Int):=match W.mf n e with
 | some z=>if HT.lexLt [n,(e:Int)] [z.2.1,z.2.2]=true then [[n,(e:Int),z.2.1,z.2.2]] else []
 | none=>[]
noncomputable def pcN (W:Wd) (p:Int×Kd):List Int:=if p.2=.bell then [p.1,W.nf p.1] else if p.2.point=true then [p.1,W.rf p.1] else [p.1]
noncomputable def pcL (W:Wd) (p:Int×Kd):Str:=lnT p.2.str (pcN W p)
noncomputable def lkP (W:Wd) (p:Int×Kd) (m:Nat):List Str:=(List.range m).flatMap fun e=>(cz W p.1 e).map (lnT "link")
noncomputable def lkL (W:Wd) (KS:List (Int×Kd)):List Str:=KS.flatMap fun p=>lkP W p p.2.many.toNat
noncomputable def rdL (s:Sd):List Str:=(List.range s.ss.length).map fun i:Nat=>lnT "rod" [(i:Int),s.ss.getD i 0]
noncomputable def enL (s:Sd):List Str:=match s.at_ with
 | some z=>[lnT "engine" [z.2.1,z.2.2]]
 | none=>[]
noncomputable def rgL (s:Sd):List Str:=if s.rg=[] then [] else [lnT "rung" s.rg]
noncomputable def ytL (W:Wd) (s:Sd) (KS:List (Int×Kd)) (nx:Int):List Str:=lnT "next" [nx,(s.ss.length:Int)]::(rdL s++(KS.map (pcL W)++(lkL W KS++(enL s++rgL s))))
noncomputable def ytT (W:Wd) (s:Sd) (KS:List (Int×Kd)) (nx:Int):Str:=Txt.join "\n" (ytL W s KS nx)
structure YFit (W:Wd) (s:Sd) (KS:List (Int×Kd)) (nx:Int):Prop where
 nx:0<=nx/\nx<10000
 k:∀ n k,W.kf n=some k->0<=n/\n<10000
 n:∀ n k,W.kf n=some k->k=.bell->0<=W.nf n/\W.nf n<=9999
 ks:∀ p ∈ KS,W.kf p.1=some p.2
 kl:KS.length<=30
 sl:s.ss.length<=30
 rl:s.rg.length<=30
 rg:∀ x ∈ s.rg,0<=x/\x<=9999
theorem sS {a:Int} (h:0<=a/\a<100000):dU [a]:=⟨show 1<=1000 by decide,fun n hn=>by cases wo.mp hn; omega⟩
theorem cF {a b:Int} (h:0<=a/\a<100000) (h2:0<=b/\b<100000):dU [a,b]:=⟨show 2<=1000 by decide,fun n hn=>by
 simp only[wt,wC,or_false] at hn
 rcases hn with rfl | rfl <;> omega⟩
theorem lW {a b c d:Int} (h:0<=a/\a<100000) (h2:0<=b/\b<100000) (h3:0<=c/\c<100000) (h4:0<=d/\d<100000):dU [a,b,c,d]:=⟨show 4<=1000 by decide,fun n hn=>by
 simp only[wt,wC,or_false] at hn
 rcases hn with rfl | rfl | rfl | rfl <;> omega⟩
theorem Kd.strl (k:Kd):k.str.length<=10:=by cases k <;> decide +kernel
theorem Kd.m3 (k:Kd):1<=k.many/\k.many<=3:=by cases k <;> decide
variable{KS:List (Int×Kd)}
theorem i7 {nx:Int}{y:YR} (f:YFit W s KS nx) (R:Rep W s y) {p:Int×Kd} (hp:W.kf p.1=some p.2):dU (pcN W p):=by
 have h1:=f.k _ _ hp
 unfold pcN
 split
 ·have:=f.n _ _ hp (by assumption)
  exact cF ⟨h1.1,by omega⟩ ⟨this.1,by omega⟩
 ·split
  ·have:=R.rr _ _ hp (by assumption)
   have:=f.sl
   exact cF ⟨h1.1,by omega⟩ ⟨by omega,by omega⟩
  ·exact sS ⟨h1.1,by omega⟩
theorem dO {nx:Int} (f:YFit W s KS nx) {z:En} (h:W.ok z):(0<=z.2.1/\z.2.1<100000)/\(0<=z.2.2/\z.2.2<100000):=by
 obtain⟨k,h1,h2,h3⟩:=h
 have:=f.k _ _ h1
 have:=k.m3
 exact⟨⟨by omega,by omega⟩,⟨h2,by omega⟩⟩
theorem qY (W:Wd) (p:Int×Kd) (m:Nat):(lkP W p m).length<=m:=by
 unfold lkP
 induction m with
 | zero=>simp
 | succ m ih=>
  rw[List.range_succ,List.flatMap_append,wf]
  have:((cz W p.1 m).map (lnT "link")).length<=1:=by
   rw[v9]
   unfold cz
   split
   ·split <;> simp
   ·simp
  simp only[List.flatMap_cons,List.flatMap_nil,wx]
  omega
theorem eO (W:Wd):∀ KS:List (Int×Kd),(lkL W KS).length<=KS.length*3
 | []=>by simp[lkL]
 | p::KS=>by
  have h1:=eO W KS
  have h2:=qY W p p.2.many.toNat
  have h3:=p.2.m3
  unfold lkL at h1 ⊢
  rw[List.flatMap_cons,wf,wl]
  omega
theorem cf {x:Str} (hx:x.length<=10) (hn:dU ns) (hl:ns.length<=30):(lnT x ns).length<=400:=by
 have h1:∀ y ∈ x::ns.map nT,y.length<=10:=fun y hy=>by
  rcases wt.mp hy with rfl | hy
  ·exact hx
  ·obtain⟨n,hn',rfl⟩:=wv.mp hy
   exact jc (hn.2 n hn').1 (hn.2 n hn').2
 refine Nat.le_trans (ji h1) ?_
 rw[wl,v9,show(Str.ofString " ").length=1 from rfl]
 omega
theorem iZ {nx:Int} (f:YFit W s KS nx):dU s.rg:=⟨by have:=f.rl; omega,fun n hn=>by have:=f.rg n hn; omega⟩
theorem nM {nx:Int}{y:YR} (f:YFit W s KS nx) (R:Rep W s y):∀ x ∈ ytL W s KS nx,x.length<=400:=by
 intro x hx
 have sl:=f.sl
 unfold ytL at hx
 rcases wt.mp hx with rfl | hx
 ·exact cf (by decide +kernel) (cF ⟨f.nx.1,by have:=f.nx.2; omega⟩ ⟨by omega,by omega⟩) (show 2<=30 by decide)
 rcases wq.mp hx with hx | hx
 ·unfold rdL at hx
  obtain⟨i,hi,rfl⟩:=wv.mp hx
  have hi:=wG.mp hi
  have gs:s.ss[i]?=some (s.ss.getD i 0):=by rw[List.getD_eq_getElem?_getD,wa hi]; rfl
  have v12:=R.s12 _ (wj gs)
  exact cf (by decide +kernel) (cF ⟨by omega,by omega⟩ ⟨by omega,by omega⟩) (show 2<=30 by decide)
 rcases wq.mp hx with hx | hx
 ·obtain⟨p,hp,rfl⟩:=wv.mp hx
  refine cf p.2.strl (i7 f R (f.ks p hp)) ?_
  unfold pcN
  split
  ·show 2<=30; decide
  ·split
   ·show 2<=30; decide
   ·show 1<=30; decide
 rcases wq.mp hx with hx | hx
 ·obtain⟨p,hp,hx⟩:=List.mem_flatMap.mp hx
  obtain⟨e,he,hx⟩:=List.mem_flatMap.mp hx
  obtain⟨ns,hns,rfl⟩:=wv.mp hx
  have he:=wG.mp he
  have h3:=p.2.m3
  have kn:=f.k _ _ (f.ks p hp)
  unfold cz at hns
  split at hns
  ·rename_i z hz
   split at hns
   ·cases wo.mp hns
    have oz:=dO f (R.mo _ _ _ hz)
    exact cf (by decide +kernel) (lW ⟨kn.1,by omega⟩ ⟨by omega,by omega⟩ oz.1 oz.2) (show 4<=30 by decide)
   ·cases hns
  ·cases hns
 rcases wq.mp hx with hx | hx
 ·unfold enL at hx
  split at hx
  ·rename_i z hz
   cases wo.mp hx
   have oz:=dO f (R.eo _ hz)
   exact cf (by decide +kernel) (cF oz.1 oz.2) (show 2<=30 by decide)
  ·cases hx
 ·unfold rgL at hx
  split at hx
  ·cases hx
  ·cases wo.mp hx
   exact cf (by decide +kernel) (iZ f) f.rl
theorem k9 {nx:Int}{y:YR} (f:YFit W s KS nx) (R:Rep W s y):JoinOk "\n" (ytL W s KS nx)=true:=by
 refine kT (M:=400) (nM f R) ?_
 have h1:=eO W KS
 have h2:=f.kl
 have h3:=f.sl
 have h4:(enL s).length<=1:=by unfold enL; split <;> simp
 have h5:(rgL s).length<=1:=by unfold rgL; split <;> simp
 have h6:(rdL s).length=s.ss.length:=by unfold rdL; rw[v9,List.length_range]
 unfold ytL
 rw[show(Str.ofString "\n").length=1 from rfl,wl,wf,wf,wf,wf,v9]
 refine sz ?_
 omega
inductive sp_pcl (C:Addr) (vs:List V) (H:Hp) (Q:VK) (E_:XK):Prop
 | mk (A:YA) (y:YR) (L:Kn) (W:Wd) (s:Sd) (KS:List (Int×Kd)) (nx:Int) (p:Int×Kd) (_:vs=[.ref A.p,.int p.1]) (_:Has H (yL C A y++L)) (_:Rep W s y) (_:YFit W s KS nx) (_:W.kf p.1=some p.2) (_:∀ H',Has H' (yL C A y++L)->Q (.str (pcL W p)) H'):sp_pcl C vs H Q E_
inductive sp_lkl (C:Addr) (vs:List V) (H:Hp) (Q:VK) (E_:XK):Prop
 | mk (A:YA) (y:YR) (L:Kn) (W:Wd) (s:Sd) (KS:List (Int×Kd)) (nx:Int) (_:vs=[.ref A.p]) (_:Has H (yL C A y++L)) (_:Rep W s y) (_:Pool W s L) (_:YFit W s KS nx) (_:y.kinds=iw KS) (_:∀ H' l,Has H' (yL C A y++((l,.lst ((lkL W KS).map V.str))::L))->Q (.ref l) H'):sp_lkl C vs H Q E_
inductive sp_wy (C:Addr) (vs:List V) (H:Hp) (Q:VK) (E_:XK):Prop
 | mk (A:YA) (y:YR) (L:Kn) (W:Wd) (s:Sd) (KS:List (Int×Kd)) (_:vs=[.ref A.p]) (_:Has H (yL C A y++L)) (_:Rep W s y) (_:Pool W s L) (_:cC y) (_:YFit W s KS y.next) (_:y.kinds=iw KS) (_:∀ H',Has H' (yL C A y++L)->Q (.str (ytT W s KS y.next)) H'):sp_wy C vs H Q E_
section
variable {P:Program}{w:World}{K:PySem.W.Frag}{mg:Str->Option Value}{base:Heap}{t:Adr}
theorem scPl:FnScope ["yard","piece","kind"] ["yard","piece"] (ah vz):={}
theorem ok_Jl (T:Txt K mg t):FnOk P w K mg base CX0 4 t.f_Jl t.d_Jl ["yard","piece"] (sp_pcl t.c_Yard):=by
 refine T.F_Jl.ok scPl (fun vs H Q E h=>?_) (fun cdv A outer s H vs Q E hr h=>?_)
 ·obtain⟨_,_,_,_,_,_,_,_,rfl,_⟩:=h
  rfl
 ·obtain⟨A,y,L,W,sd,KS,nx,p,rfl,hH,R,f,hp,q⟩:=h
  refine⟨_,(ab (aB (i:=2) scPl.nd rfl (Or.inl rfl) (aF (pv 0) T.cl_Yard T.M_Jx (lS T) hr (rL T) .nil aH (aa (pv 1) ae)))
   (ab (av (ai bj (pv 2) az (am _))
    (af (ao (pcl (fE T) hr T.m_Jj T.F_Jj.kp (kB T) (@aa _ _ _ _ _ (pv 2) (@aa _ _ _ _ _ (a9 (aa (pv 1) (aa (aF (pv 0) T.cl_Yard T.M_J11 (pG T) hr (sZ T) .nil aH (aa (pv 1) ae)) ae))) ae (by rfl)) (by rfl)))))
    ak)
   (ab (av (bp (pcl (jb T) hr T.m_J31 T.F_J31.kp (mF T) (aa (pv 2) ae)))
    (af (ao (pcl (fE T) hr T.m_Jj T.F_Jj.kp (kB T) (@aa _ _ _ _ _ (pv 2) (@aa _ _ _ _ _ (a9 (aa (pv 1) (aa (aF (pv 0) T.cl_Yard T.M_J71 (ja T) hr (mE T) .nil aH (aa (pv 1) ae)) ae))) ae (by rfl)) (by rfl)))))
    ak)
   (af (ao (pcl (fE T) hr T.m_Jj T.F_Jj.kp (kB T) (@aa _ _ _ _ _ (pv 2) (@aa _ _ _ _ _ (a9 (aa (pv 1) ae)) ae (by rfl)) (by rfl)))))))),?_⟩
  refine⟨_,U,A.p,A.dx,_,U,hH.get 1 U,(bT _ _ _).2.2.2.2.1,_,U,A,y,_,p.1,_,U,hH,R.kd _ _ hp,?_⟩
  refine⟨_,U,U,_,U,?_⟩
  rw[p.2.isBell]
  have nm:=i7 f R hp
  have sl:p.2.str.length<=100:=Nat.le_trans p.2.strl (by decide)
  refine ifd (fun c=>?_) (fun c=>?_)
  ·have e:pcN W p=[p.1,W.nf p.1]:=by unfold pcN; rw[if_pos c]
   unfold pcL at q
   rw[e] at q nm
   refine⟨_,U,_,U,_,U,A.p,A.dx,_,U,hH.get 1 U,(bT _ _ _).2.2.2.2.2.1,_,U,A,y,_,p.1,_,_,U,hH,R.kd _ _ hp,(by rw[R.no _ _ hp,if_pos c]),(sz_ 2),fun l hl=>?_⟩
   exact⟨p.2.str,l,true,[p.1,W.nf p.1],_,U,hH.alloc hl _,.inl ⟨U,we⟩,sl,nm,fun H2 h2=>q _ h2.tail⟩
  refine⟨_,U,p.2,U,_,U,?_⟩
  refine if2 (fun c2=>?_) (fun c2=>?_)
  ·have e:pcN W p=[p.1,W.rf p.1]:=by unfold pcN; rw[if_neg c,if_pos c2]
   unfold pcL at q
   rw[e] at q nm
   refine⟨_,U,_,U,_,U,A.p,A.dx,_,U,hH.get 1 U,(bC _ _ _).2.2.2.2.1,_,U,A,y,_,p.1,_,_,U,hH,R.kd _ _ hp,(by rw[R.ro _ _ hp,if_pos c2]),(sz_ 2),fun l hl=>?_⟩
   exact⟨p.2.str,l,true,[p.1,W.rf p.1],_,U,hH.alloc hl _,.inl ⟨U,we⟩,sl,nm,fun H2 h2=>q _ h2.tail⟩
  ·have e:pcN W p=[p.1]:=by unfold pcN; rw[if_neg c,if_neg (by rw[c2]; exact Bool.false_ne_true)]
   unfold pcL at q
   rw[e] at q nm
   refine⟨_,U,_,U,(sz_ 1),fun l hl=>?_⟩
   exact⟨p.2.str,l,true,[p.1],_,U,hH.alloc hl _,.inl ⟨U,we⟩,sl,nm,fun H2 h2=>q _ h2.tail⟩
theorem scLl:FnScope ["yard","lines","piece","end","mate"] ["yard"] (ah vA):={}
theorem ok_Jk (T:Txt K mg t):FnOk P w K mg base CX0 5 t.f_Jk t.d_Jk ["yard"] (sp_lkl t.c_Yard):=by
 refine T.F_Jk.ok scLl (fun vs H Q E h=>?_) (fun cdv A outer s H vs Q E hr h=>?_)
 ·obtain⟨_,_,_,_,_,_,_,rfl,_⟩:=h
  rfl
 ·obtain⟨A,y,L,W,sd,KS,nx,rfl,hH,R,PL,f,ek,q⟩:=h
  refine⟨_,(ab (aB (i:=1) scLl.nd rfl (Or.inl rfl) (a9 ae))
   (ab (bm PassesOwn.never rfl (bW (aT (pv 0) T.cl_Yard T.M_Jd (pD T) hr (uX T) .nil aH)) (aj (i:=2) scLl.nd rfl (Or.inl rfl))
    (af (bm PassesOwn.never rfl (bP (by rfl) T.z_range (aa (pcl (kO T) hr T.m_Jb1 T.F_Jb1.kp (qg T) (aa (aF (pv 0) T.cl_Yard T.M_Jx (lS T) hr (rL T) .nil aH (aa (pv 2) ae)) ae)) ae)) (aj (i:=3) scLl.nd rfl (Or.inl rfl))
      (ab (aB (i:=4) scLl.nd rfl (Or.inl rfl) (aF (pv 0) T.cl_Yard T.M_Jy (px T) hr (uU T) .nil aH (@aa _ _ _ _ _ (aR (aa (pv 2) (aa (pv 3) ae))) ae (by rfl))))
       (af (av (PW.pt (de (ai cH (pv 4) aY (am _)) (cG (ai (kN (Nat.lt_of_le_of_lt (Nat.le_add_right _ 64) hr.units)) (aR (aa (pv 2) (aa (pv 3) ae))) (pv 4) (am _)))))
        (af (al (bi PySem.F.plainAttrs_list PySem.F.slot_list_append PySem.F.type_list_append aL (pv 1) (aa (pcl (fE T) hr T.m_Jj T.F_Jj.kp (kB T) (@aa _ _ _ _ _ az (@aa _ _ _ _ _ (a9 (aa (pv 2) (aa (pv 3) (aa (aI cE (pv 4) ag) (aa (aI cE (pv 4) ag) ae))))) ae (by rfl)) (by rfl))) ae))))
        ak))))))
   (af (ao (pv 1))))),?_⟩
  rw[show L2.start ["yard","lines","piece","end","mate"] [V.ref A.p]=([some (V.ref A.p),none,none,none,none]:St) from rfl]
  have ekk:(y.kinds.map fun kv=>kV kv.1)=(KS.map (·.1)).map V.int:=by rw[ek]; exact iL _
  refine⟨(sz_ 0),fun ll hll=>?_⟩
  have h1:=Has.comm (X:=[_]) (Y:=yL t.c_Yard A y) (hH.alloc hll (.lst []))
  generalize upd H ll _=H1 at h1 ⊢
  dsimp only[List.set]
  refine⟨_,U,A.p,A.dx,_,U,h1.get 1 U,(bT _ _ _).2.2.2.1,A,y,_,U,h1,fun H2 pl h2=>?_⟩
  rw[ekk] at h2
  have h2:=Has.comm (X:=[_]) (Y:=yL t.c_Yard A y) h2
  have h2:Has H2 (yL t.c_Yard A y++((ll,HO.lst [])::(pl,.lst ((KS.map (·.1)).map V.int))::L)):=h2.perm (List.Perm.append_left _ (List.Perm.swap _ _ _))
  have kb:=f.kl
  have lk2:∀ p ∈ KS,∀ m:Nat,(lkP W p m).length<=m:=fun p hp m=>by
   unfold lkP
   induction m with
   | zero=>simp
   | succ m ih=>
    rw[List.range_succ,List.flatMap_append,wf]
    have:((cz W p.1 m).map (lnT "link")).length<=1:=by
     rw[v9]
     unfold cz
     split
     ·split <;> simp
     ·simp
    simp only[List.flatMap_cons,List.flatMap_nil,wx]
    omega
  have lkl:∀ i,(lkL W (KS.take i)).length<=i*3:=fun i=>by
   induction i with
   | zero=>simp[lkL]
   | succ i ih=>
    rw[List.take_succ]
    cases e:KS[i]? with
    | none=>rw[Option.toList_none,wx]; omega
    | some p=>
     have h3:=lk2 p (wj e) p.2.many.toNat
     have h4:=p.2.m3
     unfold lkL at ih ⊢
     rw[List.flatMap_append,wf]
     simp only[Option.toList,List.flatMap_cons,List.flatMap_nil,wx]
     omega
  refine⟨pl,U,⟨_,SqL.of (h2.get 10 U)⟩,cA (xs:=(KS.map (·.1)).map V.int) (fun i σ H'=>∃ o2 o3 o4:Option V,σ=[some (.ref A.p),some (.ref ll),o2,o3,o4]/\Has H' (yL t.c_Yard A y++((ll,HO.lst ((lkL W (KS.take i)).map V.str))::(pl,.lst ((KS.map (·.1)).map V.int))::L))) ⟨_,_,_,U,h2⟩ (fun i σ H' _ ⟨_,_,_,_,h⟩=>SqL.of (h.get 10 U)) ?_ ?_⟩
  ·clear h2 h1
   rintro i x σ H3 hx ⟨o2,o3,o4,rfl,h3⟩
   have hi:i<KS.length:=by have:=(List.getElem?_eq_some_iff.mp hx).1; simpa using this
   have ex:x=.int KS[i].1:=by
    rw[wd,wd,wa hi] at hx
    exact(Option.some.inj hx).symm
   subst ex
   obtain⟨p,ep⟩:∃ p,KS[i]=p:=⟨_,U⟩
   have mp:p ∈ KS:=by rw[<- ep]; exact List.getElem_mem hi
   have hk:=f.ks p mp
   have tk:KS.take (i+1)=KS.take i++[p]:=by rw[List.take_succ,wa hi,ep]; rfl
   have eD1:lkL W (KS.take (i+1))=lkL W (KS.take i)++lkP W p p.2.many.toNat:=by unfold lkL; rw[tk,List.flatMap_append]; simp
   rw[ep,eD1]
   have lD:=lkl i
   obtain⟨D0,eD0⟩:∃ D0,lkL W (KS.take i)=D0:=⟨_,U⟩
   rw[eD0] at h3 lD ⊢
   have km:=p.2.m3
   have kn:=f.k _ _ hk
   dsimp only[List.set]
   refine⟨_,U,A.p,A.dx,_,U,h3.get 1 U,(bT _ _ _).2.2.2.2.1,_,U,A,y,_,p.1,_,U,h3,R.kd _ _ hk,?_⟩
   refine⟨p.2,U,p.2.many,U,by omega,by omega,bF (fun e σ H'=>∃ o3 o4:Option V,σ=[some (.ref A.p),some (.ref ll),some (.int p.1),o3,o4]/\Has H' (yL t.c_Yard A y++((ll,HO.lst ((D0++lkP W p e).map V.str))::(pl,.lst ((KS.map (·.1)).map V.int))::L))) ⟨_,_,U,by simpa [lkP] using h3⟩ ?_ ?_⟩
   ·clear h3
    rintro e σ H4 he ⟨o3,o4,rfl,h4⟩
    have he3:e<3:=by omega
    have l2:=lk2 p mp e
    have eP:lkP W p (e+1)=lkP W p e++(cz W p.1 e).map (lnT "link"):=by unfold lkP; rw[List.range_succ,List.flatMap_append]; simp
    dsimp only[List.set]
    rw[Int.zero_add]
    refine⟨_,U,A.p,A.dx,_,U,h4.get 1 U,(dW _ _ _).2.1,_,U,_,U,(show 2<=sizeLine by decide),fun b hb=>?_⟩
    have h5:=h4.alloc hb (.tup [.int p.1,.int (e:Int)])
    generalize upd H4 b _=H5 at h5 ⊢
    refine⟨A,y,_,b,p.1,(e:Int),0,U,Has.comm (X:=[_]) (Y:=yL t.c_Yard A y) h5,U,⟨p.2,R.kd _ _ hk,by omega,by omega⟩,?_⟩
    replace h5:=h5.tail
    rw[show(aq y.mates (kE p.1 (e:Int))).getD .non=enV (W.mf p.1 e) by rw[R.mt]; cases W.mf p.1 e <;> rfl]
    dsimp only[List.set]
    refine⟨_,U,U,_,U,?_⟩
    cases hm:W.mf p.1 e with
    | none=>
     refine ifF (by rfl) ?_
     refine⟨_,_,U,?_⟩
     rw[eP,show cz W p.1 e=[] by unfold cz; rw[hm]]
     simpa using h5
    | some z=>
     refine ifT (by rfl) ?_
     obtain⟨jz,hz⟩:=PL.m _ _ z hm
     have oz:=dO f (R.mo _ _ _ hm)
     refine⟨_,U,_,U,(show 2<=sizeLine by decide),fun b2 hb2=>?_⟩
     have h6:=h5.alloc hb2 (.tup [.int p.1,.int (e:Int)])
     generalize upd H5 b2 _=H6 at h6 ⊢
     have gz:∀ {H':Hp}{X:Kn},Has H' (X++(yL t.c_Yard A y++((ll,HO.lst ((D0++lkP W p e).map V.str))::(pl,.lst ((KS.map (·.1)).map V.int))::L)))->H' z.1=some (.tup [.int z.2.1,.int z.2.2]):=fun h=>h.at_ _ (wb _ (wb _ (wc _ (wc _ (wj hz)))))
     refine⟨_,U,b2,z.1,[p.1,(e:Int)],[z.2.1,z.2.2],U,U,SqT.of (h6.get 0 U),SqT.of (gz (X:=[_]) h6),_,U,?_⟩
     have h6:=h6.tail
     cases hlt:HT.lexLt [p.1,(e:Int)] [z.2.1,z.2.2] with
     | false=>
      refine bz ?_
      refine⟨_,_,U,?_⟩
      rw[eP,show cz W p.1 e=[] by unfold cz; rw[hm]; dsimp only; rw[hlt]; rfl]
      simpa using h6
     | true=>
      refine da ?_
      have el:cz W p.1 e=[[p.1,(e:Int),z.2.1,z.2.2]]:=by unfold cz; rw[hm]; dsimp only; rw[hlt]; rfl
      have g6:=gz (X:=[]) h6
      refine⟨_,U,.inl ⟨U,_,SqL.of (h6.get 9 U)⟩,_,U,_,U,_,U,z.1,_,_,_,U,U,SqT.of g6,aK (j:=0) rfl,_,U,z.1,_,_,_,U,U,SqT.of g6,aK (j:=1) rfl,(sz_ 4),fun l4 hl4=>?_⟩
      have h7:=h6.alloc hl4 (.lst [.int p.1,.int (e:Int),.int z.2.1,.int z.2.2])
      generalize upd H6 l4 _=H7 at h7 ⊢
      refine⟨"link",l4,true,[p.1,(e:Int),z.2.1,z.2.2],_,U,h7,.inl ⟨U,we⟩,by decide +kernel,lW ⟨kn.1,by omega⟩ ⟨by omega,by omega⟩ oz.1 oz.2,fun H8 h8=>?_⟩
      have h8:=h8.tail
      refine⟨ll,_,_,U,U,h8.get 9 U,sizeOk (by rw[v9,wf]; omega),?_⟩
      refine⟨_,_,U,?_⟩
      have e9:(D0++lkP W p (e+1)).map V.str=(D0++lkP W p e).map V.str++[.str (lnT "link" [p.1,(e:Int),z.2.1,z.2.2])]:=by rw[eP,el]; simp
      rw[e9]
      exact h8.puti 9 U _
   ·rintro σ H4 ⟨o3,o4,rfl,h4⟩
    exact⟨_,_,_,U,h4⟩
  ·rintro σ H3 ⟨o2,o3,o4,rfl,h3⟩
   rw[show((KS.map (·.1)).map V.int).length=KS.length by simp,List.take_length] at h3
   refine⟨_,U,q _ ll ?_⟩
   exact h3.sub ((List.Sublist.refl _).append (.cons_cons _ (.cons _ (List.Sublist.refl _))))
theorem scWy:FnScope ["yard","lines","rod","piece"] ["yard"] (ah vB):={}
theorem ok_Ji (T:Txt K mg t):FnOk P w K mg base CX0 7 t.f_Ji t.d_Ji ["yard"] (sp_wy t.c_Yard):=by
 refine T.F_Ji.ok scWy (fun vs H Q E h=>?_) (fun cdv A outer s H vs Q E hr h=>?_)
 ·obtain⟨_,_,_,_,_,_,rfl,_⟩:=h
  rfl
 ·obtain⟨A,y,L,W,sd,KS,rfl,hH,R,PL,sm,f,ek,q⟩:=h
  refine⟨_,(ab (aB (i:=1) scWy.nd rfl (Or.inl rfl) (a9 (aa (pcl (fE T) hr T.m_Jj T.F_Jj.kp (kB T) (@aa _ _ _ _ _ az (@aa _ _ _ _ _ (a9 (aa (aJ (pv 0) rfl) (aa (aG aA (by rfl) T.z_len (by rfl) (aa (aJ (pv 0) rfl) ae)) ae))) ae (by rfl)) (by rfl))) ae)))
   (ab (bm PassesOwn.never rfl (bW (aT (pv 0) T.cl_Yard T.M_J01 (um T) hr (b_J01 T) .nil aH)) (aj (i:=2) scWy.nd rfl (Or.inl rfl))
    (af (al (bi PySem.F.plainAttrs_list PySem.F.slot_list_append PySem.F.type_list_append aL (pv 1) (aa (pcl (fE T) hr T.m_Jj T.F_Jj.kp (kB T) (@aa _ _ _ _ _ az (@aa _ _ _ _ _ (a9 (aa (pv 2) (aa (aF (pv 0) T.cl_Yard T.M_Jz (pq T) hr (uT T) .nil aH (aa (pv 2) ae)) ae))) ae (by rfl)) (by rfl))) ae)))))
   (ab (bm PassesOwn.never rfl (bW (aT (pv 0) T.cl_Yard T.M_Jd (pD T) hr (uX T) .nil aH)) (aj (i:=3) scWy.nd rfl (Or.inl rfl))
    (af (al (bi PySem.F.plainAttrs_list PySem.F.slot_list_append PySem.F.type_list_append aL (pv 1) (aa (pcl (ok_Jl T) hr T.m_Jl T.F_Jl.kp (b_Jl T) (aa (pv 0) (aa (pv 3) ae))) ae)))))
   (ab (al (bi PySem.F.plainAttrs_list PySem.F.slot_list_extend PySem.F.type_list_extend mX (pv 1) (aa (pcl (ok_Jk T) hr T.m_Jk T.F_Jk.kp (b_Jk T) (aa (pv 0) ae)) ae)))
   (ab (di (av (ai cH (aT (pv 0) T.cl_Yard T.M_Jc (lU T) hr (rM T) .nil aH) aY (am _))
    (af (al (bi PySem.F.plainAttrs_list PySem.F.slot_list_append PySem.F.type_list_append aL (pv 1) (aa (pcl (fE T) hr T.m_Jj T.F_Jj.kp (kB T) (aa az (aa (aT (pv 0) T.cl_Yard T.M_Jc (lU T) hr (rM T) .nil aH) ae))) ae))))
    ak))
   (ab (di (av (oS (aT (pv 0) T.cl_Yard T.M_Jo (py T) hr (uV T) .nil aH) (by intro _; rfl))
    (af (al (bi PySem.F.plainAttrs_list PySem.F.slot_list_append PySem.F.type_list_append aL (pv 1) (aa (pcl (fE T) hr T.m_Jj T.F_Jj.kp (kB T) (aa az (aa (aT (pv 0) T.cl_Yard T.M_Jo (py T) hr (uV T) .nil aH) ae))) ae))))
    ak))
   (af (ao (bi PySem.F.plainAttrs_str PySem.F.slot_str_join PySem.F.type_str_join fX az (aa (pv 1) ae)))))))))),?_⟩
  rw[show L2.start ["yard","lines","rod","piece"] [V.ref A.p]=([some (V.ref A.p),none,none,none]:St) from rfl]
  have ekk:(y.kinds.map fun kv=>kV kv.1)=(KS.map (·.1)).map V.int:=by rw[ek]; exact iL _
  have sl:=f.sl
  have kb:=f.kl
  refine⟨_,U,A.p,_,A.dx,_,_,U,hH.get 1 U,T.cl_Yard,T.n_Yard_next_piece,f7 _ _ _,_,U,A.p,_,A.dx,_,_,U,hH.get 1 U,T.cl_Yard,T.n_Yard_sides,bM _ _ _,A.s,_,U,.inl (SqL.of (hH.get 6 U)),(sz_ 2),fun l0 hl0=>?_⟩
  have eSL:(y.sides.length:Int)=(sd.ss.length:Int):=by rw[R.sd,v9]
  have h1:=hH.alloc hl0 (.lst [.int y.next,.int y.sides.length])
  generalize upd H l0 _=H1 at h1 ⊢
  rw[eSL] at h1
  refine⟨"next",l0,true,[y.next,(sd.ss.length:Int)],_,U,h1,.inl ⟨U,we⟩,by decide +kernel,cF ⟨f.nx.1,by have:=f.nx.2; omega⟩ ⟨by omega,by omega⟩,fun H2 h2=>?_⟩
  have h2:=h2.tail
  refine⟨(sz_ 1),fun ll hll=>?_⟩
  obtain⟨N0,eN0⟩:∃ N0:List Str,[lnT "next" [y.next,(sd.ss.length:Int)]]=N0:=⟨_,U⟩
  have l0:N0.length=1:=by rw[<- eN0]; rfl
  have h3:=Has.comm (X:=[_]) (Y:=yL t.c_Yard A y) (h2.alloc hll (.lst (N0.map V.str)))
  have e3:[V.str (lnT "next" [y.next,(sd.ss.length:Int)])]=N0.map V.str:=by rw[<- eN0]; rfl
  rw[e3]
  generalize upd H2 ll _=H3 at h3 ⊢
  clear h2 h1 hH
  dsimp only[List.set]
  refine⟨_,U,A.p,A.dx,_,U,h3.get 1 U,(bC _ _ _).2.2.2.1,A,y,_,U,h3,sm,fun H4 rl h4=>?_⟩
  have eI:dq y.sides.length=((List.range sd.ss.length).map fun i:Nat=>(i:Int)).map V.int:=by rw[R.sd,v9]; exact pS _
  rw[eI] at h4
  have h4:=Has.comm (X:=[_]) (Y:=yL t.c_Yard A y) h4
  have h4:Has H4 (yL t.c_Yard A y++((ll,HO.lst (N0.map V.str))::(rl,.lst (((List.range sd.ss.length).map fun i:Nat=>(i:Int)).map V.int))::L)):=h4.perm (List.Perm.append_left _ (List.Perm.swap _ _ _))
  have rdk:∀ i,i<sd.ss.length->(rdL sd).take (i+1)=(rdL sd).take i++[lnT "rod" [(i:Int),sd.ss.getD i 0]]:=fun i hi=>by
   rw[List.take_succ]
   congr 1
   unfold rdL
   rw[wd,wa (by rw[List.length_range]; exact hi)]
   simp
  refine⟨rl,U,⟨_,SqL.of (h4.get 10 U)⟩,cA (xs:=((List.range sd.ss.length).map fun i:Nat=>(i:Int)).map V.int) (fun i σ H'=>∃ o2 o3:Option V,σ=[some (.ref A.p),some (.ref ll),o2,o3]/\Has H' (yL t.c_Yard A y++((ll,HO.lst ((N0++(rdL sd).take i).map V.str))::(rl,.lst (((List.range sd.ss.length).map fun i:Nat=>(i:Int)).map V.int))::L))) ⟨_,_,U,by simpa using h4⟩ (fun i σ H' _ ⟨_,_,_,h⟩=>SqL.of (h.get 10 U)) ?_ ?_⟩
  ·clear h4 h3
   rintro i x σ H5 hx ⟨o2,o3,rfl,h5⟩
   have hi:i<sd.ss.length:=by have:=(List.getElem?_eq_some_iff.mp hx).1; simpa using this
   have ex:x=.int (i:Int):=by
    rw[wd,wd,wa (by simpa using hi)] at hx
    simpa using (Option.some.inj hx).symm
   subst ex
   dsimp only[List.set]
   have gs:sd.ss[i]?=some (sd.ss.getD i 0):=by rw[List.getD_eq_getElem?_getD,wa hi]; rfl
   have v12:=R.s12 _ (wj gs)
   refine⟨_,U,.inl ⟨U,_,SqL.of (h5.get 9 U)⟩,_,U,_,U,A.p,A.dx,_,U,h5.get 1 U,(bC _ _ _).2.2.2.2.2.1,_,U,A,y,_,(i:Int),.int (sd.ss.getD i 0),U,h5,by omega,(by rw[R.sd,Int.toNat_natCast,wd,gs]; rfl),(sz_ 2),fun l5 hl5=>?_⟩
   have h6:=h5.alloc hl5 (.lst [.int (i:Int),.int (sd.ss.getD i 0)])
   generalize upd H5 l5 _=H6 at h6 ⊢
   refine⟨"rod",l5,true,[(i:Int),sd.ss.getD i 0],_,U,h6,.inl ⟨U,we⟩,by decide +kernel,cF ⟨by omega,by omega⟩ ⟨by omega,by omega⟩,fun H7 h7=>?_⟩
   have h7:=h7.tail
   have lt:((rdL sd).take i).length<=30:=by rw[wy]; omega
   refine⟨ll,_,_,U,U,h7.get 9 U,sizeOk (by rw[v9,wf]; omega),?_⟩
   refine⟨_,_,U,?_⟩
   rw[rdk i hi,<- wm,wg (l₁:=N0++(rdL sd).take i)]
   exact h7.puti 9 U _
  clear h4 h3
  rintro σ H4 ⟨o2,o3,rfl,h4⟩
  have lr:(rdL sd).length=sd.ss.length:=by unfold rdL; rw[v9,List.length_range]
  rw[show(((List.range sd.ss.length).map fun i:Nat=>(i:Int)).map V.int).length=(rdL sd).length by rw[lr]; simp,List.take_length] at h4
  obtain⟨N1,eN1⟩:∃ N1:List Str,N0++rdL sd=N1:=⟨_,U⟩
  have l1:N1.length<=31:=by rw[<- eN1,wf]; omega
  rw[eN1] at h4
  have h4:Has H4 (yL t.c_Yard A y++((ll,HO.lst (N1.map V.str))::L)):=h4.sub ((List.Sublist.refl _).append (.cons_cons _ (.cons _ (List.Sublist.refl _))))
  refine⟨_,U,A.p,A.dx,_,U,h4.get 1 U,(bT _ _ _).2.2.2.1,A,y,_,U,h4,fun H5 pl h5=>?_⟩
  rw[ekk] at h5
  have h5:=Has.comm (X:=[_]) (Y:=yL t.c_Yard A y) h5
  have h5:Has H5 (yL t.c_Yard A y++((ll,HO.lst (N1.map V.str))::(pl,.lst ((KS.map (·.1)).map V.int))::L)):=h5.perm (List.Perm.append_left _ (List.Perm.swap _ _ _))
  refine⟨pl,U,⟨_,SqL.of (h5.get 10 U)⟩,cA (xs:=(KS.map (·.1)).map V.int) (fun i σ H'=>∃ o2 o3:Option V,σ=[some (.ref A.p),some (.ref ll),o2,o3]/\Has H' (yL t.c_Yard A y++((ll,HO.lst ((N1++(KS.map (pcL W)).take i).map V.str))::(pl,.lst ((KS.map (·.1)).map V.int))::L))) ⟨_,_,U,by simpa using h5⟩ (fun i σ H' _ ⟨_,_,_,h⟩=>SqL.of (h.get 10 U)) ?_ ?_⟩
  ·clear h5 h4
   rintro i x σ H6 hx ⟨o2,o3,rfl,h6⟩
   have hi:i<KS.length:=by have:=(List.getElem?_eq_some_iff.mp hx).1; simpa using this
   have ex:x=.int KS[i].1:=by
    rw[wd,wd,wa hi] at hx
    exact(Option.some.inj hx).symm
   subst ex
   have hk:=f.ks _ (List.getElem_mem hi)
   dsimp only[List.set]
   refine⟨_,U,.inl ⟨U,_,SqL.of (h6.get 9 U)⟩,_,U,_,U,A,y,_,W,sd,KS,y.next,KS[i],U,h6,R,f,hk,fun H7 h7=>?_⟩
   have lt:((KS.map (pcL W)).take i).length<=30:=by rw[wy,v9]; omega
   refine⟨ll,_,_,U,U,h7.get 9 U,sizeOk (by rw[v9,wf]; omega),?_⟩
   refine⟨_,_,U,?_⟩
   have tk:(KS.map (pcL W)).take (i+1)=(KS.map (pcL W)).take i++[pcL W KS[i]]:=by rw[List.take_succ,wd,wa hi]; rfl
   rw[tk,<- wm,wg (l₁:=N1++(KS.map (pcL W)).take i)]
   exact h7.puti 9 U _
  clear h5 h4
  rintro σ H5 ⟨o2,o3,rfl,h5⟩
  rw[show((KS.map (·.1)).map V.int).length=(KS.map (pcL W)).length by simp,List.take_length] at h5
  obtain⟨N2,eN2⟩:∃ N2:List Str,N1++KS.map (pcL W)=N2:=⟨_,U⟩
  have l2:N2.length<=61:=by rw[<- eN2,wf,v9]; omega
  rw[eN2] at h5
  have h5:Has H5 (yL t.c_Yard A y++((ll,HO.lst (N2.map V.str))::L)):=h5.sub ((List.Sublist.refl _).append (.cons_cons _ (.cons _ (List.Sublist.refl _))))
  refine⟨_,U,.inl ⟨U,_,SqL.of (h5.get 9 U)⟩,_,U,A,y,_,W,sd,KS,y.next,U,h5,R,PL.app [_],f,ek,fun H6 lk h6=>?_⟩
  have h6:Has H6 (yL t.c_Yard A y++((ll,HO.lst (N2.map V.str))::(lk,.lst ((lkL W KS).map V.str))::L)):=h6.perm (List.Perm.append_left _ (List.Perm.swap _ _ _))
  have lkl:=eO W KS
  refine⟨ll,lk,_,_,U,U,h6.get 9 U,h6.get 10 U,sz (by rw[v9,v9]; omega),?_⟩
  obtain⟨N3,eN3⟩:∃ N3:List Str,N2++lkL W KS=N3:=⟨_,U⟩
  have l3:N3.length<=151:=by rw[<- eN3,wf]; omega
  have e3:N2.map V.str++(lkL W KS).map V.str=N3.map V.str:=by rw[<- eN3,wg]
  rw[e3]
  have h7:Has _ (yL t.c_Yard A y++((ll,HO.lst (N3.map V.str))::(lk,.lst ((lkL W KS).map V.str))::L)):=h6.puti 9 U (.lst (N3.map V.str))
  generalize upd H6 ll _=H7 at h7 ⊢
  have h7:Has H7 (yL t.c_Yard A y++((ll,HO.lst (N3.map V.str))::L)):=h7.sub ((List.Sublist.refl _).append (.cons_cons _ (.cons _ (List.Sublist.refl _))))
  clear h6 h5
  dsimp only[List.set]
  refine⟨fun σ' H'=>σ'=[some (.ref A.p),some (.ref ll),o2,o3]/\Has H' (yL t.c_Yard A y++((ll,HO.lst ((N3++enL sd).map V.str))::L)),?_,?_⟩
  ·refine⟨_,U,A.p,A.dx,_,U,h7.get 1 U,(bT _ _ _).2.2.2.2.2.2.1,A,y,_,U,h7,U,_,U,?_⟩
   rw[R.en]
   cases ha:sd.at_ with
   | none=>
    refine ifF (by rfl) ⟨U,?_⟩
    rw[show enL sd=[] by unfold enL; rw[ha],wx]
    exact h7
   | some z=>
    refine ifT (by rfl) ?_
    obtain⟨jz,hz⟩:=PL.e z ha
    have oz:=dO f (R.eo _ ha)
    refine⟨_,U,.inl ⟨U,_,SqL.of (h7.get 9 U)⟩,_,U,A.p,A.dx,_,U,h7.get 1 U,(bT _ _ _).2.2.2.2.2.2.1,A,y,_,U,h7,?_⟩
    rw[R.en,ha]
    refine⟨"engine",z.1,false,[z.2.1,z.2.2],_,U,h7,.inr ⟨U,wb _ (wc _ (wj hz))⟩,by decide +kernel,cF oz.1 oz.2,fun H8 h8=>?_⟩
    refine⟨ll,_,_,U,U,h8.get 9 U,sizeOk (by rw[v9]; omega),U,?_⟩
    rw[show enL sd=[lnT "engine" [z.2.1,z.2.2]] by unfold enL; rw[ha],wg]
    exact h8.puti 9 U _
  clear h7
  rintro σ' H7 ⟨rfl,h7⟩
  obtain⟨N4,eN4⟩:∃ N4:List Str,N3++enL sd=N4:=⟨_,U⟩
  have l4:N4.length<=152:=by
   have:(enL sd).length<=1:=by unfold enL; split <;> simp
   rw[<- eN4,wf]; omega
  rw[eN4] at h7
  refine⟨fun σ' H'=>σ'=[some (.ref A.p),some (.ref ll),o2,o3]/\Has H' (yL t.c_Yard A y++((ll,HO.lst ((N4++rgL sd).map V.str))::L)),?_,?_⟩
  ·refine⟨_,U,A.p,A.dx,_,U,h7.get 1 U,(bT _ _ _).2.2.2.2.2.2.2.1,A,y,_,U,h7,fun H8 b8 h8=>?_⟩
   rw[R.rg] at h8
   by_cases hg:sd.rg=[]
   ·refine⟨false,.inl ⟨_,SqL.of (h8.get 0 U),by rw[hg]; rfl⟩,bz ⟨U,?_⟩⟩
    rw[show rgL sd=[] by unfold rgL; rw[if_pos hg],wx]
    exact h8.tail
   ·refine⟨true,.inl ⟨_,SqL.of (h8.get 0 U),?_⟩,da ?_⟩
    ·cases e:sd.rg with
     | nil=>exact absurd e hg
     | cons a b=>rfl
    have h9:=h8.tail
    refine⟨_,U,.inl ⟨U,_,SqL.of (h9.get 9 U)⟩,_,U,A.p,A.dx,_,U,h9.get 1 U,(bT _ _ _).2.2.2.2.2.2.2.1,A,y,_,U,h9,fun H10 b10 h10=>?_⟩
    rw[R.rg] at h10
    refine⟨"rung",b10,true,sd.rg,_,U,h10,.inl ⟨U,we⟩,by decide +kernel,iZ f,fun H11 h11=>?_⟩
    have h11:=h11.tail
    refine⟨ll,_,_,U,U,h11.get 9 U,sizeOk (by rw[v9]; omega),U,?_⟩
    rw[show rgL sd=[lnT "rung" sd.rg] by unfold rgL; rw[if_neg hg],wg]
    exact h11.puti 9 U _
  clear h7
  rintro σ' H7 ⟨rfl,h7⟩
  have eA:N4++rgL sd=ytL W sd KS y.next:=by
   rw[<- eN4,<- eN3,<- eN2,<- eN1,<- eN0]
   unfold ytL
   simp
  rw[eA] at h7
  exact⟨U,_,U,_,ll,ytL W sd KS y.next,U,U,SqL.of (h7.get 9 U),k9 f R,q _ (h7.sub ((List.Sublist.refl _).append (.cons _ (List.Sublist.refl _))))⟩
end
theorem j9 {H:Hp} (h:Has H L):∀ (ps:Kn),(∀ x ∈ ps,H x.1=some x.2)->∃ N,Has H (N++L)/\∀ x ∈ ps,x ∈ N++L
 | [],_=>⟨[],h,fun x hx=>by cases hx⟩
 | p::ps,hp=>by
  obtain⟨N,h1,h2⟩:=j9 h ps fun x hx=>hp x (wc _ hx)
  have e:=hp p we
  by_cases hm:p.1 ∈ (N++L).map (·.1)
  ·obtain⟨x,hx,ex⟩:=wv.mp hm
   have e2:=h1.at_ x hx
   rw[ex,e] at e2
   have:p=x:=Prod.ext ex.symm (Option.some.inj e2)
   exact⟨N,h1,fun y hy=>by
    rcases wt.mp hy with rfl | hy
    ·rw[this]; exact hx
    ·exact h2 y hy⟩
  ·refine⟨p::N,⟨?_,fun x hx=>?_⟩,fun y hy=>?_⟩
   ·show((p::(N++L)).map (·.1)).Nodup
    rw[wu]
    exact List.nodup_cons.mpr ⟨hm,h1.nd⟩
   ·rcases wt.mp hx with rfl | hx
    ·exact e
    ·exact h1.at_ x hx
   ·rcases wt.mp hy with rfl | hy
    ·exact we
    ·exact wc _ (h2 y hy)
theorem lJ {α:Type} (g:α->Int):∀ {a b:List α},a.Pairwise (fun x y=>g x<g y)->b.Pairwise (fun x y=>g x<g y)->(∀ x,x ∈ a↔x ∈ b)->a=b
 | [],[],_,_,_=>rfl
 | [],y::b,_,_,h=>absurd ((h y).mpr we) (by simp)
 | x::a,[],_,_,h=>absurd ((h x).mp we) (by simp)
 | x::a,y::b,ha,hb,h=>by
  obtain⟨h1,h2⟩:=List.pairwise_cons.mp ha
  obtain⟨h3,h4⟩:=List.pairwise_cons.mp hb
  have e:x=y:=by
   rcases wt.mp ((h x).mp we) with e | m
   ·exact e
   ·rcases wt.mp ((h y).mpr we) with e | m2
    ·exact e.symm
    ·have:=h1 y m2
     have:=h3 x m
     omega
  subst e
  rw[lJ g h2 h4 fun z=>⟨fun m=>?_,fun m=>?_⟩]
  ·rcases wt.mp ((h z).mp (wc _ m)) with e | m2
   ·subst e; have:=h1 z m; omega
   ·exact m2
  ·rcases wt.mp ((h z).mpr (wc _ m)) with e | m2
   ·subst e; have:=h3 z m; omega
   ·exact m2
noncomputable def kEn (ks:List Kd):List (Int×Kd):=ks.zipIdx.map fun p=>((p.2:Int),p.1)
theorem pQ (ks:List Kd):iw (kEn ks)=dS ks:=by unfold iw kEn dS; rw[wD]; rfl
theorem bZ (ks:List Kd):(kEn ks).length=ks.length:=by unfold kEn; simp
theorem eR (hi:i<ks.length):(kEn ks)[i]?=some ((i:Int),ks[i]):=by
 unfold kEn
 rw[wd,List.getElem?_zipIdx,wa hi]
 simp
theorem l7 {p:Int×Kd} (h:p ∈ kEn ks):∃ i:Nat,p.1=i/\ks[i]?=some p.2:=by
 unfold kEn at h
 obtain⟨x,hx,rfl⟩:=wv.mp h
 exact⟨x.2,U,by simpa using List.mem_zipIdx_iff_getElem?.mp hx⟩
noncomputable def lkE (W:Wd) (x:Int×Int):List Str:=(cz W x.1 x.2.toNat).map (lnT "link")
theorem pM (W:Wd) (ks:List Kd):lkL W (kEn ks)=(aV ks).flatMap (lkE W):=by
 unfold lkL kEn aV
 rw[List.flatMap_map,List.flatMap_assoc]
 congr 1
 funext p
 unfold lkP
 rw[List.flatMap_map]
 congr 1
theorem kZ (ks:List Kd):(aV ks).Pairwise fun x y=>So.pk x.1 x.2<So.pk y.1 y.2:=by
 have key:∀ (l:List Kd) (n:Nat),((l.zipIdx n).flatMap fun p=>(List.range p.1.many.toNat).map fun e:Nat=>((p.2:Int),(e:Int))).Pairwise (fun x y=>So.pk x.1 x.2<So.pk y.1 y.2)/\∀ x ∈ ((l.zipIdx n).flatMap fun p=>(List.range p.1.many.toNat).map fun e:Nat=>((p.2:Int),(e:Int))),(n:Int)<=x.1/\0<=x.2/\x.2<3:=by
  intro l
  induction l with
  | nil=>intro n; simp
  | cons k l ih=>
   intro n
   obtain⟨h1,h2⟩:=ih (n+1)
   have km:=k.m3
   rw[List.zipIdx_cons,List.flatMap_cons]
   refine⟨wk.mpr ⟨?_,h1,fun x hx y hy=>?_⟩,fun x hx=>?_⟩
   ·rw[List.pairwise_map]
    refine List.Pairwise.imp_of_mem ?_ List.pairwise_lt_range
    intro a b _ _ hab
    unfold So.pk
    dsimp only
    omega
   ·obtain⟨e,he,rfl⟩:=wv.mp hx
    have he:=wG.mp he
    have:=h2 y hy
    unfold So.pk
    dsimp only at *
    omega
   ·rcases wq.mp hx with hx | hx
    ·obtain⟨e,he,rfl⟩:=wv.mp hx
     have he:=wG.mp he
     dsimp only at *
     omega
    ·have:=h2 x hx
     omega
 exact(key ks 0).1
theorem gc {κ:Type} [DecidableEq κ]:∀ {kvs:List (κ×V)}{k:κ}{v:V},aq kvs k=some v->k ∈ kvs.map (·.1)
 | [],k,v,h=>by rw[jH] at h; cases h
 | p::r,k,v,h=>by
  by_cases e:p.1=k
  ·rw[wu,e]; exact .head _
  ·rw[bo e] at h
   rw[wu]; exact .tail _ (gc h)
theorem ge {κ:Type} [DecidableEq κ]:∀ {kvs:List (κ×V)}{k:κ},k ∈ kvs.map (·.1)->∃ v,aq kvs k=some v
 | [],k,h=>by cases h
 | p::r,k,h=>by
  by_cases e:p.1=k
  ·exact⟨p.2,bt e⟩
  ·rw[bo e]
   rw[wu] at h
   rcases wt.mp h with h | h
   ·exact absurd h.symm e
   ·exact ge h
noncomputable def kp (k:List Key):Int×Int:=match k with
 | [.inl a,.inl b]=>(a,b)
 | _=>(0,0)
theorem fI (n e:Int):kp (kE n e)=(n,e):=rfl
theorem jh {n e n' e':Int} (h:kE n e=kE n' e'):(n,e)=(n',e'):=by rw[<- fI n e,<- fI n' e',h]
noncomputable def kK (as:List Addr) (m:List (List Key×V)):List Pr:=(as.zip m).map fun x=>(x.1,kp x.2.1)
theorem oW:∀ (as:List Addr) (m:List (List Key×V)),as.length=m.length->prV (kK as m)=as.map V.ref
 | [],[],_=>rfl
 | a::as,x::m,h=>by
  have:=oW as m (by simpa using h)
  unfold prV kK at this ⊢
  rw[List.zip_cons_cons,wu,wu,this]
  rfl
theorem oX:∀ (as:List Addr) (m:List (List Key×V)),as.length=m.length->(kK as m).map (·.2)=m.map fun x=>kp x.1
 | [],[],_=>rfl
 | a::as,x::m,h=>by
  have:=oX as m (by simpa using h)
  unfold kK at this ⊢
  rw[List.zip_cons_cons,wu,wu,this]
  rfl
theorem oV {as:List Addr}{z:Pr} (h:z ∈ kK as m):∃ (i:Nat) (x:List Key×V),as[i]?=some z.1/\m[i]?=some x/\z.2=kp x.1:=by
 unfold kK at h
 obtain⟨y,hy,rfl⟩:=wv.mp h
 obtain⟨i,hi⟩:=List.getElem?_of_mem hy
 rw[List.getElem?_zip_eq_some] at hi
 exact⟨i,y.2,hi.1,hi.2,U⟩
theorem ur {ps qs:List Pr} (mt:∀ n e,aq m (kE n e)=(W.mf n e).map fun z=>V.ref z.1) (mks:∀ k ∈ m.map (·.1),∃ p ∈ aV ks,k=kE p.1 p.2)
  (e2:ps.map (·.2)=m.map fun x=>kp x.1) (hp:qs.Perm ps) (hs:qs.Pairwise va):(qs.flatMap fun x=>lkE W x.2)=lkL W (kEn ks):=by
 rw[pM]
 have e1:qs.map (·.2)=(aV ks).filter fun x=>(W.mf x.1 x.2).isSome:=by
  refine lJ (fun x:Int×Int=>So.pk x.1 x.2) ?_ ((kZ ks).filter _) fun x=>?_
  ·rw[List.pairwise_map]
   exact hs
  ·rw[(hp.map (·.2)).mem_iff,e2,List.mem_filter]
   constructor
   ·intro h
    obtain⟨kv,hkv,rfl⟩:=wv.mp h
    have hk:=wF (f:=(·.1)) hkv
    obtain⟨p,h1,h2⟩:=mks _ hk
    obtain⟨v,hv⟩:=ge hk
    rw[h2] at hv ⊢
    rw[mt] at hv
    refine⟨by rw[fI]; exact h1,?_⟩
    rw[fI]
    cases e:W.mf p.1 p.2 with
    | none=>rw[e] at hv; cases hv
    | some z=>rfl
   ·rintro⟨h1,h2⟩
    cases e:W.mf x.1 x.2 with
    | none=>rw[e] at h2; cases h2
    | some z=>
     have hv:=mt x.1 x.2
     rw[e] at hv
     obtain⟨kv,h3,h4⟩:=wv.mp (gc hv)
     exact wv.mpr ⟨kv,h3,by rw[h4]; exact fI _ _⟩
 rw[show(qs.flatMap fun x=>lkE W x.2)=(qs.map (·.2)).flatMap (lkE W) by rw[List.flatMap_map],e1]
 generalize hE:aV ks=E
 have hE0:∀ x ∈ E,0<=x.2:=fun x hx=>by
  rw[<- hE] at hx
  obtain⟨_,_,_,_,h,_⟩:=bu (n:=x.1) (e:=x.2) hx
  exact h
 clear hE e1
 induction E with
 | nil=>rfl
 | cons x E ih=>
  rw[List.flatMap_cons,<- ih fun y hy=>hE0 y (wc _ hy),List.filter_cons]
  split
  ·rw[List.flatMap_cons]
  ·rename_i h
   have:lkE W x=[]:=by
    unfold lkE cz
    have h0:=hE0 x we
    rw[Int.toNat_of_nonneg h0]
    cases e:W.mf x.1 x.2 with
    | none=>rfl
    | some z=>rw[e] at h; exact absurd rfl h
   rw[this,List.nil_append]
inductive sp_ll (vs:List V) (H:Hp) (Q:VK) (E_:XK):Prop
 | mk (x:Str) (a:Addr) (ns:List Int) (L:Kn) (_:vs=[.str x,.ref a]) (_:Has H L) (_:(a,HO.lst (ns.map V.int)) ∈ L) (_:x.length<=100) (_:dU ns) (_:∀ H',Has H' L->Q (.str (lnT x ns)) H'):sp_ll vs H Q E_
inductive sp_yl (vs:List V) (H:Hp) (Q:VK) (E_:XK):Prop
 | mk (kk nn rr sd mh gg:Addr) (ks:List Kd) (ns rs:List Int) (es:List En) (m:List (List Key×V)) (s:Sd) (on:Int) (y:YR) (L:Kn) (_:vs=[.ref kk,.ref nn,.ref rr,.ref sd,.ref mh,.ref gg,enV s.at_,.int on]) (_:Has H L) (_:(kk,HO.lst (ksV ks)) ∈ L) (_:(nn,HO.lst (ns.map V.int)) ∈ L) (_:(rr,HO.lst (rs.map V.int)) ∈ L) (_:(sd,HO.lst (s.ss.map V.int)) ∈ L) (_:(mh,HO.dT m) ∈ L) (_:(gg,HO.lst (s.rg.map V.int)) ∈ L) (_:Lw (wOf ks ns rs es m) ks ns rs m) (_:(∀ k ∈ m.map (·.1),∃ p ∈ aV ks,k=kE p.1 p.2)) (_:m.length<=80) (_:Rep (wOf ks ns rs es m) s y) (_:YFit (wOf ks ns rs es m) s (kEn ks) on) (_:Pool (wOf ks ns rs es m) s L) (_:∀ H' l,Has H' ((l,.lst ((ytL (wOf ks ns rs es m) s (kEn ks) on).map V.str))::L)->Q (.ref l) H'):sp_yl vs H Q E_
section
variable {P:Program}{w:World}{K:PySem.W.Frag}{mg:Str->Option Value}{base:Heap}{t:Adr}
theorem scLi:FnScope ["_law_word","_law_numbers"] ["_law_word","_law_numbers"] (ah kJ):={}
theorem dP (T:Txt K mg t):FnOk P w K mg base CX0 1 t.f_line t.d_line ["_law_word","_law_numbers"] sp_ll:=by
 refine T.F_line.ok scLi (fun vs H Q E h=>?_) (fun cdv A outer s H vs Q E hr h=>?_)
 ·obtain⟨_,_,_,_,rfl,_⟩:=h
  rfl
 ·obtain⟨y,a,ns,L,rfl,hH,ma,hy,hns,q⟩:=h
  have sq:∀ {H':Hp}{X:Kn},Has H' (X++L)->SqL K H' a (ns.map V.int):=fun h=>SqL.of (h.at_ (a,_) (wb _ ma))
  refine⟨_,(af (ao (bi PySem.F.plainAttrs_str PySem.F.slot_str_join PySem.F.type_str_join fX az (aa (aC fV (a9 (aa (pv 0) ae)) (jN (esc:=ah kJ) (k:=1) ["_law_number","_law_word","_law_numbers"] rfl (bW (pv 1)) (fun _ _ _ _ _=>by exact(aj (i:=0) (show List.Nodup (["_law_number","_law_word","_law_numbers"]:List Str) from by decide +kernel) rfl (Or.inl rfl))) (fun _ _ _ _ _=>by exact dL) (fun _ _ _ _ _=>by exact(bb fc (by rfl) T.z_str (by rfl) (aa (pv 0) ae))) rfl (by decide +kernel) (by decide +kernel) rfl (by decide +kernel) (by rfl) (fun _ _ h _=>h) (by decide +kernel))) ae)))),?_⟩
  refine⟨U,_,U,(sz_ 1),fun l1 hl1=>?_⟩
  have h1:=hH.alloc hl1 (.lst [.str y])
  refine⟨_,U,a,U,⟨_,sq (X:=[_]) h1⟩,fun D hD=>?_⟩
  refine⟨fun n m zs H'=>m=ns.length - n/\n<=ns.length/\zs=(ns.take n).map (fun x=>V.str (nT x))/\Has H' ((D,.lst zs)::(l1,.lst [.str y])::L),⟨_,U,Nat.zero_le _,U,h1.alloc hD _⟩,?_⟩
  rintro n m zs H2 ⟨rfl,hn,ez,h2⟩
  refine⟨h2.get 0 U,?_⟩
  have g0:=sq (X:=[_,_]) h2
  have lz:zs.length<=1000:=by rw[ez,v9,wy]; have:=hns.1; omega
  by_cases hlt:n<ns.length
  ·have hx0:(ns.map V.int)[n]?=some (.int ns[n]):=by rw[wd,wa hlt]; rfl
   refine .inr ⟨⟨_,_,g0,hx0⟩,?_⟩
   rintro x H3 ⟨rfl,hx⟩
   have e1:=hx _ g0
   rw[hx0] at e1
   cases e1
   have nb:=hns.2 ns[n] (List.getElem_mem hlt)
   refine⟨U,fj ?_⟩
   refine⟨_,U,_,U,pI nb.1 nb.2,?_⟩
   refine⟨sizeOk (by omega),h2.get 0 U,ns.length - (n+1),by omega,U,hlt,?_,h2.puti 0 U _⟩
   rw[ez,List.take_succ,wa hlt,wg]
   rfl
  ·refine .inl ⟨⟨_,g0,by rw[v9]; omega⟩,?_⟩
   have en:n=ns.length:=by omega
   rw[en,List.take_length] at ez
   refine⟨l1,D,_,_,U,U,SqL.of (h2.get 1 U),SqL.of (h2.get 0 U),Nat.le_trans (show [V.str y].length+zs.length<=1001 by simp; omega) ((sz_ 1001)),fun l hl=>?_⟩
   have h3:=h2.alloc hl (.lst ([.str y]++zs))
   have e3:[V.str y]++zs=(y::ns.map nT).map V.str:=by rw[ez]; simp
   rw[e3] at h3 ⊢
   refine⟨_,l,y::ns.map nT,U,U,SqL.of (h3.get 0 U),kT (M:=100) (j5 hy hns) ?_,q _ h3.tail.tail.tail⟩
   have:=hns.1
   rw[wl,v9,show(Str.ofString " ").length=1 from rfl]
   exact sz (by omega)
theorem scYl:FnScope ["_law_kinds_here","_law_notes","_law_rods","_law_sides","_law_mates","_law_rung","_law_at","_law_on","_law_lines","_law_bar","_law_side","_law_piece","_law_kind_here","_law_numbers","_law_end"] ["_law_kinds_here","_law_notes","_law_rods","_law_sides","_law_mates","_law_rung","_law_at","_law_on"] (ah vC):={}
theorem ok_Jh (T:Txt K mg t):FnOk P w K mg base CX0 3 t.f_Jh t.d_Jh ["_law_kinds_here","_law_notes","_law_rods","_law_sides","_law_mates","_law_rung","_law_at","_law_on"] sp_yl:=by
 refine T.F_Jh.ok scYl (fun vs H Q E h=>?_) (fun cdv A outer s H vs Q E hr h=>?_)
 ·obtain⟨_,_,_,_,_,_,_,_,_,_,_,_,_,_,_,rfl,_⟩:=h
  rfl
 ·obtain⟨kk,nn,rr,sd,mh,gg,ks,ns,rs,es,m,s,on,y,L,rfl,hH,mk,mn,mr,ms,mm,mg_,lw,mks,ml,R,f,PL,q⟩:=h
  have hu:=cN hr
  refine⟨_,(ab (aB (i:=8) scYl.nd rfl (Or.inl rfl) (a9 (aa (pcl (dP T) hr T.m_line T.F_line.kp (fD T) (@aa _ _ _ _ _ az (@aa _ _ _ _ _ (a9 (aa (pv 7) (aa (aG aA (by rfl) T.z_len (by rfl) (aa (pv 3) ae)) ae))) ae (by rfl)) (by rfl))) ae)))
   (ab (bm PassesOwn.never rfl (eB (by rfl) T.z_enumerate (aa (pv 3) ae)) (bB rfl (ap (aj (i:=9) scYl.nd rfl (Or.inl rfl)) (ap (aj (i:=10) scYl.nd rfl (Or.inl rfl)) ba)))
    (af (al (bi PySem.F.plainAttrs_list PySem.F.slot_list_append PySem.F.type_list_append aL (pv 8) (aa (pcl (dP T) hr T.m_line T.F_line.kp (fD T) (@aa _ _ _ _ _ az (@aa _ _ _ _ _ (a9 (aa (pv 9) (aa (pv 10) ae))) ae (by rfl)) (by rfl))) ae)))))
   (ab (bm PassesOwn.never rfl (eB (by rfl) T.z_enumerate (aa (pv 0) ae)) (bB rfl (ap (aj (i:=11) scYl.nd rfl (Or.inl rfl)) (ap (aj (i:=12) scYl.nd rfl (Or.inl rfl)) ba)))
    (ab (aB (i:=13) scYl.nd rfl (Or.inl rfl) (a9 (aa (pv 11) ae)))
     (ab (di (av (ai bj (pv 12) az (am _))
      (af (al (bi PySem.F.plainAttrs_list PySem.F.slot_list_append PySem.F.type_list_append aL (pv 13) (aa (aI au (pv 1) (pv 11)) ae))))
      ak))
     (ab (di (av (ai bj (pcl (i9 T) hr T.m_many T.F_many.kp (k5 T) (aa (pv 12) ae)) ag (am _))
      (af (al (bi PySem.F.plainAttrs_list PySem.F.slot_list_append PySem.F.type_list_append aL (pv 13) (aa (aI au (pv 2) (pv 11)) ae))))
      ak))
     (af (al (bi PySem.F.plainAttrs_list PySem.F.slot_list_append PySem.F.type_list_append aL (pv 8) (aa (pcl (dP T) hr T.m_line T.F_line.kp (fD T) (aa (pv 12) (aa (pv 13) ae))) ae))))))))
   (ab (bm PassesOwn.never rfl (bW (aG jw (by rfl) T.z_sorted (by rfl) (aa (bb (jx rfl) (by rfl) T.z_list (by rfl) (aa (pv 4) ae)) ae))) (aj (i:=14) scYl.nd rfl (Or.inl rfl))
    (af (di (av (ai (kN (Nat.lt_of_le_of_lt (Nat.le_add_right _ 64) hr.units)) (pv 14) (cm hu (pv 4) (pv 14)) (am _))
      (af (al (bi PySem.F.plainAttrs_list PySem.F.slot_list_append PySem.F.type_list_append aL (pv 8) (aa (pcl (dP T) hr T.m_line T.F_line.kp (fD T) (aa az (aa (aC fV (bb b7 (by rfl) T.z_list (by rfl) (aa (pv 14) ae)) (bb b7 (by rfl) T.z_list (by rfl) (aa (cm hu (pv 4) (pv 14)) ae))) ae))) ae))))
      ak))))
   (ab (di (av (ai cH (pv 6) aY (am _))
    (af (al (bi PySem.F.plainAttrs_list PySem.F.slot_list_append PySem.F.type_list_append aL (pv 8) (aa (pcl (dP T) hr T.m_line T.F_line.kp (fD T) (aa az (aa (bb b7 (by rfl) T.z_list (by rfl) (aa (pv 6) ae)) ae))) ae))))
    ak))
   (ab (di (av (ai (t0 hr.units) (pv 5) (a9 ae) (am _))
    (af (al (bi PySem.F.plainAttrs_list PySem.F.slot_list_append PySem.F.type_list_append aL (pv 8) (aa (pcl (dP T) hr T.m_line T.F_line.kp (fD T) (aa az (aa (pv 5) ae))) ae))))
    ak))
   (af (ao (pv 8))))))))),?_⟩
  have gL:∀ {H':Hp}{X:Kn}{z:Addr×HO},Has H' (X++L)->z ∈ L->H' z.1=some z.2:=fun h m=>h.at_ _ (wb _ m)
  obtain⟨W,eW⟩:∃ W,wOf ks ns rs es m=W:=⟨_,U⟩
  have kfi:∀ i:Nat,W.kf i=ks[i]?:=fun i=>by rw[<- eW]; exact iW i
  rw[eW] at lw R f PL q
  have sl:=f.sl
  have kb:=f.kl
  rw[bZ] at kb
  refine⟨_,U,_,U,sd,_,U,.inl (SqL.of (gL (X:=[]) hH ms)),(sz_ 2),fun l0 hl0=>?_⟩
  rw[v9]
  have h1:=hH.alloc hl0 (.lst [.int on,.int s.ss.length])
  generalize upd H l0 _=H1 at h1 ⊢
  refine⟨"next",l0,[on,(s.ss.length:Int)],_,U,h1,we,by decide +kernel,cF ⟨f.nx.1,by have:=f.nx.2; omega⟩ ⟨by omega,by omega⟩,fun H2 h2=>?_⟩
  have h2:=h2.tail
  refine⟨(sz_ 1),fun ll hll=>?_⟩
  obtain⟨N0,eN0⟩:∃ N0:List Str,[lnT "next" [on,(s.ss.length:Int)]]=N0:=⟨_,U⟩
  have l0:N0.length=1:=by rw[<- eN0]; rfl
  have h3:=h2.alloc hll (.lst (N0.map V.str))
  have e3:[V.str (lnT "next" [on,(s.ss.length:Int)])]=N0.map V.str:=by rw[<- eN0]; rfl
  rw[e3]
  generalize upd H2 ll _=H3 at h3 ⊢
  clear h2 h1 hH
  dsimp only[List.set]
  have rdk:∀ i,i<s.ss.length->(rdL s).take (i+1)=(rdL s).take i++[lnT "rod" [(i:Int),s.ss.getD i 0]]:=fun i hi=>by
   rw[List.take_succ]
   congr 1
   unfold rdL
   rw[wd,wa (by rw[List.length_range]; exact hi)]
   simp
  have lr:(rdL s).length=s.ss.length:=by unfold rdL; rw[v9,List.length_range]
  refine⟨_,U,sd,U,⟨_,SqL.of (gL (X:=[_]) h3 ms)⟩,eU (xs:=s.ss.map V.int) (fun i σ H'=>∃ o1 o2:Option V,σ=[some (.ref kk),some (.ref nn),some (.ref rr),some (.ref sd),some (.ref mh),some (.ref gg),some (enV s.at_),some (.int on),some (.ref ll),o1,o2,none,none,none,none]/\Has H' ((ll,HO.lst ((N0++(rdL s).take i).map V.str))::L)) ⟨_,_,U,by simpa using h3⟩ (fun i σ H' _ ⟨_,_,_,h⟩=>SqL.of (gL (X:=[_]) h ms)) ?_ ?_⟩
  ·clear h3
   rintro i x σ H4 p hx ⟨o1,o2,rfl,h4⟩ hp
   have hi:i<s.ss.length:=by have:=(List.getElem?_eq_some_iff.mp hx).1; simpa using this
   have gs:s.ss[i]?=some (s.ss.getD i 0):=by rw[List.getD_eq_getElem?_getD,wa hi]; rfl
   have ex:x=.int (s.ss.getD i 0):=by
    rw[wd,gs] at hx
    exact(Option.some.inj hx).symm
   subst ex
   have v12:=R.s12 _ (wj gs)
   have h5:=h4.alloc hp (.tup [.int i,.int (s.ss.getD i 0)])
   generalize upd H4 p _=H5 at h5 ⊢
   refine⟨p,_,U,SqT.of (h5.get 0 U),U,_,_,U,_,_,U,U,?_⟩
   have h5:=h5.tail
   dsimp only[List.set]
   refine⟨_,U,.inl ⟨U,_,SqL.of (h5.get 0 U)⟩,_,U,_,U,(sz_ 2),fun l5 hl5=>?_⟩
   have h6:=h5.alloc hl5 (.lst [.int (i:Int),.int (s.ss.getD i 0)])
   generalize upd H5 l5 _=H6 at h6 ⊢
   refine⟨"rod",l5,[(i:Int),s.ss.getD i 0],_,U,h6,we,by decide +kernel,cF ⟨by omega,by omega⟩ ⟨by omega,by omega⟩,fun H7 h7=>?_⟩
   have h7:=h7.tail
   have lt:((rdL s).take i).length<=30:=by rw[wy]; omega
   refine⟨ll,_,_,U,U,h7.get 0 U,sizeOk (by rw[v9,wf]; omega),?_⟩
   refine⟨_,_,U,?_⟩
   rw[rdk i hi,<- wm,wg (l₁:=N0++(rdL s).take i)]
   exact h7.puti 0 U _
  clear h3
  rintro σ H4 ⟨o1,o2,rfl,h4⟩
  rw[show(s.ss.map V.int).length=(rdL s).length by rw[lr]; simp,List.take_length] at h4
  obtain⟨N1,eN1⟩:∃ N1:List Str,N0++rdL s=N1:=⟨_,U⟩
  have l1:N1.length<=31:=by rw[<- eN1,wf]; omega
  rw[eN1] at h4
  refine⟨_,U,kk,U,⟨_,SqL.of (gL (X:=[_]) h4 mk)⟩,eU (xs:=ksV ks) (fun i σ H'=>∃ o3 o4 o5:Option V,σ=[some (.ref kk),some (.ref nn),some (.ref rr),some (.ref sd),some (.ref mh),some (.ref gg),some (enV s.at_),some (.int on),some (.ref ll),o1,o2,o3,o4,o5,none]/\Has H' ((ll,HO.lst ((N1++((kEn ks).map (pcL W)).take i).map V.str))::L)) ⟨_,_,_,U,by simpa using h4⟩ (fun i σ H' _ ⟨_,_,_,_,h⟩=>SqL.of (gL (X:=[_]) h mk)) ?_ ?_⟩
  ·clear h4
   rintro i x σ H4 p hx ⟨o3,o4,o5,rfl,h4⟩ hp
   have hi:i<ks.length:=by have:=(List.getElem?_eq_some_iff.mp hx).1; unfold ksV at this; simpa using this
   obtain⟨k,ekk⟩:∃ k,ks[i]=k:=⟨_,U⟩
   have gk:ks[i]?=some k:=by rw[wa hi,ekk]
   have hk:W.kf (i:Int)=some k:=by rw[kfi,gk]
   have ex:x=.str k.str:=by
    unfold ksV at hx
    rw[wd,gk] at hx
    exact(Option.some.inj hx).symm
   subst ex
   have tk:((kEn ks).map (pcL W)).take (i+1)=((kEn ks).map (pcL W)).take i++[pcL W ((i:Int),k)]:=by rw[List.take_succ,wd,eR hi,ekk]; rfl
   have lt:(((kEn ks).map (pcL W)).take i).length<=30:=by rw[wy,v9,bZ]; omega
   have h5:=h4.alloc hp (.tup [.int i,.str k.str])
   generalize upd H4 p _=H5 at h5 ⊢
   refine⟨p,_,U,SqT.of (h5.get 0 U),U,_,_,U,_,_,U,U,?_⟩
   have h5:=h5.tail
   dsimp only[List.set]
   refine⟨_,U,(sz_ 1),fun np hnp=>?_⟩
   have h6:=h5.alloc hnp (.lst ([(i:Int)].map V.int))
   have e6:[V.int (i:Int)]=[(i:Int)].map V.int:=rfl
   rw[e6]
   generalize upd H5 np _=H6 at h6 ⊢
   dsimp only[List.set]
   obtain⟨D,eD⟩:∃ D:List Str,N1++((kEn ks).map (pcL W)).take i=D:=⟨_,U⟩
   have lD:D.length<=61:=by rw[<- eD,wf]; omega
   rw[tk,<- wm,eD]
   rw[eD] at h6
   refine⟨fun σ' H'=>σ'=[some (.ref kk),some (.ref nn),some (.ref rr),some (.ref sd),some (.ref mh),some (.ref gg),some (enV s.at_),some (.int on),some (.ref ll),o1,o2,some (.int i),some (.str k.str),some (.ref np),none]/\Has H' ((np,HO.lst (([(i:Int)]++(if k=.bell then [W.nf i] else [])).map V.int))::(ll,HO.lst (D.map V.str))::L),?_,?_⟩
   ·refine⟨_,U,U,_,U,?_⟩
    rw[k.isBell]
    refine ifd (fun c=>?_) (fun c=>?_)
    ·have hn:(ns.map V.int)[i]?=some (.int (W.nf i)):=by
      rw[lw.nf i,List.getD_eq_getElem?_getD,wd,wa (by rw[lw.nl]; exact hi)]
      rfl
     refine⟨_,U,.inl ⟨U,_,SqL.of (h6.get 0 U)⟩,_,U,_,U,nn,_,_,_,U,U,SqL.of (gL (X:=[_,_]) h6 mn),aK hn,np,_,_,U,U,h6.get 0 U,sizeOk (by simp),U,?_⟩
     rw[if_pos c,wg]
     exact h6.puti 0 U _
    ·refine⟨U,?_⟩
     rw[if_neg c,wx]
     exact h6
   clear h6
   rintro σ' H6 ⟨rfl,h6⟩
   obtain⟨D1,eD1⟩:∃ D1:List Int,[(i:Int)]++(if k=.bell then [W.nf i] else [])=D1:=⟨_,U⟩
   have lD1:D1.length<=2:=by rw[<- eD1,wf]; split <;> simp
   rw[eD1] at h6
   refine⟨fun σ' H'=>σ'=[some (.ref kk),some (.ref nn),some (.ref rr),some (.ref sd),some (.ref mh),some (.ref gg),some (enV s.at_),some (.int on),some (.ref ll),o1,o2,some (.int i),some (.str k.str),some (.ref np),none]/\Has H' ((np,HO.lst ((D1++(if k.point=true then [W.rf i] else [])).map V.int))::(ll,HO.lst (D.map V.str))::L),?_,?_⟩
   ·refine⟨_,U,k,U,U,_,U,?_⟩
    rw[hJ,show decide (k.many=3)=k.point by cases k <;> rfl]
    refine if2 (fun c=>?_) (fun c=>?_)
    ·have hn:(rs.map V.int)[i]?=some (.int (W.rf i)):=by
      rw[lw.rf i,List.getD_eq_getElem?_getD,wd,wa (by rw[lw.rl]; exact hi)]
      rfl
     refine⟨_,U,.inl ⟨U,_,SqL.of (h6.get 0 U)⟩,_,U,_,U,rr,_,_,_,U,U,SqL.of (gL (X:=[_,_]) h6 mr),aK hn,np,_,_,U,U,h6.get 0 U,sizeOk (by rw[v9]; omega),U,?_⟩
     rw[if_pos c,wg]
     exact h6.puti 0 U _
    ·refine⟨U,?_⟩
     rw[if_neg (by rw[c]; exact Bool.false_ne_true),wx]
     exact h6
   clear h6
   rintro σ' H6 ⟨rfl,h6⟩
   have eD2:D1++(if k.point=true then [W.rf i] else [])=pcN W ((i:Int),k):=by
    rw[<- eD1]
    unfold pcN
    dsimp only
    by_cases c:k=.bell
    ·rw[if_pos c,if_pos c,c]; rfl
    ·rw[if_neg c,if_neg c]
     by_cases c2:k.point=true
     ·rw[if_pos c2,if_pos c2]; rfl
     ·rw[if_neg c2,if_neg c2]; rfl
   rw[eD2] at h6
   refine⟨_,U,.inl ⟨U,_,SqL.of (h6.get 1 U)⟩,_,U,_,U,k.str,np,pcN W ((i:Int),k),_,U,h6,we,Nat.le_trans k.strl (by decide),i7 f R (p:=((i:Int),k)) hk,fun H7 h7=>?_⟩
   have h7:=h7.tail
   refine⟨ll,_,_,U,U,h7.get 0 U,sizeOk (by rw[v9]; omega),?_⟩
   refine⟨_,_,_,U,?_⟩
   rw[wg]
   exact h7.puti 0 U _
  clear h4
  rintro σ H4 ⟨o3,o4,o5,rfl,h4⟩
  rw[show(ksV ks).length=((kEn ks).map (pcL W)).length by unfold ksV; rw[v9,v9,bZ],List.take_length] at h4
  obtain⟨N2,eN2⟩:∃ N2:List Str,N1++(kEn ks).map (pcL W)=N2:=⟨_,U⟩
  have l2:N2.length<=61:=by rw[<- eN2,wf,v9,bZ]; omega
  rw[eN2] at h4
  refine⟨_,U,mh,m,U,gL (X:=[_]) h4 mm,fun l1 as hl1 las nd hks=>?_⟩
  obtain⟨ps,eps⟩:∃ ps,kK as m=ps:=⟨_,U⟩
  have ev:as.map V.ref=prV ps:=by rw[<- eps,oW _ _ las]
  have ev2:ps.map (·.2)=m.map fun x=>kp x.1:=by rw[<- eps,oX _ _ las]
  have pT:∀ z ∈ ps,H4 z.1=some (.tup [.int z.2.1,.int z.2.2])/\z.2 ∈ aV ks/\∃ v,aq m (kE z.2.1 z.2.2)=some v:=fun z hz=>by
   rw[<- eps] at hz
   obtain⟨i,x,h5,h6,h7⟩:=oV hz
   have hkm:x.1 ∈ m.map (·.1):=wF (wj h6)
   obtain⟨p,hp1,hp2⟩:=mks _ hkm
   have h8:=hks i x.1 x.2 z.1 (by rw[h6]) h5
   rw[hp2,fI] at h7
   rw[h7]
   exact⟨by rw[hp2] at h8; exact h8,hp1,by rw[<- hp2]; exact ge hkm⟩
  have lps:ps.length=m.length:=by simpa using congrArg List.length ev2
  rw[ev]
  have h5:=h4.alloc hl1 (.lst (prV ps))
  have pT5:∀ x ∈ (ps.map fun z=>(z.1,HO.tup [.int z.2.1,.int z.2.2]):Kn),upd H4 l1 (.lst (prV ps)) x.1=some x.2:=fun x hx=>by
   obtain⟨z,hz,rfl⟩:=wv.mp hx
   have:=(pT z hz).1
   rw[aQ (fun e=>by dsimp only at e; rw[e,hl1] at this; cases this)]
   exact this
  obtain⟨N,h6,hN⟩:=j9 h5 _ pT5
  generalize upd H4 l1 _=H5 at h6 ⊢
  obtain⟨M,eM⟩:∃ M:Kn,N++[(l1,HO.lst (prV ps))]=M:=⟨_,U⟩
  have h6:Has H5 ((ll,HO.lst (N2.map V.str))::(M++L)):=by
   rw[<- eM]
   refine h6.perm ?_
   rw[show N++(l1,HO.lst (prV ps))::(ll,HO.lst (N2.map V.str))::L=(N++[(l1,HO.lst (prV ps))])++(ll,HO.lst (N2.map V.str))::L by simp]
   exact List.perm_middle
  have hM:∀ z ∈ ps,(z.1,HO.tup [.int z.2.1,.int z.2.2]) ∈ M++L:=fun z hz=>by
   have h7:=hN _ (wF (f:=fun z:Pr=>(z.1,HO.tup [.int z.2.1,.int z.2.2])) hz)
   rw[<- eM]
   simp only[wq,wt,wC,or_false] at h7 ⊢
   rcases h7 with h7 | h7 | h7 | h7
   ·exact .inl (.inl h7)
   ·exact .inl (.inr h7)
   ·cases h7
   ·exact .inr h7
  have ml1:(l1,HO.lst (prV ps)) ∈ M++L:=by rw[<- eM]; simp
  have mL:∀ z ∈ L,z ∈ M++L:=fun z hz=>wb _ hz
  clear h4 h5 pT5 eM hN hks
  have hndp:(ps.map (·.2)).Nodup:=by
   rw[ev2]
   rw[show(m.map fun x=>kp x.1)=(m.map (·.1)).map kp by rw[wD]; rfl]
   unfold List.Nodup at nd ⊢
   rw[List.pairwise_map]
   refine List.Pairwise.imp_of_mem ?_ nd
   intro a b ha hb hne e
   obtain⟨p,_,rfl⟩:=mks a ha
   obtain⟨p2,_,rfl⟩:=mks b hb
   rw[fI,fI] at e
   exact hne (by injection e with e1 e2; rw[e1,e2])
  have pin:∀ z ∈ ps,0<=z.2.2/\z.2.2<3:=fun z hz=>by
   obtain⟨_,k,_,_,h5,h6⟩:=bu (n:=z.2.1) (e:=z.2.2) (pT z hz).2.1
   have:=k.m3
   exact⟨h5,by omega⟩
  refine⟨l1,ps,U,SqL.of (h6.tail.at_ _ ml1),⟨fun z hz=>SqT.of (h6.tail.at_ _ (hM z hz)),fun z hz=>⟨(pin z hz).1,by have:=(pin z hz).2; omega⟩,hndp,by omega⟩,fun l2 qs hl2 hqp hqs=>?_⟩
  have h7:=(h6.alloc hl2 (.lst (prV qs))).swap2
  generalize upd H5 l2 _=H6 at h7 ⊢
  clear h6
  have lq:qs.length=m.length:=by rw[hqp.length_eq,lps]
  have lkq:∀ i,((qs.take i).flatMap fun x=>lkE W x.2).length<=i:=fun i=>by
   induction i with
   | zero=>simp
   | succ i ih=>
    rw[List.take_succ,List.flatMap_append,wf]
    have:∀ o:Option Pr,(o.toList.flatMap fun x=>lkE W x.2).length<=1:=fun o=>by
     cases o with
     | none=>simp
     | some x=>
      simp only[Option.toList,List.flatMap_cons,List.flatMap_nil,wx]
      unfold lkE cz
      rw[v9]
      split
      ·split <;> simp
      ·simp
    have:=this qs[i]?
    omega
  refine⟨l2,U,⟨_,SqL.of (h7.get 1 U)⟩,cA (xs:=prV qs) (fun i σ H'=>∃ o6:Option V,σ=[some (.ref kk),some (.ref nn),some (.ref rr),some (.ref sd),some (.ref mh),some (.ref gg),some (enV s.at_),some (.int on),some (.ref ll),o1,o2,o3,o4,o5,o6]/\Has H' ((ll,HO.lst ((N2++(qs.take i).flatMap fun x=>lkE W x.2).map V.str))::(l2,.lst (prV qs))::(M++L))) ⟨_,U,by simpa using h7⟩ (fun i σ H' _ ⟨_,_,h⟩=>SqL.of (h.get 1 U)) ?_ ?_⟩
  ·clear h7
   rintro i x σ H7 hx ⟨o6,rfl,h7⟩
   unfold prV at hx
   rw[wd] at hx
   obtain⟨z,hz,rfl⟩:=Option.map_eq_some_iff.mp hx
   have iq:=(List.getElem?_eq_some_iff.mp hz).1
   have zm:=hqp.mem_iff.mp (wj hz)
   obtain⟨_,zE,v,hv⟩:=pT z zm
   obtain⟨z',hz'⟩:∃ z',W.mf z.2.1 z.2.2=some z':=by
    have:=lw.mt z.2.1 z.2.2
    rw[hv] at this
    cases e:W.mf z.2.1 z.2.2 with
    | none=>rw[e] at this; cases this
    | some z'=>exact⟨z',U⟩
   have hv':aq m (kE z.2.1 z.2.2)=some (.ref z'.1):=by rw[lw.mt,hz']; rfl
   obtain⟨jz,hjz⟩:=PL.m _ _ z' hz'
   have mz':=mL _ (wj hjz)
   have oz:=dO f (R.mo _ _ _ hz')
   have z0:=(pin z zm).1
   have z3:=(pin z zm).2
   obtain⟨k0,hk0,_⟩:∃ k,W.kf z.2.1=some k/\True:=by
    obtain⟨j,k,h8,h9,_⟩:=bu (n:=z.2.1) (e:=z.2.2) zE
    exact⟨k,by rw[h8,kfi]; exact h9,trivial⟩
   have kn:=f.k _ _ hk0
   have tk:((qs.take (i+1)).flatMap fun x=>lkE W x.2)=((qs.take i).flatMap fun x=>lkE W x.2)++lkE W z.2:=by rw[List.take_succ,hz,List.flatMap_append]; simp
   have lt:=lkq i
   obtain⟨D,eD⟩:∃ D:List Str,(N2++(qs.take i).flatMap fun x=>lkE W x.2)=D:=⟨_,U⟩
   have lD:D.length<=200:=by rw[<- eD,wf]; omega
   rw[tk,<- wm,eD]
   rw[eD] at h7
   have gM:∀ {H':Hp}{X:Kn}{u:Addr×HO},Has H' (X++(M++L))->u ∈ M++L->H' u.1=some u.2:=fun h m=>h.at_ _ (wb _ m)
   have dg:∀ {H':Hp}{X:Kn},Has H' (X++(M++L))->DGet H' mh (.ref z.1) (some (.ref z'.1)):=fun h=>by
    rw[<- hv']
    exact DGet.t (k:=kE z.2.1 z.2.2) (gM h (mL _ mm)) (gM h (hM z zm))
   dsimp only[List.set]
   refine⟨fun σ' H'=>σ'=[some (.ref kk),some (.ref nn),some (.ref rr),some (.ref sd),some (.ref mh),some (.ref gg),some (enV s.at_),some (.int on),some (.ref ll),o1,o2,o3,o4,o5,some (.ref z.1)]/\Has H' ((ll,HO.lst ((D++lkE W z.2).map V.str))::(l2,.lst (prV qs))::(M++L)),?_,?_⟩
   ·refine⟨_,U,_,U,_,U,mh,_,U,dg (X:=[_,_]) h7,z.1,z'.1,[z.2.1,z.2.2],[z'.2.1,z'.2.2],U,U,SqT.of (gM (X:=[_,_]) h7 (hM z zm)),SqT.of (gM (X:=[_,_]) h7 mz'),_,U,?_⟩
    have elk:lkE W z.2=if HT.lexLt [z.2.1,z.2.2] [z'.2.1,z'.2.2]=true then [lnT "link" [z.2.1,z.2.2,z'.2.1,z'.2.2]] else []:=by
     unfold lkE cz
     rw[Int.toNat_of_nonneg z0,hz']
     dsimp only
     split <;> rfl
    cases hlt:HT.lexLt [z.2.1,z.2.2] [z'.2.1,z'.2.2] with
    | false=>
     refine bz ⟨U,?_⟩
     rw[elk,hlt,if_neg (by simp),wx]
     exact h7
    | true=>
     refine da ?_
     rw[elk,hlt,if_pos rfl]
     refine⟨_,U,.inl ⟨U,_,SqL.of (h7.get 0 U)⟩,_,U,z.1,_,U,.inr (SqT.of (gM (X:=[_,_]) h7 (hM z zm))),fun la hla=>?_⟩
     have h8:=h7.alloc hla (.lst [.int z.2.1,.int z.2.2])
     generalize upd H7 la _=H8 at h8 ⊢
     refine⟨_,U,_,U,mh,_,U,dg (X:=[_,_,_]) h8,z'.1,_,U,.inr (SqT.of (gM (X:=[_,_,_]) h8 mz')),fun lb hlb=>?_⟩
     have h9:=h8.alloc hlb (.lst [.int z'.2.1,.int z'.2.2])
     generalize upd H8 lb _=H9 at h9 ⊢
     refine⟨la,lb,_,_,U,U,SqL.of (h9.get 1 U),SqL.of (h9.get 0 U),(sz_ 4),fun lc hlc=>?_⟩
     have h10:=h9.alloc hlc (.lst ([z.2.1,z.2.2,z'.2.1,z'.2.2].map V.int))
     refine⟨"link",lc,[z.2.1,z.2.2,z'.2.1,z'.2.2],_,U,h10,we,by decide +kernel,lW ⟨kn.1,by omega⟩ ⟨z0,by omega⟩ oz.1 oz.2,fun H11 h11=>?_⟩
     have h11:=h11.tail.tail.tail
     refine⟨ll,_,_,U,U,h11.get 0 U,sizeOk (by rw[v9]; omega),U,?_⟩
     rw[wg]
     exact h11.puti 0 U _
   ·rintro σ' H8 ⟨rfl,h8⟩
    exact⟨_,U,h8⟩
  clear h7
  rintro σ H7 ⟨o6,rfl,h7⟩
  rw[show(prV qs).length=qs.length by unfold prV; rw[v9],List.take_length,ur lw.mt mks ev2 hqp hqs] at h7
  have h7:Has H7 ((ll,HO.lst ((N2++lkL W (kEn ks)).map V.str))::L):=h7.sub (.cons_cons _ (.cons _ (List.sublist_append_right _ _)))
  have lkl:=eO W (kEn ks)
  rw[bZ] at lkl
  obtain⟨N3,eN3⟩:∃ N3:List Str,N2++lkL W (kEn ks)=N3:=⟨_,U⟩
  have l3:N3.length<=151:=by rw[<- eN3,wf]; omega
  rw[eN3] at h7
  refine⟨fun σ' H'=>σ'=[some (.ref kk),some (.ref nn),some (.ref rr),some (.ref sd),some (.ref mh),some (.ref gg),some (enV s.at_),some (.int on),some (.ref ll),o1,o2,o3,o4,o5,o6]/\Has H' ((ll,HO.lst ((N3++enL s).map V.str))::L),?_,?_⟩
  ·refine⟨_,U,U,_,U,?_⟩
   cases ha:s.at_ with
   | none=>
    refine ifF (by rfl) ⟨U,?_⟩
    rw[show enL s=[] by unfold enL; rw[ha],wx]
    exact h7
   | some z=>
    refine ifT (by rfl) ?_
    obtain⟨jz,hz⟩:=PL.e z ha
    have oz:=dO f (R.eo _ ha)
    refine⟨_,U,.inl ⟨U,_,SqL.of (h7.get 0 U)⟩,_,U,z.1,_,U,.inr (SqT.of (gL (X:=[_]) h7 (wj hz))),fun la hla=>?_⟩
    have h8:=h7.alloc hla (.lst ([z.2.1,z.2.2].map V.int))
    refine⟨"engine",la,[z.2.1,z.2.2],_,U,h8,we,by decide +kernel,cF oz.1 oz.2,fun H9 h9=>?_⟩
    have h9:=h9.tail
    refine⟨ll,_,_,U,U,h9.get 0 U,sizeOk (by rw[v9]; omega),U,?_⟩
    rw[show enL s=[lnT "engine" [z.2.1,z.2.2]] by unfold enL; rw[ha],wg]
    exact h9.puti 0 U _
  clear h7
  rintro σ' H7 ⟨rfl,h7⟩
  obtain⟨N4,eN4⟩:∃ N4:List Str,N3++enL s=N4:=⟨_,U⟩
  have l4:N4.length<=152:=by
   have:(enL s).length<=1:=by unfold enL; split <;> simp
   rw[<- eN4,wf]; omega
  rw[eN4] at h7
  refine⟨fun σ' H'=>σ'=[some (.ref kk),some (.ref nn),some (.ref rr),some (.ref sd),some (.ref mh),some (.ref gg),some (enV s.at_),some (.int on),some (.ref ll),o1,o2,o3,o4,o5,o6]/\Has H' ((ll,HO.lst ((N4++rgL s).map V.str))::L),?_,?_⟩
  ·refine⟨_,U,(sz_ 0),fun le hle=>?_⟩
   have h8:=h7.alloc hle (.lst (([]:List Int).map V.int))
   have g8:=gL (X:=[_,_]) h8 mg_
   refine⟨gg,le,s.rg,[],U,U,SqL.of g8,SqL.of (h8.get 0 U),_,U,?_⟩
   by_cases hg:s.rg=[]
   ·refine ifF (by rw[hg]; rfl) ⟨U,?_⟩
    rw[show rgL s=[] by unfold rgL; rw[if_pos hg],wx]
    exact h8.tail
   ·refine ifT (by simp[hg]) ?_
    have h9:=h8.tail
    refine⟨_,U,.inl ⟨U,_,SqL.of (h9.get 0 U)⟩,_,U,"rung",gg,s.rg,_,U,h9,wc _ mg_,by decide +kernel,iZ f,fun H10 h10=>?_⟩
    refine⟨ll,_,_,U,U,h10.get 0 U,sizeOk (by rw[v9]; omega),U,?_⟩
    rw[show rgL s=[lnT "rung" s.rg] by unfold rgL; rw[if_neg hg],wg]
    exact h10.puti 0 U _
  clear h7
  rintro σ' H7 ⟨rfl,h7⟩
  have eA:N4++rgL s=ytL W s (kEn ks) on:=by
   rw[<- eN4,<- eN3,<- eN2,<- eN1,<- eN0]
   unfold ytL
   simp
  rw[eA] at h7
  exact⟨_,U,q _ ll h7⟩
end
theorem SetOk.pool {y:YR}{ns rs ss:List Int}{z:En} (S:SetOk y ks ns rs ss es m z) (hs:s.at_=some z) (h:∀ z ∈ es,∃ j:Nat,L[j]?=some (z.1,HO.tup [.int z.2.1,.int z.2.2])):Pool (wOf ks ns rs es m) s L :=
 ⟨fun n e u hu=>h u (j3 hu),fun u hu=>by rw[hs] at hu; cases hu; exact h z S.zi⟩
theorem bv {Z:Kn}{x:Addr×HO} (h:x ∈ Z):∃ j:Nat,Z[j]?=some x:=List.mem_iff_getElem?.mp h
theorem rm {z:En} (h:z ∈ es):(z.1,HO.tup [.int z.2.1,.int z.2.2]) ∈ esK es:=wv.mpr ⟨z,h,U⟩
theorem iP {κ:Type} [DecidableEq κ] {kvs:List (κ×V)}{k:κ}{v:V} (h:aq kvs k=none):aD (aO kvs k v) k=kvs:=by
 rw[cM _ h]
 have:=bO h
 unfold aD at this ⊢
 rw[List.filter_append,this]
 simp
theorem ka (w:Wd) (hb:∀ n k,w.kf n=some k->k=.bell->0<=w.nf n/\w.nf n<=9999):∀ (n:Nat) (s:Sd),(∀ x ∈ s.rg,0<=x/\x<=9999)->∀ x ∈ (w.go n s).rg,0<=x/\x<=9999
 | 0,s,h=>h
 | n+1,s,h=>by
  cases e:w.nx s with
  | none=>rw[cu w e]; exact h
  | some s'=>
   rw[bH w e]
   refine ka w hb n s' ?_
   obtain⟨z,k,o,z',_,hk,_,_,rfl⟩:=eK e
   intro x hx
   unfold aM at hx
   dsimp only at hx
   split at hx
   ·rename_i hbell
    rcases wq.mp hx with hx | hx
    ·exact h x hx
    ·cases wo.mp hx
     exact hb _ _ hk hbell
   ·exact h x hx
theorem jj (w:Wd):∀ (n:Nat) (s:Sd),(w.hist n s).length<=n
 | 0,s=>Nat.le_refl 0
 | n+1,s=>by
  cases e:w.nx s with
  | none=>rw[show w.hist (n+1) s=[] by show(match w.nx s with | none=>[] | some s'=>s::w.hist n s')=[]; rw[e]]; exact Nat.zero_le _
  | some s'=>
   rw[show w.hist (n+1) s=s::w.hist n s' by show(match w.nx s with | none=>[] | some s'=>s::w.hist n s')=_; rw[e],wl]
   exact Nat.succ_le_succ (jj w n s')
theorem Rep.offed {y:YR} (R:Rep W s y):Rep W { s with at_:=none } { y with eng:=.non,trail:=[] }:=⟨R.kd,R.no,R.ro,R.rr,R.sd,R.s12,R.mt,R.mo,U,fun z h=>(by cases h),R.rg⟩
theorem Rep.nexted {y:YR} (R:Rep W s y) (n:Int):Rep W s { y with next:=n,trail:=[] }:=⟨R.kd,R.no,R.ro,R.rr,R.sd,R.s12,R.mt,R.mo,R.en,R.eo,R.rg⟩
theorem Pool.offed (p:Pool W s L):Pool W { s with at_:=none } L:=⟨p.m,fun z h=>(by cases h)⟩
structure TsOk (y:YR) (ks:List Kd) (ns rs:List Int) (es:List En) (m:List (List Key×V)) (s:Sd) (on:Int) (kk nn rr sd mh gg:Addr) (L:Kn):Prop where
 lw:Lw (wOf ks ns rs es m) ks ns rs m
 sy:Wsym (cI es m)
 on1:(ks.length:Int)<=on
 mks:∀ k ∈ m.map (·.1),∃ p ∈ aV ks,k=kE p.1 p.2
 ml:m.length<=80
 R:Rep (wOf ks ns rs es m) s y
 f:YFit (wOf ks ns rs es m) s (kEn ks) on
 nx:y.next=on
 P:Pool (wOf ks ns rs es m) s L
 kd:y.kinds=dS ks
 sm:cC y
 xk:(kk,HO.lst (ksV ks)) ∈ L
 xn:(nn,HO.lst (ns.map V.int)) ∈ L
 xr:(rr,HO.lst (rs.map V.int)) ∈ L
 xs:(sd,HO.lst (s.ss.map V.int)) ∈ L
 xm:(mh,HO.dT m) ∈ L
 xg:(gg,HO.lst (s.rg.map V.int)) ∈ L
 sp:∃ R:Kn,L.Perm ((sd,HO.lst (s.ss.map V.int))::(gg,HO.lst (s.rg.map V.int))::R)/\(kk,HO.lst (ksV ks)) ∈ R/\(nn,HO.lst (ns.map V.int)) ∈ R/\(rr,HO.lst (rs.map V.int)) ∈ R/\(mh,HO.dT m) ∈ R
inductive sp_ts (C:Addr) (vs:List V) (H:Hp) (Q:VK) (E_:XK):Prop
 | mk (d:Addr) (ds:List Int) (_:vs=[.ref d,.int 1]) (_:Has H [(d,.lst (ds.map V.int))]) (_:200<=ds.length) (_:∀ (H':Hp) (tp:Addr) (A:YA) (y:YR) (ks:List Kd) (ns rs:List Int) (es:List En) (m:List (List Key×V)) (s:Sd) (on:Int) (kk nn rr sd mh gg:Addr) (L:Kn),TsOk y ks ns rs es m s on kk nn rr sd mh gg L->(d,HO.lst (ds.map V.int)) ∈ L->Has H' ((tp,.tup [.ref A.p,.ref kk,.ref nn,.ref rr,.ref sd,.ref mh,.ref gg,enV s.at_,.int on])::(yL C A y++L))->Q (.ref tp) H'):sp_ts C vs H Q E_
inductive tss1Inv (C_:Addr) (d:Addr) (kk:Addr) (nn:Addr) (rr:Addr) (sd:Addr) (mh:Addr) (z:En) (ks:List Kd) (y:YR) (m:List (List Key×V)) (W:Wd) (ss:List Int) (Z:Kn) (i:Nat) (σ':St) (H':Hp):Prop
 | mk (A:YA) (y1:YR) (o1:Option V) (_:σ'=[some (.ref d),some (.int 1),some (.ref A.p),some (.ref kk),some (.ref nn),some (.ref rr),some (.ref sd),some (.ref mh),some (.ref z.1),o1,none,none,none]) (_:y1.next=((ks.length+i:Nat):Int)) (_:y1.kinds=dS ks) (_:y1.notes=y.notes) (_:y1.rods=y.rods) (_:y1.mates=m) (_:y1.trail=[]) (_:y1.rung=[]) (_:Rep W ⟨ss,some z,[]⟩ y1) (_:Has H' (yL C_ A y1++((sd,.lst (ss.map V.int))::Z))):tss1Inv C_ d kk nn rr sd mh z ks y m W ss Z i σ' H'
inductive tss2Inv (C_:Addr) (d:Addr) (kk:Addr) (nn:Addr) (rr:Addr) (sd:Addr) (mh:Addr) (gg:Addr) (z:En) (o1:Option V) (y2:YR) (W:Wd) (s1:Sd) (L8:Kn) (σ':St) (H':Hp):Prop
 | mk (A':YA) (y':YR) (s':Sd) (_:σ'=[some (.ref d),some (.int 1),some (.ref A'.p),some (.ref kk),some (.ref nn),some (.ref rr),some (.ref sd),some (.ref mh),some (.ref z.1),o1,some (.ref gg),some (enV s'.at_),none]) (_:s'.ss=s1.ss) (_:s'.rg=s1.rg) (_:Rep W s' y') (_:Pool W s' L8) (_:y'.next=y2.next) (_:y'.kinds=y2.kinds) (_:y'.notes=y2.notes) (_:y'.rods=y2.rods) (_:y'.mates=y2.mates) (_:y'.trail.length<=20) (_:Has H' (yL C_ A' y'++L8)):tss2Inv C_ d kk nn rr sd mh gg z o1 y2 W s1 L8 σ' H'
section
variable {P:Program}{w:World}{K:PySem.W.Frag}{mg:Str->Option Value}{base:Heap}{t:Adr}
theorem scTs:FnScope ["_law_d","_law_at","_law_yard","_law_kinds_here","_law_notes","_law_rods","_law_sides","_law_mates","_law_start","_law_turn","_law_rung","_law_here","_law_on"] ["_law_d","_law_at"] (ah sG):={}
theorem ul (T:Txt K mg t):FnOk P w K mg base CX0 8 t.f_J21 t.d_J21 ["_law_d","_law_at"] (sp_ts t.c_Yard):=by
 obtain⟨_,hd_J61_2,hb_J61_2⟩:=ig T
 refine T.F_J21.ok scTs (fun vs H Q E h=>?_) (fun cdv A outer s H vs Q E hr h=>?_)
 ·obtain⟨_,_,rfl,_⟩:=h
  rfl
 ·obtain⟨d,ds,rfl,h1,hds,q⟩:=h
  refine⟨_,(ab (bA (pcl (uc T) hr T.m_set T.F_set.kp (b_set T) (aa (pv 0) (aa (aC bh (pv 1) ag) ae))) (bB rfl (ap (aj (i:=2) scTs.nd rfl (Or.inl rfl)) (ap (aj (i:=3) scTs.nd rfl (Or.inl rfl)) (ap (aj (i:=4) scTs.nd rfl (Or.inl rfl)) (ap (aj (i:=5) scTs.nd rfl (Or.inl rfl)) (ap (aj (i:=6) scTs.nd rfl (Or.inl rfl)) (ap (aj (i:=7) scTs.nd rfl (Or.inl rfl)) (ap (aj (i:=8) scTs.nd rfl (Or.inl rfl)) ba)))))))))
   (ab (bm PassesOwn.never rfl (bP (by rfl) T.z_range (aa (aC bq (aI au (pv 0) (pv 1)) ag) ae)) (aj (i:=9) scTs.nd rfl (Or.inl rfl))
    (af (al (aF (pv 2) T.cl_Yard T.M_Jv (ok_Jv T) hr (b_Jv T) .nil aH (aa (aF (pv 2) T.cl_Yard T.M_J61 (dD T) hr hb_J61_2 hd_J61_2 aH (aa az ae)) ae)))))
   (ab (aB (i:=10) scTs.nd rfl (Or.inl rfl) (a9 ae))
   (ab (aB (i:=11) scTs.nd rfl (Or.inl rfl) (aI cE (pcl (lO T) hr T.m_walk T.F_walk.kp (qd T) (aa (pv 3) (aa (pv 4) (aa (pv 5) (aa (pv 6) (aa (pv 7) (aa (pv 10) (aa (pv 8) (aa (aC bq (aI au (pv 0) (aC bh (pv 1) ag) (fun _ _=>rfl)) ag) ae))))))))) ag))
   (ab (al (pcl (pd T) hr T.m_run T.F_run.kp (sV T) (aa (pv 2) (aa (aC bq (aI au (pv 0) (aC bh (pv 1) ag)) ag) ae))))
   (ab (di (av (ai bj (aC bq (aI au (pv 0) (aC bh (pv 1) ag)) ag) ag (am _))
    (ab (al (aT (pv 2) T.cl_Yard T.M_J81 (ui T) hr (b_J81 T) .nil aH))
     (af (aB (i:=11) scTs.nd rfl (Or.inl rfl) aY)))
    ak))
   (ab (aB (i:=12) scTs.nd rfl (Or.inl rfl) (aC bh (aG aA (by rfl) T.z_len (by rfl) (aa (pv 3) ae)) (aC bq (aI au (pv 0) (pv 1)) ag)))
   (af (ao (aR (aa (pv 2) (aa (pv 3) (aa (pv 4) (aa (pv 5) (aa (pv 6) (aa (pv 7) (aa (pv 10) (aa (pv 11) (aa (pv 12) ae))))))))))))))))))),?_⟩
  rw[show L2.start ["_law_d","_law_at","_law_yard","_law_kinds_here","_law_notes","_law_rods","_law_sides","_law_mates","_law_start","_law_turn","_law_rung","_law_here","_law_on"] [V.ref d,V.int 1]=([some (V.ref d),some (V.int 1),none,none,none,none,none,none,none,none,none,none,none]:St) from rfl]
  refine⟨_,U,_,U,_,_,U,U,d,ds,4,_,0,U,h1,U,by omega,by omega,fun H2 tp A1 y ks ns rs ss es m z sd mh rr nn kk S h2=>?_⟩
  refine⟨tp,_,U,SqT.of (h2.get 0 U),U,_,_,U,_,_,U,_,_,U,_,_,U,_,_,U,_,_,U,_,_,U,U,?_⟩
  replace h2:=h2.tail
  dsimp only[List.set]
  obtain⟨Z,hZ,xm,xr,xn,xk,xd,zp⟩:∃ Z:Kn,[(mh,HO.dT m),(rr,.lst (rs.map V.int)),(nn,.lst (ns.map V.int)),(kk,.lst (ksV ks))]++(esK es++[(d,.lst (ds.map V.int))])=Z /\
    (mh,HO.dT m) ∈ Z/\(rr,HO.lst (rs.map V.int)) ∈ Z/\(nn,HO.lst (ns.map V.int)) ∈ Z/\(kk,HO.lst (ksV ks)) ∈ Z/\(d,HO.lst (ds.map V.int)) ∈ Z/\∀ z ∈ es,(z.1,HO.tup [.int z.2.1,.int z.2.2]) ∈ Z :=
   ⟨_,U,by simp,by simp,by simp,by simp,by simp,fun z hz=>wb _ (wA _ (rm hz))⟩
  replace h2:Has H2 (yL t.c_Yard A1 y++((sd,.lst (ss.map V.int))::Z)):=by rw[<- hZ]; exact h2
  clear hZ h1
  have gd:∀ {H:Hp}{X:Kn},Has H (X++Z)->SqL K H d (ds.map V.int):=fun {H X} h=>SqL.of (h.at_ _ (wb _ xd))
  have k24:=S.k24
  have k1:=S.k1
  have sl:=S.sl
  have zin:=S.ei z S.zi
  obtain⟨zi,zk,ze1,ze2,ze3,ze4⟩:=bu (n:=z.2.1) (e:=z.2.2) zin
  have zl:=(List.getElem?_eq_some_iff.mp ze2).1
  have nlen:=S.nlen
  have rlen:=S.rlen
  have mlen:=S.ml
  obtain⟨x0,ex0⟩:∃ x0,ds.getD (1:Int).toNat 0=x0:=⟨_,U⟩
  have a0':atI (ds.map V.int) (1:Int)=some (.int x0):=by rw[<- ex0]; exact atD (by omega) (by omega)
  obtain⟨g,hg⟩:∃ g:Nat,x0 % 3=g:=⟨(x0 % 3).toNat,by omega⟩
  have g3:g<3:=by omega
  obtain⟨W,hW⟩:∃ W,wOf ks ns rs es m=W:=⟨_,U⟩
  have mnone:∀ (n:Nat) (e:Int),ks.length<=n->aq m (kE n e)=none:=fun n e hn=>by
   cases hv:aq m (kE n e) with
   | none=>rfl
   | some v=>
    obtain⟨p,hp,e⟩:=S.mks _ (gc hv)
    obtain⟨i,k,e1,e2,_⟩:=bu (n:=p.1) (e:=p.2) hp
    have il:=(List.getElem?_eq_some_iff.mp e2).1
    injection e with e3 _
    injection e3 with e3
    omega
  refine⟨_,U,_,U,d,_,_,_,U,U,gd (X:=yL t.c_Yard A1 y++[_]) (by rw[wm]; exact h2),a0',_,_,U,U,(show(0:Int)<3 by decide),?_⟩
  refine⟨x0 % 3,U,by omega,by omega,bF (tss1Inv t.c_Yard d kk nn rr sd mh z ks y m W ss Z)
   ⟨A1,y,_,U,S.nx,S.kd,U,U,S.mt,S.tl,S.rg,by rw[<- hW]; exact S.R,h2⟩ ?_ ?_⟩
  ·clear h2
   rintro i σ H3 hi ⟨A,y1,o1,rfl,nx,kd,no,ro,mt,tl,rg,R,h3⟩
   have hi:i<g:=by have:i<(x0 % 3).toNat:=hi; omega
   have sm:cC y1:=⟨by rw[kd,dF]; omega,by rw[no]; omega,by rw[ro]; omega,by rw[R.sd,v9]; show ss.length<=10000; omega,by rw[mt]; omega,by rw[rg]; decide,by rw[tl]; decide⟩
   have vk:aq y1.kinds (Sum.inl y1.next)=none:=by rw[kd,nx,cX,List.getElem?_eq_none (by omega)]; rfl
   have vn:aq y1.notes (Sum.inl y1.next)=none:=by rw[no,nx]; exact(S.fr _ (by omega)).1
   have vr:aq y1.rods (Sum.inl y1.next)=none:=by rw[ro,nx]; exact(S.fr _ (by omega)).2
   dsimp only[List.set]
   refine⟨_,U,A.p,A.dx,_,U,h3.get 1 U,fl_m6 _ _ _,?_⟩
   refine⟨_,U,A.p,A.dx,_,U,h3.get 1 U,(bC _ _ _).1,A,y1,_,.bell,0,.non,U,h3,sm,(fun _=>⟨by decide,by decide⟩),(fun h=>nomatch h),fun H4 q4 h4=>?_⟩
   refine⟨{ A with tr:=q4 },du y1 .bell 0 .non,_,y1.next,.bell,U,h4,(by show aq (aO y1.kinds (Sum.inl y1.next) (.str Kd.bell.str)) _=_; rw[aN,if_pos rfl]),(fun e _ _=>by show aq y1.mates _=none; rw[mt,nx]; exact mnone _ _ (by omega)),.inr ⟨z.1,z.2.1,z.2.2,R.en,.tail _ (zp z S.zi),by rw[nx,ze1]; omega⟩,fun H5 q5 h5=>?_⟩
   have ey:({ du y1 .bell 0 .non with kinds:=aD (du y1 .bell 0 .non).kinds (Sum.inl y1.next),notes:=aD (du y1 .bell 0 .non).notes (Sum.inl y1.next),rods:=aD (du y1 .bell 0 .non).rods (Sum.inl y1.next),trail:=[] }:YR)={ y1 with next:=y1.next+1,trail:=[] }:=by
    have e1:aD (du y1 .bell 0 .non).kinds (Sum.inl y1.next)=y1.kinds:=iP vk
    have e2:aD (du y1 .bell 0 .non).notes (Sum.inl y1.next)=y1.notes:=iP vn
    have e3:aD (du y1 .bell 0 .non).rods (Sum.inl y1.next)=y1.rods:=bO vr
    rw[e1,e2,e3]
    rfl
   rw[ey] at h5
   exact⟨{ A with tr:=q5 },{ y1 with next:=y1.next+1,trail:=[] },_,U,by show y1.next+1=_; rw[nx]; rfl,kd,no,ro,mt,U,rg,R.nexted (y1.next+1),h5⟩
  clear h2
  rintro σ H3 ⟨A,y1,o1,rfl,nx,kd,no,ro,mt,tl,rg,R,h3⟩
  rw[show(x0 % 3).toNat=g by omega] at nx
  obtain⟨s0,hs0⟩:∃ s0:Sd,(⟨ss,some z,[]⟩:Sd)=s0:=⟨_,U⟩
  have a0:s0.at_=some z:=by rw[<- hs0]
  have r0:s0.rg=[]:=by rw[<- hs0]
  have e0:ss=s0.ss:=by rw[<- hs0]
  rw[hs0] at R
  rw[e0] at h3 sl
  clear hs0 e0
  have p0:Pool W s0 Z:=by rw[<- hW]; exact S.pool a0 (fun u hu=>bv (zp u hu))
  have lw:Lw W ks ns rs m:=by rw[<- hW]; exact S.lw
  obtain⟨n1,hn1,n1b⟩:∃ n1:Nat,ds.getD (1+1:Int).toNat 0 % 20=n1/\n1<20:=⟨(ds.getD (1+1:Int).toNat 0 % 20).toNat,by omega,by omega⟩
  dsimp only[List.set]
  refine⟨(sz_ 0),fun gg hgg=>?_⟩
  have h5:Has (upd H3 gg (.lst [])) ((sd,.lst (s0.ss.map V.int))::(gg,.lst (s0.rg.map V.int))::(yL t.c_Yard A y1++Z)):=by
   rw[r0]; exact(Has.perm (h3.alloc hgg (.lst [])) (List.Perm.cons _ List.perm_middle)).swap2
  generalize upd H3 gg _=H4 at h5 ⊢
  clear h3 hgg
  dsimp only[List.set]
  obtain⟨jk,hjk⟩:=bv (show(kk,HO.lst (ksV ks)) ∈ yL t.c_Yard A y1++Z from wb _ xk)
  obtain⟨jn,hjn⟩:=bv (show(nn,HO.lst (ns.map V.int)) ∈ yL t.c_Yard A y1++Z from wb _ xn)
  obtain⟨jr,hjr⟩:=bv (show(rr,HO.lst (rs.map V.int)) ∈ yL t.c_Yard A y1++Z from wb _ xr)
  obtain⟨jm,hjm⟩:=bv (show(mh,HO.dT m) ∈ yL t.c_Yard A y1++Z from wb _ xm)
  refine⟨_,U,_,U,_,U,_,U,_,U,_,U,_,U,_,U,_,U,_,_,U,U,d,_,_,_,U,U,gd (X:=_::_::yL t.c_Yard A y1) h5,atD (by omega) (by omega),_,_,U,U,(show(0:Int)<20 by decide),?_⟩
  dsimp only
  rw[hn1]
  refine⟨sd,gg,kk,nn,rr,mh,_,W,s0,n1,ks,ns,rs,m,jk,jn,jr,jm,(by rw[a0]; rfl),h5,lw,R.okw,p0.app _,hjk,hjn,hjr,hjm,(by rw[r0]; show(0:Int)+n1<=900000; omega),fun H6 tp2 h6 O1 _ g6=>?_⟩
  rw[Int.toNat_natCast] at h6 O1 g6
  refine⟨tp2,_,_,_,U,U,SqT.of (h6.get 0 U),aK (j:=0) rfl,?_⟩
  clear hjk hjn hjr hjm jk jn jr jm h5
  dsimp only[List.set]
  have h7:=Has.comm (X:=[_,_]) (Y:=yL t.c_Yard A y1) (R:=Z) h6.tail
  clear h6
  refine⟨_,U,_,U,_,U,_,_,U,U,d,_,_,_,U,U,gd (X:=yL t.c_Yard A y1++[_,_]) (by rw[wm]; exact h7),atD (by omega) (by omega),_,_,U,U,(show(0:Int)<20 by decide),?_⟩
  dsimp only
  rw[hn1]
  have rg1:y1.rung.length=0:=by rw[rg]; rfl
  refine⟨A,y1,_,W,s0,[],n1,U,h7,R,p0.app [_,_],tl,(by show((0:Nat):Int)+n1<=900000; omega),(by rw[rg1]; omega),(by show 0<=900000; omega),(by rw[rg1]; omega),fun H8 y2 ts h8 R8 t8 hs8 nx8 kd8 no8 ro8 mt8 P8=>?_⟩
  rw[Int.toNat_natCast] at R8 hs8 P8
  rw[List.nil_append] at h8 t8
  clear h7
  obtain⟨s1,es1⟩:∃ s1,W.go n1 s0=s1:=⟨_,U⟩
  have gl1:=kX W n1 s0
  have hb1:=jj W n1 s0
  have lts:ts.length<=20:=by
   have:=congrArg List.length hs8
   rw[v9] at this
   omega
  have bell:∀ n k,W.kf n=some k->k=.bell->0<=W.nf n/\W.nf n<=9999:=fun n k hk _=>by
   obtain⟨i,e1,e2⟩:=lw.kf n k hk
   rw[e1,lw.nf i,List.getD_eq_getElem?_getD,wa (by rw[lw.nl]; exact(List.getElem?_eq_some_iff.mp e2).1)]
   exact S.nr _ (List.getElem_mem _)
  have nt1:=ka W bell n1 s0 (by rw[r0]; intro x hx; cases hx)
  rw[r0] at g6
  rw[es1] at R8 P8 h8 gl1 nt1 g6 ⊢
  obtain⟨L8,eL8⟩:∃ L8:Kn,trK W ts++((sd,HO.lst (s1.ss.map V.int))::(gg,.lst (s1.rg.map V.int))::Z)=L8:=⟨_,U⟩
  have h8:Has H8 (yL t.c_Yard A y2++L8):=by rw[<- eL8]; exact h8
  have P8:Pool W s1 L8:=by rw[<- eL8]; exact P8.app _
  have mZ:∀ z ∈ Z,z ∈ L8:=fun z hz=>by rw[<- eL8]; simp[hz]
  have ms8:(sd,HO.lst (s1.ss.map V.int)) ∈ L8:=by rw[<- eL8]; simp
  have mg8:(gg,HO.lst (s1.rg.map V.int)) ∈ L8:=by rw[<- eL8]; simp
  have gd8:∀ {H:Hp}{X:Kn},Has H (X++L8)->SqL K H d (ds.map V.int):=fun {H X} h=>SqL.of (h.at_ _ (wb _ (mZ _ xd)))
  dsimp only[List.set]
  refine⟨(tss2Inv t.c_Yard d kk nn rr sd mh gg z o1 y2 W s1 L8),?_,?_⟩
  ·refine⟨_,U,_,U,_,_,U,U,d,_,_,_,U,U,gd8 h8,atD (by omega) (by omega),_,_,U,U,(show(0:Int)<4 by decide),U,_,U,?_⟩
   refine if2 (fun _=>?_) (fun _=>?_)
   ·refine⟨_,U,A.p,A.dx,_,U,h8.get 1 U,(bT _ _ _).2.1,A,y2,_,U,h8,fun H9 q9 h9=>?_⟩
    exact⟨{ A with tr:=q9 },{ y2 with eng:=.non,trail:=[] },{ s1 with at_:=none },U,U,U,R8.offed,P8.offed,U,U,U,U,U,Nat.zero_le _,h9⟩
   ·exact⟨A,y2,s1,U,U,U,R8,P8,U,U,U,U,U,by rw[t8]; unfold trV; rw[v9]; exact lts,h8⟩
  clear h8
  rintro σ' H9 ⟨A9,y9,s9,rfl,e1,e2,R9,P9,nx9,kd9,no9,ro9,mt9,tl9,h9⟩
  rw[<- e1] at ms8 gl1
  rw[<- e2] at mg8 nt1 g6
  refine⟨_,U,kk,_,U,.inl (SqL.of (h9.at_ _ (wb _ (mZ _ xk)))),_,U,_,U,d,_,_,_,U,U,gd8 h9,a0',_,_,U,U,(show(0:Int)<3 by decide),_,_,U,U,?_⟩
  dsimp only[List.set]
  have eon:((ksV ks).length:Int)+x0 % 3=((ks.length+g:Nat):Int):=by unfold ksV; rw[v9,hg]; omega
  rw[eon]
  refine⟨_,U,_,U,_,U,_,U,_,U,_,U,_,U,_,U,_,U,(sz_ 9),fun tp9 htp9=>?_⟩
  have rl9:s9.rg.length<=20:=by
   have:s9.rg.length<=([]:List Int).length+n1:=g6
   simp at this
   omega
  have f:YFit W s9 (kEn ks) ((ks.length+g:Nat):Int):=by
   refine⟨⟨by omega,by omega⟩,fun n k hk=>?_,bell,fun p hp=>?_,by rw[bZ]; omega,by omega,by omega,nt1⟩
   ·obtain⟨i,e3,e4⟩:=lw.kf n k hk
    have:=(List.getElem?_eq_some_iff.mp e4).1
    omega
   ·obtain⟨i,e3,e4⟩:=l7 hp
    rw[e3,<- hW,iW]
    exact e4
  have sm9:cC y9:=⟨by rw[kd9,kd8,kd,dF]; omega,by rw[no9,no8,no]; omega,by rw[ro9,ro8,ro]; omega,by rw[R9.sd,v9]; omega,by rw[mt9,mt8,mt]; omega,by rw[R9.rg,v9]; omega,by omega⟩
  rw[<- hW] at R9 f P9 lw
  exact q _ tp9 A9 y9 ks ns rs es m s9 _ kk nn rr sd mh gg L8 ⟨lw,S.sy,by omega,S.mks,S.ml,R9,f,by rw[nx9,nx8,nx],P9,by rw[kd9,kd8,kd],sm9,mZ _ xk,mZ _ xn,mZ _ xr,ms8,mZ _ xm,mg8,⟨trK W ts++Z,by rw[<- eL8,e1,e2]; exact List.perm_append_comm_assoc (trK W ts) [_,_] Z,wb _ xk,wb _ xn,wb _ xr,wb _ xm⟩⟩ (mZ _ xd) (h9.alloc htp9 _)
end
end P
namespace HT
open PySem PyProof.Rows
noncomputable def lexLe:List Int->List Int->Bool
 | [],[]=>true
 | [],_::_=>true
 | _::_,[]=>false
 | x::xs,y::ys=>if x=y then lexLe xs ys else decide (x<=y)
theorem lexLe_cons (x y:Int) (xs ys:List Int):lexLe (x::xs) (y::ys)=if x=y then lexLe xs ys else decide (x<=y):=rfl
theorem iu:lexLe [] []=true:=rfl
theorem gS (y:Int) (ys:List Int):lexLe [] (y::ys)=true:=rfl
theorem gT (x:Int) (xs:List Int):lexLe (x::xs) []=false:=rfl
theorem oR (A:Around) (s:Shared) (a:Int) (t:Tok) (c:Int) (u:Tok) (prog:Program) (w:World) (E:Value->Shared->Prop) (Q:Value->Shared->Prop) (h:Q (.bool (decide (a<=c))) s) :
  wpAny (model prog w) A (richCompare .LtE (.int a t) (.int c u)) Q E s :=
 (PyProof.Rows.le_int h:wpAny (model prog w) A (compareOp .LtE (.int a t) (.int c u)) Q E s)
section
open PySem.SeqAt
open PySem.AutoSeq1 (wpAny_loadPart')
open PySem.MeetsSeq PySem.MeetsSeq2 PySem.MeetsSeq3
theorem io (l b:Addr) (items items2:Array Value) (n n2:Nat) (dd dd2:Option Addr) (sl sl2:Array (Option Value)) (ns ms:List Int) (hi:IntsAre items.toList ns) (hj:IntsAre items2.toList ms) :
  Meets (Builtin.«tuple.__le__» ⟨[.ref l,.ref b],[]⟩)
   (fun _ R s=>s.heap.get? l=some { cls:=.type "tuple",dict:=dd,data:=.seq items n,slots:=sl }/\s.heap.get? b=some { cls:=.type "tuple",dict:=dd2,data:=.seq items2 n2,slots:=sl2 } /\
    R (.ok (.ret (.bool (lexLe ns ms)))) s) :=
 .of_wp fun prog w A R s h=>by
  obtain⟨hp,g,d,tk,os⟩:=s; obtain⟨hl,hb,h⟩:=h
  have f2:=AutoSeq1.sub_tuple_tuple
  have z1:items.size=ns.length:=by rw[<- hi.length]; simp
  have z2:items2.size=ms.length:=by rw[<- hj.length]; simp
  wp_walk using wpAny_loadPart' hl,wpAny_loadPart' hb,wpAny_forIn_list _ (fun rest b s'=>b.1=none/\s'=⟨hp,g,d,tk,os⟩/\∃ (vs ws:List Value) (ns' ms':List Int),rest=vs.zip ws /\
   IntsAre vs ns'/\IntsAre ws ms'/\ns'.length+items2.size=ms'.length+items.size/\R (.ok (.ret (.bool (lexLe ns' ms')))) ⟨hp,g,d,tk,os⟩) _
  case turn=>
   rintro⟨y,x⟩ rest b s' ⟨hb',rfl,vs,ws,ns',ms',hz,hvi,hwi,hlen,hR⟩
   cases hvi with
   | nil=>rw[List.zip_nil_left] at hz; cases hz
   | cons a t hvi'=>
    cases hwi with
    | nil=>rw[List.zip_nil_right] at hz; cases hz
    | cons c u hwi'=>
     rw[List.zip_cons_cons] at hz
     injection hz with hyx hrest
     injection hyx with hy hx
     subst hy hx
     rw[lexLe_cons] at hR
     simp only[wl] at hlen
     obtain⟨e,he,hiff⟩:=kh A.in1 ⟨hp,g,d,tk,os⟩ a t c u
     refine wpAny_bind (he prog w _ _ ?_)
     cases e with
     | true=>
      rw[if_pos (hiff.mp rfl)] at hR
      wp_walk
      exact⟨rfl,rfl,_,_,_,_,hrest,hvi',hwi',by omega,hR⟩
     | false=>
      rw[if_neg (fun q=>absurd (hiff.mpr q) Bool.false_ne_true)] at hR
      have hri:=oR A.in1 ⟨hp,g,d,tk,os⟩ a t c u prog w
      wp_walk using hri
      exact⟨_,rfl,by simpa using hR⟩
  case fin=>
   rintro⟨b1,b2⟩ s' ⟨hb',rfl,vs,ws,ns',ms',hz,hvi,hwi,hlen,hR⟩
   simp only at hb'
   subst hb'
   have hv:lexLe ns' ms'=decide (items.size<=items2.size):=by
    cases hvi with
    | nil=>
     cases hwi with
     | nil=>
      simp only[List.length_nil] at hlen
      rw[iu]
      exact(decide_eq_true (by omega)).symm
     | cons c u hw=>
      simp only[List.length_nil,wl] at hlen
      rw[gS]
      exact(decide_eq_true (by omega)).symm
    | cons a t hv=>
     cases hwi with
     | nil=>
      simp only[List.length_nil,wl] at hlen
      rw[gT]
      exact(decide_eq_false (by omega)).symm
     | cons c u hw=>
      rw[List.zip_cons_cons] at hz
      cases hz
   rw[hv] at hR
   wp_walk
   exact⟨_,rfl,by simpa [Builtin.Tuple.tupleCompareSizes] using hR⟩
  case h=>
   exact⟨rfl,rfl,items.toList,items2.toList,ns,ms,rfl,hi,hj,by omega,h⟩
end
section
variable {prog:Program}{w:World}{A:Around}{E:Value->Shared->Prop}{s:Shared}
theorem le_tupInts {l b:Addr}{items items2:Array Value}{ns ms:List Int}{Q:Value->Shared->Prop} (hl:IsTup s.heap l items) (hb:IsTup s.heap b items2) (hi:IntsAre items.toList ns) (hj:IntsAre items2.toList ms)
  (hu:A.units<cLine) (h:Q (.bool (lexLe ns ms)) s):wpAny (model prog w) A (compareOp .LtE (.ref l) (.ref b)) Q E s:=by
 obtain⟨⟨cls,dd,data,sl⟩,ho,hc,n,hd⟩:=id hl
 obtain⟨⟨cls2,dd2,data2,sl2⟩,ho2,hc2,n2,hd2⟩:=id hb
 simp only at hc hd hc2 hd2
 subst hc hd hc2 hd2
 exact richCompare_meets_room (op:=.LtE) ⟨_,ho,rfl⟩ ⟨_,ho2,rfl⟩ PySem.F.slot_tuple_le PySem.F.entry_tuple_le (PySem.F.args_tuple_le_2 _ _) (io l b items items2 n n2 dd dd2 sl sl2 ns ms hi hj)
  ⟨ho,ho2,show Value.bool (lexLe ns ms)≠Value.notImplemented/\Q (.bool (lexLe ns ms)) s from⟨(fun x=>nomatch x),h⟩⟩ hu
end
end HT
namespace L2
open PySem PySem.Spec PyProof.Rows
section
variable {X:Cx}
noncomputable def rLeT (K:PySem.W.Frag):R2:=fun x y H Q=>∃ a b ns ms,x=.ref a/\y=.ref b/\SqT K H a (ns.map V.int)/\SqT K H b (ms.map V.int)/\Q (.bl (HT.lexLe ns ms)) H
theorem t5 (hu:X.A.units<cLine):OpR X (compareOp .LtE) (rLeT X.K):=by
 intro pins s σ H x y v u Q I rx ry h
 obtain⟨a,b,ns,ms,rfl,rfl,ha,hb,q⟩:=h
 cases rx
 cases ry
 obtain⟨its,r1,p1,_⟩:=I.tuple ha
 obtain⟨its2,r2,p2,_⟩:=I.tuple hb
 have i1:IntsAre its.toArray.toList ns:=dl r1
 have i2:IntsAre its2.toArray.toList ms:=dl r2
 exact HT.le_tupInts p1 p2 i1 i2 hu ⟨.bl (HT.lexLe ns ms),H,I,U,q⟩
end
section
variable {X:Cx}{body:List Stmt}{h₀:ExceptHandler}{hs:List ExceptHandler}{tp:Pos}{t:TS}
theorem qG (hx:∀ e s,¬ X.xe e s) (hb:PSs X body t):PS X (.Try body (h₀::hs) [] [] tp) t:=by
 intro pins s σ H D I h
 refine wpAny_Try_except (wpAny_mono (hb pins s σ H D I h) (fun f s1 q=>?_) (fun e s1 z=>absurd z (hx e s1)))
 cases f with
 | next=>exact wpAny_execs_nil q
 | ret v=>exact q
 | brk=>exact q
 | cont=>exact q
end
end L2
set_option maxHeartbeats 4000000
namespace P
open PySem L2
noncomputable def lkR (W:Wd) (KS:List (Int×Kd)):List (List Int):=KS.flatMap fun p=>(List.range p.2.many.toNat).flatMap fun e=>cz W p.1 e
noncomputable def enR (s:Sd):List (Str×List Int):=match s.at_ with
 | some z=>[("engine",[z.2.1,z.2.2])]
 | none=>[]
noncomputable def rgR (s:Sd):List (Str×List Int):=if s.rg=[] then [] else [("rung",s.rg)]
noncomputable def rdR (s:Sd):List (Str×List Int):=(List.range s.ss.length).map fun i:Nat=>("rod",[(i:Int),s.ss.getD i 0])
noncomputable def pcR (W:Wd) (p:Int×Kd):Str×List Int:=(p.2.str,pcN W p)
noncomputable def ytR (W:Wd) (s:Sd) (KS:List (Int×Kd)) (nx:Int):List (Str×List Int):=("next",[nx,(s.ss.length:Int)])::(rdR s++(KS.map (pcR W)++((lkR W KS).map (fun l=>(("link" : Str),l))++(enR s++rgR s))))
theorem nQ (W:Wd) (s:Sd) (KS:List (Int×Kd)) (nx:Int):ytL W s KS nx=(ytR W s KS nx).map fun p=>lnT p.1 p.2:=by
 unfold ytL ytR
 rw[wu,wg,wg,wg,wg]
 congr 1
 congr 1
 ·unfold rdL rdR; rw[wD]; rfl
 congr 1
 ·rw[wD]; rfl
 congr 1
 ·unfold lkL lkR lkP
  rw[wD,List.map_flatMap]
  congr 1
  funext p
  rw[List.map_flatMap]
  rfl
 congr 1
 ·unfold enL enR; cases s.at_ <;> rfl
 ·unfold rgL rgR; split <;> rfl
noncomputable def sizesD:List (Str×PyData):=[("next",.int 2),("rod",.int 2),("line",.int 1),("stop",.int 1),("bell",.int 2),("still",.int 2),("lazy",.int 2),("turning",.int 2),("link",.int 4),("engine",.int 2)]
noncomputable def groupsD:List (Str×PyData):=[("next",.int 0),("rod",.int 1),("line",.int 2),("stop",.int 2),("bell",.int 2),("still",.int 2),("lazy",.int 2),("turning",.int 2),("link",.int 3),("engine",.int 4),("rung",.int 5)]
structure RwF (x:Str) (ns:List Int) (g:Int) (r1 r2:Int):Prop where
 fit:(x = "rung" /\ ns≠[])∨(¬ x = "rung" /\ (sizesD.any fun p=>decide (x=p.1))=true/\sizesD.lookup x=some (.int ns.length))
 g:groupsD.lookup x=some (.int g)
 r:(x = "link" /\ ∃ a b,ns=r1::r2::a::b::[])∨(¬ x = "link" /\ ((x = "next" ∨ x = "engine" ∨ x = "rung")/\r1=0/\r2=0))∨(¬ x = "link" /\ ¬ (x = "next" ∨ x = "engine" ∨ x = "rung")/\r2=0/\ns.head?=some r1)
inductive sp_hn (vs:List V) (H:Hp) (Q:VK) (E_:XK):Prop
 | mk (x:Str) (l:Addr) (ns:List Int) (L:Kn) (g r1 r2:Int) (_:vs=[.str x,.ref l]) (_:Has H L) (_:(l,HO.lst (ns.map V.int)) ∈ L) (_:RwF x ns g r1 r2) (_:Q (.bl true) H):sp_hn vs H Q E_
inductive sp_rr (vs:List V) (H:Hp) (Q:VK) (E_:XK):Prop
 | mk (x:Str) (ns:List Int) (L:Kn) (g r1 r2:Int) (_:vs=[.str (lnT x ns)]) (_:Has H L) (_:ij 32 x) (_:x.length<=100) (_:dU ns) (_:RwF x ns g r1 r2) (_:∀ H' p l,Has H' ((p,.tup [.str x,.ref l])::(l,.lst (ns.map V.int))::L)->Q (.ref p) H'):sp_rr vs H Q E_
inductive sp_rank (vs:List V) (H:Hp) (Q:VK) (E_:XK):Prop
 | mk (p l:Addr) (x:Str) (ns:List Int) (L:Kn) (g r1 r2:Int) (_:vs=[.ref p]) (_:Has H L) (_:(p,HO.tup [.str x,.ref l]) ∈ L) (_:(l,HO.lst (ns.map V.int)) ∈ L) (_:RwF x ns g r1 r2) (_:∀ H' q,Has H' ((q,.tup [.int g,.int r1,.int r2])::L)->Q (.ref q) H'):sp_rank vs H Q E_
section
variable {P:Program}{w:World}{K:PySem.W.Frag}{mg:Str->Option Value}{base:Heap}{t:Adr}
theorem scHn:FnScope ["word","numbers"] ["word","numbers"] (ah vQ):={}
theorem ok_J2 (T:Txt K mg t):FnOk P w K mg base CX0 1 t.f_J2 t.d_J2 ["word","numbers"] sp_hn:=by
 refine T.F_J2.ok scHn (fun vs H Q E h=>?_) (fun cdv A outer s H vs Q E hr h=>?_)
 ·obtain⟨_,_,_,_,_,_,_,rfl,_⟩:=h
  rfl
 ·obtain⟨x,l,ns,L,g,r1,r2,rfl,hH,ml,rf,q⟩:=h
  obtain⟨aE,eE,hE⟩:=T.x_SIZES
  have T_r_SIZES:RelV (.ref aE) t.u_SIZES:=by rw[eE]; rfl
  refine⟨_,(ab (av (ai bj (pv 0) az (am _))
    (af (ao (cq eG (aG aA (by rfl) T.z_len (by rfl) (aa (pv 1) ae)) ag (am _))))
    ak)
   (af (ao (gF (cq t6 (pv 0) (bX (by rfl) T.g_SIZES T_r_SIZES) (by rfl)) (ft (cq bj (aG aA (by rfl) T.z_len (by rfl) (aa (pv 1) ae)) (aI uE (bX (by rfl) T.g_SIZES T_r_SIZES) (pv 0)) (am _))))))),?_⟩
  have gl:SqL K H l (ns.map V.int):=SqL.of (hH.at_ _ ml)
  refine⟨_,U,U,_,U,?_⟩
  rcases rf.fit with ⟨ex,hn⟩ | ⟨ex,h1,h2⟩
  ·refine ifT (decide_eq_true (by rw[ex])) ?_
   refine⟨_,U,l,_,U,.inl gl,_,_,U,U,?_⟩
   rw[decide_eq_true (show(0:Int)<((ns.map V.int).length:Int) by rw[v9]; have:=List.length_pos_iff.mpr hn; omega)]
   exact q
  ·refine ifF (decide_eq_false (fun e=>ex (V.str.inj e))) ?_
   refine⟨_,U,x,aE,sizesD,U,U,hE,?_⟩
   rw[h1]
   refine⟨_,U,da ?_⟩
   refine⟨_,U,l,_,U,.inl gl,_,U,x,aE,sizesD,_,U,U,hE,h2,(by decide +kernel),U,?_⟩
   rw[decide_eq_true (by rw[v9])]
   exact q
theorem scRr:FnScope ["line","word","numbers"] ["line"] (ah sE):={}
theorem uk (T:Txt K mg t):FnOk P w K mg base CX0 4 t.f_J41 t.d_J41 ["line"] sp_rr:=by
 refine T.F_J41.ok scRr (fun vs H Q E h=>?_) (fun cdv A outer s H vs Q E hr h=>?_)
 ·obtain⟨_,_,_,_,_,_,rfl,_⟩:=h
  rfl
 ·obtain⟨x,ns,L,g,r1,r2,rfl,hH,fx,hx,hns,rf,q⟩:=h
  refine⟨_,(ab (bA (pcl (ok_Jt T) hr T.m_Jt T.F_Jt.kp (b_Jt T) (aa (pv 0) ae)) (bB rfl (ap (aj (i:=1) scRr.nd rfl (Or.inl rfl)) (ap (aj (i:=2) scRr.nd rfl (Or.inl rfl)) ba))))
   (ab (av (bG (bp (pcl (ok_J2 T) hr T.m_J2 T.F_J2.kp (b_J2 T) (aa (pv 1) (aa (pv 2) ae)))))
    (af aX)
    ak)
   (af (ao (aR (aa (pv 1) (aa (pv 2) ae))))))),?_⟩
  rw[show L2.start ["line","word","numbers"] [V.str (lnT x ns)]=([some (V.str (lnT x ns)),none,none]:St) from rfl]
  refine⟨_,U,x,ns,L,U,hH,fx,hx,hns,fun H1 p l h1=>?_⟩
  refine⟨p,_,U,SqT.of (h1.get 0 U),U,_,_,U,_,_,U,U,?_⟩
  dsimp only[List.set]
  have h2:=h1.tail
  refine⟨_,U,_,U,x,l,ns,_,g,r1,r2,U,h2,we,rf,_,U,bz ?_⟩
  exact⟨_,U,_,U,(show 2<=sizeLine by decide),fun p2 hp2=>q _ p2 l (h2.alloc hp2 _)⟩
theorem scRk:FnScope ["row","word","numbers","group"] ["row"] (ah oG):={}
theorem lQ (T:Txt K mg t):FnOk P w K mg base CX0 1 t.f_rank t.d_rank ["row"] sp_rank:=by
 refine T.F_rank.ok scRk (fun vs H Q E h=>?_) (fun cdv A outer s H vs Q E hr h=>?_)
 ·obtain⟨_,_,_,_,_,_,_,_,rfl,_⟩:=h
  rfl
 ·obtain⟨p,l,x,ns,L,g,r1,r2,rfl,hH,mp,ml,rf,q⟩:=h
  obtain⟨aE,eE,hE⟩:=T.x_GROUPS
  have T_r_GROUPS:RelV (.ref aE) t.u_GROUPS:=by rw[eE]; rfl
  refine⟨_,(ab (bA (pv 0) (bB rfl (ap (aj (i:=1) scRk.nd rfl (Or.inl rfl)) (ap (aj (i:=2) scRk.nd rfl (Or.inl rfl)) ba))))
   (ab (aB (i:=3) scRk.nd rfl (Or.inl rfl) (aI uE (bX (by rfl) T.g_GROUPS T_r_GROUPS) (pv 1)))
   (ab (av (ai bj (pv 1) az (am _))
    (af (ao (aR (aa (pv 3) (aa (aI au (pv 2) ag) (aa (aI au (pv 2) ag) ae))))))
    ak)
   (ab (av (ai iH (pv 1) (aR (aa az (aa az (aa az ae)))) (by rfl))
    (af (ao (aR (aa (pv 3) (aa ag (aa ag ae))))))
    ak)
   (af (ao (aR (aa (pv 3) (aa (aI au (pv 2) ag) (aa ag ae)))))))))),?_⟩
  rw[show L2.start ["row","word","numbers","group"] [V.ref p]=([some (V.ref p),none,none,none]:St) from rfl]
  have gl:SqL K H l (ns.map V.int):=SqL.of (hH.at_ _ ml)
  refine⟨_,U,p,_,U,SqT.of (hH.at_ _ mp),U,_,_,U,_,_,U,U,?_⟩
  dsimp only[List.set]
  refine⟨_,U,x,aE,groupsD,_,U,U,hE,rf.g,(by decide +kernel),?_⟩
  dsimp only[List.set]
  refine⟨_,U,U,_,U,?_⟩
  have three:3<=sizeLine:=by decide
  rcases rf.r with ⟨ex,a,b,en⟩ | ⟨ex,e1,rfl,rfl⟩ | ⟨ex,e1,rfl,en⟩
  ·refine ifT (decide_eq_true (by rw[ex])) ?_
   subst en
   refine⟨_,U,_,U,l,_,_,_,U,U,gl,aK (j:=0) rfl,_,U,l,_,_,_,U,U,gl,aK (j:=1) rfl,three,fun z hz=>q _ z (hH.alloc hz _)⟩
  ·refine ifF (decide_eq_false (fun e=>ex (V.str.inj e))) ?_
   refine⟨_,U,three,fun tp htp=>?_⟩
   have h1:=hH.alloc htp (.tup [.str "next",.str "engine",.str "rung"])
   refine⟨tp,_,U,.inr (SqT.of (h1.get 0 U)),U,U,_,U,ifT ?_ ?_⟩
   ·rcases e1 with rfl | rfl | rfl <;> decide +kernel
   ·exact⟨_,U,three,fun z hz=>q _ z (Has.sub (h1.alloc hz _) (List.Sublist.cons₂ _ (List.Sublist.cons _ (List.Sublist.refl _))))⟩
  ·refine ifF (decide_eq_false (fun e=>ex (V.str.inj e))) ?_
   refine⟨_,U,three,fun tp htp=>?_⟩
   have h1:=hH.alloc htp (.tup [.str "next",.str "engine",.str "rung"])
   refine⟨tp,_,U,.inr (SqT.of (h1.get 0 U)),U,U,_,U,ifF ?_ ?_⟩
   ·show inV (.str x) [.str "next",.str "engine",.str "rung"]=false
    have ne:∀ a:Str,¬ x=a->eqV (.str a) (.str x)=false:=fun a h=>by
     show(a == x)=false
     exact beq_eq_false_iff_ne.mpr (fun e=>h e.symm)
    unfold inV
    rw[List.any_cons,List.any_cons,List.any_cons,ne _ (fun e=>e1 (.inl e)),ne _ (fun e=>e1 (.inr (.inl e))),ne _ (fun e=>e1 (.inr (.inr e)))]
    rfl
   ·obtain⟨m,hm⟩:∃ m,ns=r1::m:=by
     cases ns with
     | nil=>cases en
     | cons a m=>exact⟨m,by rw[Option.some.inj en]⟩
    subst hm
    exact⟨_,U,_,U,l,_,_,_,U,U,SqL.of (h1.at_ _ (wc _ ml)),aK (j:=0) rfl,three,fun z hz=>q _ z (Has.sub (h1.alloc hz _) (List.Sublist.cons₂ _ (List.Sublist.cons _ (List.Sublist.refl _))))⟩
end
structure LnA where
 p:Addr
 l:Addr
 w:Str
 n:List Int
structure LnIn (zs:List LnA) (L:Kn):Prop where
 p:∀ z ∈ zs,(z.p,HO.tup [.str z.w,.ref z.l]) ∈ L
 l:∀ z ∈ zs,(z.l,HO.lst (z.n.map V.int)) ∈ L
theorem LnIn.mono {zs:List LnA}{L L':Kn} (h:LnIn zs L) (s:∀ z ∈ L,z ∈ L'):LnIn zs L':=⟨fun z hz=>s _ (h.p z hz),fun z hz=>s _ (h.l z hz)⟩
structure Rnk (rs:List (Str×List Int)) (rk:List (Int×Int×Int)):Prop where
 len:rk.length=rs.length
 f:∀ (i:Nat) x k,rs[i]?=some x->rk[i]?=some k->RwF x.1 x.2 k.1 k.2.1 k.2.2
 o:∀ (i:Nat) a b,rk[i]?=some a->rk[i+1]?=some b->HT.lexLe [b.1,b.2.1,b.2.2] [a.1,a.2.1,a.2.2]=false
 h:∃ ns r,rs=(("next" : Str),ns)::r
 l:rs.length<=10000
inductive sp_co (vs:List V) (H:Hp) (Q:VK) (E_:XK):Prop
 | mk (rl:Addr) (zs:List LnA) (rk:List (Int×Int×Int)) (L:Kn) (_:vs=[.ref rl]) (_:Has H L) (_:(rl,HO.lst (zs.map fun z=>V.ref z.p)) ∈ L) (_:LnIn zs L) (_:Rnk (zs.map fun z=>(z.w,z.n)) rk) (_:∀ H',Has H' L->Q .non H'):sp_co vs H Q E_
section
variable {P:Program}{w:World}{K:PySem.W.Frag}{mg:Str->Option Value}{base:Heap}{t:Adr}
theorem scCo:FnScope ["rows","at"] ["rows"] (ah vK):={}
theorem ok_J9 (T:Txt K mg t):FnOk P w K mg base CX0 2 t.f_J9 t.d_J9 ["rows"] sp_co:=by
 refine T.F_J9.ok scCo (fun vs H Q E h=>?_) (fun cdv A outer s H vs Q E hr h=>?_)
 ·obtain⟨_,_,_,_,rfl,_⟩:=h
  rfl
 ·obtain⟨rl,zs,rk,L,rfl,hH,ml,li,rn,q⟩:=h
  refine⟨_,(ab (av (ai dB (aI cE (aI au (pv 0) ag (fun _ _=>rfl)) ag) az (am _))
    (af aX)
    ak)
   (af (bm PassesOwn.never rfl (mV (by rfl) T.z_range (aa ag (aa (aG aA (by rfl) T.z_len (by rfl) (aa (pv 0) ae)) ae))) (aj (i:=1) scCo.nd rfl (Or.inl rfl))
    (af (av (ai (t5 (Nat.lt_of_le_of_lt (Nat.le_add_right _ 64) hr.units)) (pcl (lQ T) hr T.m_rank T.F_rank.kp (qf T) (aa (aI au (pv 0) (pv 1)) ae)) (pcl (lQ T) hr T.m_rank T.F_rank.kp (qf T) (aa (aI au (pv 0) (aC d4 (pv 1) ag)) ae)) (am _))
      (af aX)
      ak))))),?_⟩
  rw[show L2.start ["rows","at"] [V.ref rl]=([some (V.ref rl),none]:St) from rfl]
  have gl:∀ {H':Hp}{X:Kn},Has H' (X++L)->SqL K H' rl (zs.map fun z=>V.ref z.p):=fun h=>SqL.of (h.at_ _ (wb _ ml))
  obtain⟨ns,r,er⟩:=rn.h
  have ll:=rn.l
  rw[v9] at ll
  obtain⟨z0,zr,ez⟩:∃ z0 zr,zs=z0::zr:=by
   cases zs with
   | nil=>cases er
   | cons a b=>exact⟨a,b,U⟩
  have e0:z0.w = "next":=by rw[ez] at er; injection er with e1 _; injection e1
  have m0:z0 ∈ zs:=by rw[ez]; exact we
  refine⟨_,U,rl,_,_,_,U,U,gl (X:=[]) hH,aK (j:=0) (by rw[ez]; rfl),z0.p,_,_,_,U,U,SqT.of (hH.at_ _ (li.p z0 m0)),aK (j:=0) rfl,U,_,U,ifF (by rw[e0]; rfl) ?_⟩
  refine⟨_,U,rl,_,U,.inl (gl (X:=[]) hH),?_⟩
  refine⟨1,_,U,⟨by decide,by decide,by rw[v9]; omega,by rw[v9]; omega⟩,bF (fun i σ H'=>∃ o:Option V,σ=[some (.ref rl),o]/\Has H' L) ⟨_,U,hH⟩ ?_ ?_⟩
  ·rintro i σ H1 hi ⟨o,rfl,h1⟩
   rw[v9] at hi
   have hi1:i+1<zs.length:=by omega
   have ei:(1:Int)+(i:Int)=((i+1:Nat):Int):=by omega
   dsimp only[List.set]
   rw[ei]
   have x1:zs[i+1]?=some zs[i+1]:=wa hi1
   have x0:zs[i]?=some zs[i]:=wa (by omega)
   have lk:rk.length=zs.length:=by rw[rn.len,v9]
   have k1:rk[i+1]?=some rk[i+1]:=wa (by omega)
   have k0:rk[i]?=some rk[i]:=wa (by omega)
   have f1:=rn.f (i+1) (zs[i+1].w,zs[i+1].n) _ (by rw[wd,x1]; rfl) k1
   have f0:=rn.f i (zs[i].w,zs[i].n) _ (by rw[wd,x0]; rfl) k0
   have oo:=rn.o i _ _ k0 k1
   have m1:zs[i+1] ∈ zs:=List.getElem_mem hi1
   have m0':zs[i] ∈ zs:=List.getElem_mem (by omega)
   refine⟨_,U,_,U,rl,_,_,_,U,U,gl (X:=[]) h1,aK (by rw[wd,x1]; rfl),zs[i+1].p,zs[i+1].l,zs[i+1].w,zs[i+1].n,L,_,_,_,U,h1,li.p _ m1,li.l _ m1,f1,fun H2 q2 h2=>?_⟩
   refine⟨_,U,_,U,_,_,U,U,rl,_,_,_,U,U,gl (X:=[_]) h2,(by rw[show(((i+1:Nat):Int) - 1)=((i:Nat):Int) by omega]; exact aK (by rw[wd,x0]; rfl)),zs[i].p,zs[i].l,zs[i].w,zs[i].n,_,_,_,_,U,h2,wc _ (li.p _ m0'),wc _ (li.l _ m0'),f0,fun H3 q3 h3=>?_⟩
   refine⟨q2,q3,[_,_,_],[_,_,_],U,U,SqT.of (h3.get 1 U),SqT.of (h3.get 0 U),_,U,?_⟩
   rw[oo]
   exact bz ⟨_,U,h3.tail.tail⟩
  ·rintro σ H1 ⟨o,rfl,h1⟩
   exact q _ h1
end
inductive sp_elk (C:Addr) (vs:List V) (H:Hp) (Q:VK) (E_:XK):Prop
 | mk (A:YA) (y:YR) (L:Kn) (b1 b2:Addr) (n1 e1 n2 e2:Int) (_:vs=[.ref A.p,.ref b1,.ref b2]) (_:Has H (yL C A y++L)) (_:(b1,HO.tup [.int n1,.int e1]) ∈ L) (_:(b2,HO.tup [.int n2,.int e2]) ∈ L) (_:HT.lexLt [n1,e1] [n2,e2]=true) (_:cP y n1 e1) (_:cP y n2 e2) (_:aq y.mates (kE n1 e1)=none) (_:aq y.mates (kE n2 e2)=none) (_:y.mates.length<=30000) (_:∀ H' q,Has H' (yL C { A with tr:=q } { y with mates:=aO (aO y.mates (kE n1 e1) (.ref b2)) (kE n2 e2) (.ref b1),trail:=[] }++L)->Q .non H'):sp_elk C vs H Q E_
inductive sp_epc (C:Addr) (vs:List V) (H:Hp) (Q:VK) (E_:XK):Prop
 | mk (A:YA) (y:YR) (L:Kn) (k:Kd) (l:Addr) (ns:List Int) (n v:Int) (_:vs=[.ref A.p,.str k.str,.ref l]) (_:Has H (yL C A y++L)) (_:(l,HO.lst (ns.map V.int)) ∈ L) (_:ns.head?=some n) (_:ns.getLast?=some v) (_:cC y) (_:(k=.bell->0<=v/\v<=9999)) (_:(k.point=true->0<=v/\v<y.sides.length)) (_:∀ H' q,Has H' (yL C { A with tr:=q } (du { y with next:=n } k v (.int v))++L)->Q .non H'):sp_epc C vs H Q E_
theorem qk {xs:List V}{v:V} (h:xs.getLast?=some v):atI xs (-1)=some v:=by
 have hl:xs≠[]:=fun e=>by rw[e] at h; cases h
 have hp:=List.length_pos_iff.mpr hl
 have e:ixN xs.length (-1)=some (xs.length - 1):=by
  unfold ixN
  rw[if_neg (by decide),if_pos (by omega)]
  exact congrArg some (by omega)
 unfold atI
 rw[e]
 show xs[xs.length - 1]?=some v
 rw[<- List.getLast?_eq_getElem?]
 exact h
theorem gR {a b c d:Int} (h:HT.lexLt [a,b] [c,d]=true):HT.lexLt [c,d] [a,b]=false/\¬ kE a b=kE c d:=by
 rw[HT.lexLt_cons,HT.lexLt_cons] at h
 rw[HT.lexLt_cons,HT.lexLt_cons]
 by_cases e:a=c
 ·rw[if_pos e] at h
  rw[if_pos e.symm]
  by_cases e2:b=d
  ·rw[if_pos e2] at h; cases h
  ·rw[if_neg e2] at h
   rw[if_neg (fun q=>e2 q.symm)]
   have:=of_decide_eq_true h
   exact⟨decide_eq_false (by omega),fun q=>e2 (congrArg Prod.snd (jh q))⟩
 ·rw[if_neg e] at h
  rw[if_neg (fun q=>e q.symm)]
  have:=of_decide_eq_true h
  exact⟨decide_eq_false (by omega),fun q=>e (congrArg Prod.fst (jh q))⟩
section
variable {P:Program}{w:World}{K:PySem.W.Frag}{mg:Str->Option Value}{base:Heap}{t:Adr}
theorem scEl:FnScope ["yard","one","other"] ["yard","one","other"] (ah vE):={}
theorem ok_Jf (T:Txt K mg t):FnOk P w K mg base CX0 5 t.f_Jf t.d_Jf ["yard","one","other"] (sp_elk t.c_Yard):=by
 refine T.F_Jf.ok scEl (fun vs H Q E h=>?_) (fun cdv A outer s H vs Q E hr h=>?_)
 ·obtain⟨_,_,_,_,_,_,_,_,_,rfl,_⟩:=h
  rfl
 ·obtain⟨A,y,L,b1,b2,n1,e1,n2,e2,rfl,hH,m1,m2,lt,t1,t2,v1,v2,ml,q⟩:=h
  refine⟨_,(ab (av (ai (kN (Nat.lt_of_le_of_lt (Nat.le_add_right _ 64) hr.units)) (pv 2) (pv 1) (am _))
    (af aX)
    ak)
   (af (al (aF (pv 0) T.cl_Yard T.M_Jw (sL T) hr (vX T) .nil aH (aa (pv 1) (aa (pv 2) ae)))))),?_⟩
  obtain⟨a1,a2⟩:=gR lt
  refine⟨_,U,_,U,b2,b1,[_,_],[_,_],U,U,SqT.of (hH.at_ _ (wb _ m2)),SqT.of (hH.at_ _ (wb _ m1)),_,U,?_⟩
  rw[a1]
  refine bz ?_
  obtain⟨j1,hj1⟩:=List.mem_iff_getElem?.mp m1
  obtain⟨j2,hj2⟩:=List.mem_iff_getElem?.mp m2
  refine⟨_,U,A.p,A.dx,_,U,hH.get 1 U,(dW _ _ _).2.2.1,_,U,_,U,A,y,L,b1,b2,n1,e1,n2,e2,j1,j2,U,hH,hj1,hj2,t1,t2,a2,v1,v2,ml,fun H1 q1 h1=>q _ q1 h1⟩
theorem scEp:FnScope ["yard","kind","numbers"] ["yard","kind","numbers"] (ah vI):={}
theorem ok_Jb (T:Txt K mg t):FnOk P w K mg base CX0 5 t.f_Jb t.d_Jb ["yard","kind","numbers"] (sp_epc t.c_Yard):=by
 obtain⟨g_lay,bY⟩:=bY T
 refine T.F_Jb.ok scEp (fun vs H Q E h=>?_) (fun cdv A outer s H vs Q E hr h=>?_)
 ·obtain⟨_,_,_,_,_,_,_,_,rfl,_⟩:=h
  rfl
 ·obtain⟨A,y,L,k,l,ns,n,v,rfl,hH,ml,hh,hl,sm,kb,kp,q⟩:=h
  refine⟨_,(ab (bK (pv 0) (aI au (pv 2) ag) rfl)
   (af (al (oZ (pv 0) T.cl_Yard T.M_J61 (dD T) (hr.mono (by decide)) bY aH (aa (pv 1) ae) (lM (aI au (pv 2) (sK nU ag)) (lM (aI au (pv 2) (sK nU ag)) tS)))))),?_⟩
  obtain⟨m,em⟩:∃ m,ns=n::m:=by
   cases ns with
   | nil=>cases hh
   | cons a m=>exact⟨m,by rw[Option.some.inj hh]⟩
  have gl:∀ {H':Hp}{X:Kn},Has H' (X++L)->SqL K H' l (ns.map V.int):=fun h=>SqL.of (h.at_ _ (wb _ ml))
  have a0:atI (ns.map V.int) 0=some (.int n):=aK (j:=0) (by rw[em]; rfl)
  have a1:atI (ns.map V.int) (-1)=some (.int v):=qk (by rw[List.getLast?_map,hl]; rfl)
  refine⟨_,U,l,_,_,_,U,U,gl hH,a0,_,U,A.p,_,A.dx,_,U,hH.get 1 U,T.cl_Yard,T.n_Yard_next_piece,(show 9<1000 by decide),?_⟩
  rw[dG]
  have h1:Has _ (yL t.c_Yard A { y with next:=n }++L):=hH.puti 1 U (.ins t.c_Yard A.dx (fl A n y.eng))
  generalize upd H A.p _=H1 at h1 ⊢
  refine⟨_,U,A.p,A.dx,_,U,h1.get 1 U,(bC _ _ _).1,_,U,_,U,_,U,l,_,_,_,U,U,gl h1,a1,_,U,_,U,l,_,_,_,U,U,gl h1,a1,A,{ y with next:=n },L,k,v,.int v,U,h1,⟨sm.k,sm.n,sm.r,sm.s,sm.m,sm.g,sm.t⟩,kb,(fun hp _=>⟨v,U,kp hp⟩),fun H2 q2 h2=>q _ q2 h2⟩
end
inductive sp_ent (C:Addr) (vs:List V) (H:Hp) (Q:VK) (E_:XK):Prop
 | mk (A:YA) (y:YR) (L:Kn) (x:Str) (l:Addr) (ns:List Int) (_:vs=[.ref A.p,.str x,.ref l]) (_:Has H (yL C A y++L)) (_:(l,HO.lst (ns.map V.int)) ∈ L) (_:cC y) (_:((x = "rod" /\ ∃ s:Int,ns=[(y.sides.length:Int),s]/\(s=1∨s=2)/\∀ H' A',A'.p=A.p->Has H' (yL C A' { y with sides:=y.sides++[.int s],trail:=[] }++L)->Q .non H')∨(x = "link" /\ ∃ a b c d:Int,ns=[a,b,c,d]/\HT.lexLt [a,b] [c,d]=true/\cP y a b/\cP y c d/\aq y.mates (kE a b)=none/\aq y.mates (kE c d)=none/\∀ H' A' b1 b2,A'.p=A.p->Has H' (yL C A' { y with mates:=aO (aO y.mates (kE a b) (.ref b2)) (kE c d) (.ref b1),trail:=[] }++((b1,HO.tup [.int a,.int b])::(b2,HO.tup [.int c,.int d])::L))->Q .non H')∨(x = "engine" /\ ∃ a b:Int,ns=[a,b]/\cP y a b/\∀ H' A' c,A'.p=A.p->Has H' (yL C A' { y with eng:=.ref c,trail:=[] }++((c,HO.tup [.int a,.int b])::L))->Q .non H')∨(x = "rung" /\ (∀ v ∈ ns,0<=v/\v<=9999)/\ns.length<=10000/\∀ H' A',A'.p=A.p->Has H' (yL C A' { y with rung:=ns.map V.int }++L)->Q .non H')∨(∃ (k:Kd) (n v:Int),x=k.str/\ns.head?=some n/\ns.getLast?=some v/\(k=.bell->0<=v/\v<=9999)/\(k.point=true->0<=v/\v<y.sides.length)/\∀ H' A',A'.p=A.p->Has H' (yL C A' (du { y with next:=n } k v (.int v))++L)->Q .non H'))):sp_ent C vs H Q E_
theorem qZ (k:Kd):¬ k.str = "rod" /\ ¬ k.str = "link" /\ ¬ k.str = "engine" /\ ¬ k.str = "rung":=by cases k <;> decide +kernel
theorem kg (A:YA) (next:Int) (eng:V) (q:Addr):bE "rung" (.ref q) (fl A next eng)=fl { A with g:=q } next eng:=by kernel_rfl
section
variable {P:Program}{w:World}{K:PySem.W.Frag}{mg:Str->Option Value}{base:Heap}{t:Adr}
theorem scEn5:FnScope ["yard","word","numbers","note"] ["yard","word","numbers"] (ah lE):={}
theorem ph (T:Txt K mg t):FnOk P w K mg base CX0 6 t.f_enter t.d_enter ["yard","word","numbers"] (sp_ent t.c_Yard):=by
 obtain⟨_,hd_J8_2,hb_J8_2⟩:=rO T
 refine T.F_enter.ok scEn5 (fun vs H Q E h=>?_) (fun cdv A outer s H vs Q E hr h=>?_)
 ·obtain⟨_,_,_,_,_,_,rfl,_⟩:=h
  rfl
 ·obtain⟨A,y,L,x,l,ns,rfl,hH,ml,sm,cs⟩:=h
  refine⟨_,(af (av (ai bj (pv 1) az (am _))
    (af (av (ai dB (aF (pv 0) T.cl_Yard T.M_J8 (sR T) hr hb_J8_2 hd_J8_2 aH (aa (aI au (pv 2) ag) ae)) (aI au (pv 2) ag) (am _))
      (af aX)
      ak))
    (af (av (ai bj (pv 1) az (am _))
      (af (al (pcl (ok_Jf T) hr T.m_Jf T.F_Jf.kp (b_Jf T) (@aa _ _ _ _ _ (pv 0) (@aa _ _ _ _ _ (aR (aa (aI au (pv 2) ag) (aa (aI au (pv 2) ag) ae))) (@aa _ _ _ _ _ (aR (aa (aI au (pv 2) ag) (aa (aI au (pv 2) ag) ae))) ae (by rfl)) (by rfl)) (by rfl)))))
      (af (av (ai bj (pv 1) az (am _))
        (af (al (aF (pv 0) T.cl_Yard T.M_J91 (pE T) hr (sY T) .nil aH (@aa _ _ _ _ _ (aR (aa (aI au (pv 2) ag) (aa (aI au (pv 2) ag) ae))) ae (by rfl)))))
        (af (av (ai bj (pv 1) az (am _))
          (ab (bm PassesOwn.never rfl (bW (pv 2)) (aj (i:=3) scEn5.nd rfl (Or.inl rfl))
            (af (al (pcl (sQ T) hr T.m_Jg T.F_Jg.kp (v4 T) (aa (pv 3) ae)))))
           (af (bK (pv 0) (bb b7 (by rfl) T.z_list (by rfl) (aa (pv 2) ae)) rfl)))
          (af (al (pcl (ok_Jb T) hr T.m_Jb T.F_Jb.kp (b_Jb T) (aa (pv 0) (aa (pv 1) (aa (pv 2) ae)))))))))))))),?_⟩
  rw[show L2.start ["yard","word","numbers","note"] [V.ref A.p,V.str x,V.ref l]=([some (V.ref A.p),some (V.str x),some (V.ref l),none]:St) from rfl]
  have gl:∀ {H':Hp}{X:Kn},Has H' (X++L)->SqL K H' l (ns.map V.int):=fun h=>SqL.of (h.at_ _ (wb _ ml))
  have two:2<=sizeLine:=by decide
  have ne:∀ {a b:Str},¬ a=b->decide (V.str a=V.str b)=false:=fun h=>decide_eq_false (fun e=>h (V.str.inj e))
  refine⟨_,U,U,_,U,?_⟩
  rcases cs with ⟨rfl,sd,rfl,h12,q⟩ | ⟨rfl,a,b,c,d,rfl,lt,t1,t2,v1,v2,q⟩ | ⟨rfl,a,b,rfl,th,q⟩ | ⟨rfl,hn,nl,q⟩ | ⟨k,n,v,rfl,hh,hl,kb,kp,q⟩
  ·refine ifT (decide_eq_true rfl) ?_
   refine⟨_,U,A.p,A.dx,_,U,hH.get 1 U,(bC _ _ _).2.1,_,U,l,_,_,_,U,U,gl hH,aK (j:=1) rfl,A,y,L,sd,U,hH,h12,sm.s,fun H1 q1 h1=>?_⟩
   refine⟨_,U,l,_,_,_,U,U,gl h1,aK (j:=0) rfl,U,_,U,ifF (by rw[decide_eq_true rfl]; rfl) ?_⟩
   exact q _ { A with tr:=q1 } rfl h1
  ·refine ifF (ne (by decide +kernel)) ?_
   refine⟨_,U,U,_,U,ifT (decide_eq_true rfl) ?_⟩
   refine⟨_,U,_,U,l,_,_,_,U,U,gl hH,aK (j:=0) rfl,_,U,l,_,_,_,U,U,gl hH,aK (j:=1) rfl,two,fun b1 hb1=>?_⟩
   have h1:=hH.alloc hb1 (.tup [.int a,.int b])
   generalize upd H b1 _=H1 at h1 ⊢
   have g1:SqL K H1 l ([a,b,c,d].map V.int):=SqL.of (h1.at_ _ (wc _ (wb _ ml)))
   refine⟨_,U,l,_,_,_,U,U,g1,aK (j:=2) rfl,_,U,l,_,_,_,U,U,g1,aK (j:=3) rfl,two,fun b2 hb2=>?_⟩
   have h2:=h1.alloc hb2 (.tup [.int c,.int d])
   generalize upd H1 b2 _=H2 at h2 ⊢
   have h3:Has H2 (yL t.c_Yard A y++((b1,HO.tup [.int a,.int b])::(b2,HO.tup [.int c,.int d])::L)):=Has.comm (X:=[_,_]) (Y:=yL t.c_Yard A y) h2.swap2
   exact⟨A,y,_,b1,b2,a,b,c,d,U,h3,we,wc _ we,lt,t1,t2,v1,v2,sm.m,fun H4 q4 h4=>q _ { A with tr:=q4 } b1 b2 rfl h4⟩
  ·refine ifF (ne (by decide +kernel)) ?_
   refine⟨_,U,U,_,U,ifF (ne (by decide +kernel)) ?_⟩
   refine⟨_,U,U,_,U,ifT (decide_eq_true rfl) ?_⟩
   refine⟨_,U,A.p,A.dx,_,U,hH.get 1 U,(bT _ _ _).1,_,U,l,_,_,_,U,U,gl hH,aK (j:=0) rfl,_,U,l,_,_,_,U,U,gl hH,aK (j:=1) rfl,two,fun b1 hb1=>?_⟩
   have h1:=Has.comm (X:=[_]) (Y:=yL t.c_Yard A y) (R:=L) (hH.alloc hb1 (.tup [.int a,.int b]))
   exact⟨A,y,_,b1,a,b,0,U,h1,U,th,fun H2 q2 h2=>q _ { A with tr:=q2 } b1 rfl h2⟩
  ·refine ifF (ne (by decide +kernel)) ?_
   refine⟨_,U,U,_,U,ifF (ne (by decide +kernel)) ?_⟩
   refine⟨_,U,U,_,U,ifF (ne (by decide +kernel)) ?_⟩
   refine⟨_,U,U,_,U,ifT (decide_eq_true rfl) ?_⟩
   refine⟨_,U,l,U,⟨_,gl hH⟩,cA (xs:=ns.map V.int) (fun i σ H'=>H'=H/\∃ o:Option V,σ=[some (.ref A.p),some (.str "rung"),some (.ref l),o]) ⟨U,_,U⟩ (fun i σ H' _ ⟨e,_⟩=>by rw[e]; exact gl hH) ?_ ?_⟩
   ·rintro i v σ H1 hi ⟨rfl,o,rfl⟩
    rw[wd] at hi
    obtain⟨n,hn1,rfl⟩:=Option.map_eq_some_iff.mp hi
    have hb:=hn n (wj hn1)
    dsimp only[List.set]
    exact⟨_,U,_,U,hb.1,hb.2,U,_,U⟩
   ·rintro σ H1 ⟨rfl,o,rfl⟩
    refine⟨_,U,l,_,U,.inl (gl hH),fun g hg=>?_⟩
    have h1:=hH.alloc hg (.lst (ns.map V.int))
    generalize upd H1 g _=H2 at h1 ⊢
    refine⟨_,U,A.p,_,A.dx,_,U,h1.get 2 U,T.cl_Yard,T.n_Yard_rung,(show 9<1000 by decide),?_⟩
    rw[kg]
    have h2:=h1.puti 2 U (.ins t.c_Yard A.dx (fl { A with g:=g } y.next y.eng))
    refine q _ { A with g:=g } rfl ?_
    have h3:=Has.sub h2 (List.eraseIdx_sublist _ 9)
    exact Has.comm (X:=[_]) (Y:=[_,_,_,_,_,_,_,_]) (R:=L) h3
  ·obtain⟨n1,n2,n3,n4⟩:=qZ k
   refine ifF (ne n1) ?_
   refine⟨_,U,U,_,U,ifF (ne n2) ?_⟩
   refine⟨_,U,U,_,U,ifF (ne n3) ?_⟩
   refine⟨_,U,U,_,U,ifF (ne n4) ?_⟩
   exact⟨_,U,_,U,_,U,A,y,L,k,l,ns,n,v,U,hH,ml,hh,hl,sm,kb,kp,fun H1 q1 h1=>q _ { A with tr:=q1 } rfl h1⟩
end
noncomputable abbrev RZ:=(Str×List Int)×(Int×Int×Int)
noncomputable def lt3 (a b:Int×Int×Int):Prop:=a.1<b.1∨(a.1=b.1/\(a.2.1<b.2.1∨(a.2.1=b.2.1/\a.2.2<b.2.2)))
noncomputable def rdZ (s:Sd):List RZ:=(List.range s.ss.length).map fun i:Nat=>(("rod",[(i:Int),s.ss.getD i 0]),(1,(i:Int),0))
noncomputable def pcZ (W:Wd) (KS:List (Int×Kd)):List RZ:=KS.map fun p=>(pcR W p,(2,p.1,0))
noncomputable def lkZ (W:Wd) (KS:List (Int×Kd)):List RZ:=(lkR W KS).map fun l=>(("link",l),(3,l.getD 0 0,l.getD 1 0))
noncomputable def enZ (s:Sd):List RZ:=(enR s).map fun x=>(x,(4,0,0))
noncomputable def rgZ (s:Sd):List RZ:=(rgR s).map fun x=>(x,(5,0,0))
noncomputable def ytZ (W:Wd) (s:Sd) (KS:List (Int×Kd)) (nx:Int):List RZ:=(("next",[nx,(s.ss.length:Int)]),(0,0,0))::(rdZ s++(pcZ W KS++(lkZ W KS++(enZ s++rgZ s))))
theorem eN {α β:Type} (l:List α) (f:α->β):(l.map fun x=>(x,f x)).map (·.1)=l:=by
 rw[wD]; exact List.map_id' l
theorem nP (W:Wd) (s:Sd) (KS:List (Int×Kd)) (nx:Int):(ytZ W s KS nx).map (·.1)=ytR W s KS nx:=by
 unfold ytZ ytR
 rw[wu,wg,wg,wg,wg]
 congr 1
 congr 1
 ·unfold rdZ rdR; rw[wD]; rfl
 congr 1
 ·unfold pcZ; rw[wD]; rfl
 congr 1
 ·unfold lkZ; rw[wD]; rfl
 congr 1
 ·exact eN _ _
 ·exact eN _ _
theorem pN {a b:Int×Int×Int} (h:lt3 a b):HT.lexLe [b.1,b.2.1,b.2.2] [a.1,a.2.1,a.2.2]=false:=by
 obtain⟨a1,a2,a3⟩:=a
 obtain⟨b1,b2,b3⟩:=b
 unfold lt3 at h
 dsimp only at h ⊢
 rw[HT.lexLe_cons,HT.lexLe_cons,HT.lexLe_cons]
 by_cases e1:b1=a1
 ·rw[if_pos e1]
  by_cases e2:b2=a2
  ·rw[if_pos e2]
   by_cases e3:b3=a3
   ·omega
   ·rw[if_neg e3]; exact decide_eq_false (by omega)
  ·rw[if_neg e2]; exact decide_eq_false (by omega)
 ·rw[if_neg e1]; exact decide_eq_false (by omega)
variable{KS:List (Int×Kd)}
theorem je {W:Wd}{l:List Int} (h:l ∈ lkR W KS):∃ p ∈ KS,∃ e:Nat,(e:Int)<p.2.many/\l ∈ cz W p.1 e:=by
 obtain⟨p,hp,h1⟩:=List.mem_flatMap.mp h
 obtain⟨e,he,h2⟩:=List.mem_flatMap.mp h1
 have:=wG.mp he
 exact⟨p,hp,e,by omega,h2⟩
theorem cw {W:Wd}{n:Int}{e:Nat}{l:List Int} (h:l ∈ cz W n e):∃ z:En,W.mf n e=some z/\HT.lexLt [n,(e:Int)] [z.2.1,z.2.2]=true/\l=[n,(e:Int),z.2.1,z.2.2]:=by
 unfold cz at h
 split at h
 ·next z hz=>
  split at h
  ·next hl=>exact⟨z,hz,hl,wo.mp h⟩
  ·cases h
 ·cases h
theorem lZ (W:Wd) (h:KS.Pairwise fun a b=>a.1<b.1):(lkR W KS).Pairwise fun l l'=>l.getD 0 0<l'.getD 0 0∨(l.getD 0 0=l'.getD 0 0/\l.getD 1 0<l'.getD 1 0):=by
 unfold lkR
 rw[List.pairwise_flatMap]
 refine⟨fun p _=>?_,h.imp fun {a b} hab x hx y hy=>?_⟩
 ·rw[List.pairwise_flatMap]
  refine⟨fun e _=>?_,List.pairwise_lt_range.imp fun {a b} hab x hx y hy=>?_⟩
  ·unfold cz
   split
   ·split
    ·exact List.pairwise_singleton _ _
    ·exact .nil
   ·exact .nil
  ·obtain⟨z,_,_,rfl⟩:=cw hx
   obtain⟨z',_,_,rfl⟩:=cw hy
   exact .inr ⟨U,by show(a:Int)<b; omega⟩
 ·obtain⟨e,_,hx⟩:=List.mem_flatMap.mp hx
  obtain⟨e',_,hy⟩:=List.mem_flatMap.mp hy
  obtain⟨z,_,_,rfl⟩:=cw hx
  obtain⟨z',_,_,rfl⟩:=cw hy
  exact .inl hab
theorem jq (s:Sd):(enR s).length<=1:=by unfold enR; split <;> simp
theorem i5 (s:Sd):(rgR s).length<=1:=by unfold rgR; split <;> simp
theorem pw1 {α:Type}{R:α->α->Prop}{l:List α} (h:l.length<=1):l.Pairwise R:=by
 match l with
 | []=>exact .nil
 | [x]=>exact List.pairwise_singleton _ _
 | _::_::_=>simp at h
theorem nO (W:Wd) (s:Sd) (nx:Int) (h:KS.Pairwise fun a b=>a.1<b.1):(ytZ W s KS nx).Pairwise fun a b=>lt3 a.2 b.2:=by
 have g1:∀ x ∈ rdZ s,x.2.1=1:=fun x hx=>by obtain⟨i,_,rfl⟩:=wv.mp hx; rfl
 have g2:∀ x ∈ pcZ W KS,x.2.1=2:=fun x hx=>by obtain⟨i,_,rfl⟩:=wv.mp hx; rfl
 have g3:∀ x ∈ lkZ W KS,x.2.1=3:=fun x hx=>by obtain⟨i,_,rfl⟩:=wv.mp hx; rfl
 have g4:∀ x ∈ enZ s,x.2.1=4:=fun x hx=>by obtain⟨i,_,rfl⟩:=wv.mp hx; rfl
 have g5:∀ x ∈ rgZ s,x.2.1=5:=fun x hx=>by obtain⟨i,_,rfl⟩:=wv.mp hx; rfl
 unfold ytZ
 refine List.pairwise_cons.mpr ⟨fun x hx=>.inl ?_,wk.mpr ⟨?_,wk.mpr ⟨?_,wk.mpr ⟨?_,wk.mpr ⟨?_,?_,?_⟩,?_⟩,?_⟩,?_⟩⟩
 ·show(0:Int)<x.2.1
  simp only[wq] at hx
  rcases hx with hx | hx | hx | hx | hx
  ·rw[g1 x hx]; decide
  ·rw[g2 x hx]; decide
  ·rw[g3 x hx]; decide
  ·rw[g4 x hx]; decide
  ·rw[g5 x hx]; decide
 ·unfold rdZ
  rw[List.pairwise_map]
  exact List.pairwise_lt_range.imp fun {a b} hab=>.inr ⟨U,.inl (by show(a:Int)<b; omega)⟩
 ·unfold pcZ
  rw[List.pairwise_map]
  exact h.imp fun {a b} hab=>.inr ⟨U,.inl hab⟩
 ·unfold lkZ
  rw[List.pairwise_map]
  exact(lZ W h).imp fun {a b} hab=>.inr ⟨U,hab⟩
 ·exact pw1 (by unfold enZ; rw[v9]; exact jq s)
 ·exact pw1 (by unfold rgZ; rw[v9]; exact i5 s)
 ·intro a ha b hb
  exact .inl (by rw[g4 a ha,g5 b hb]; decide)
 ·intro a ha b hb
  simp only[wq] at hb
  refine .inl ?_
  rw[g3 a ha]
  rcases hb with hb | hb
  ·rw[g4 b hb]; decide
  ·rw[g5 b hb]; decide
 ·intro a ha b hb
  simp only[wq] at hb
  refine .inl ?_
  rw[g2 a ha]
  rcases hb with hb | hb | hb
  ·rw[g3 b hb]; decide
  ·rw[g4 b hb]; decide
  ·rw[g5 b hb]; decide
 ·intro a ha b hb
  simp only[wq] at hb
  refine .inl ?_
  rw[g1 a ha]
  rcases hb with hb | hb | hb | hb
  ·rw[g2 b hb]; decide
  ·rw[g3 b hb]; decide
  ·rw[g4 b hb]; decide
  ·rw[g5 b hb]; decide
theorem rwPc (W:Wd) (p:Int×Kd):RwF p.2.str (pcN W p) 2 p.1 0:=by
 obtain⟨n,k⟩:=p
 have hd:(pcN W (n,k)).head?=some n:=by unfold pcN; cases k <;> rfl
 have hl:(pcN W (n,k)).length=if k.many=3∨k=.bell then 2 else 1:=by unfold pcN; cases k <;> rfl
 refine⟨.inr ?_,?_,.inr (.inr ?_)⟩
 ·rw[hl]; cases k <;> exact⟨by dsimp only; decide +kernel,by kernel_rfl,by kernel_rfl⟩
 ·cases k <;> kernel_rfl
 ·refine⟨?_,?_,U,hd⟩ <;> (cases k <;> dsimp only <;> decide +kernel)
theorem nN {W:Wd}{s:Sd}{nx:Int}:∀ x ∈ ytZ W s KS nx,RwF x.1.1 x.1.2 x.2.1 x.2.2.1 x.2.2.2:=by
 intro x hx
 unfold ytZ at hx
 simp only[wq,wt] at hx
 rcases hx with rfl | hx | hx | hx | hx | hx
 ·exact⟨.inr ⟨by dsimp only; decide +kernel,by kernel_rfl,by kernel_rfl⟩,by kernel_rfl,.inr (.inl ⟨by dsimp only; decide +kernel,.inl rfl,U,U⟩)⟩
 ·obtain⟨i,_,rfl⟩:=wv.mp hx
  exact⟨.inr ⟨by dsimp only; decide +kernel,by kernel_rfl,by kernel_rfl⟩,by kernel_rfl,.inr (.inr ⟨by dsimp only; decide +kernel,by dsimp only; decide +kernel,U,U⟩)⟩
 ·obtain⟨p,_,rfl⟩:=wv.mp hx
  exact rwPc W p
 ·obtain⟨l,hl,rfl⟩:=wv.mp hx
  obtain⟨p,_,e,_,h2⟩:=je hl
  obtain⟨z,_,_,rfl⟩:=cw h2
  exact⟨.inr ⟨by dsimp only; decide +kernel,by kernel_rfl,by kernel_rfl⟩,by kernel_rfl,.inl ⟨U,_,_,U⟩⟩
 ·obtain⟨r,hr,rfl⟩:=wv.mp hx
  unfold enR at hr
  split at hr
  ·cases wo.mp hr
   exact⟨.inr ⟨by dsimp only; decide +kernel,by kernel_rfl,by kernel_rfl⟩,by kernel_rfl,.inr (.inl ⟨by dsimp only; decide +kernel,.inr (.inl rfl),U,U⟩)⟩
  ·cases hr
 ·obtain⟨r,hr,rfl⟩:=wv.mp hx
  unfold rgR at hr
  split at hr
  ·cases hr
  ·next hne=>
   cases wo.mp hr
   exact⟨.inl ⟨U,hne⟩,by kernel_rfl,.inr (.inl ⟨by dsimp only; decide +kernel,.inr (.inr rfl),U,U⟩)⟩
theorem jf (W:Wd) (KS:List (Int×Kd)):(lkR W KS).length<=KS.length*3:=by
 have h:=eO W KS
 have e:(lkL W KS).length=(lkR W KS).length:=by
  have:lkL W KS=(lkR W KS).map (lnT "link"):=by
   unfold lkL lkR lkP
   rw[List.map_flatMap]
   congr 1
   funext p
   rw[List.map_flatMap]
  rw[this,v9]
 omega
theorem iV (W:Wd) (s:Sd) (KS:List (Int×Kd)) (nx:Int):(ytR W s KS nx).length<=1+s.ss.length+KS.length+KS.length*3+2:=by
 have h1:=jf W KS
 have h2:=jq s
 have h3:=i5 s
 unfold ytR rdR
 simp only[wl,wf,v9,List.length_range]
 omega
theorem qo {W:Wd}{s:Sd}{nx:Int} (h:KS.Pairwise fun a b=>a.1<b.1) (kl:KS.length<=30) (sl:s.ss.length<=30):Rnk (ytR W s KS nx) ((ytZ W s KS nx).map (·.2)):=by
 have pr:=nO W s nx h
 rw[List.pairwise_iff_getElem] at pr
 refine⟨?_,fun i x k hx hk=>?_,fun i a b ha hb=>?_,⟨_,_,U⟩,?_⟩
 ·rw[<- nP,v9,v9]
 ·rw[<- nP,wd] at hx
  rw[wd] at hk
  obtain⟨z,hz,rfl⟩:=Option.map_eq_some_iff.mp hx
  rw[hz] at hk
  cases hk
  exact nN z (wj hz)
 ·rw[wd] at ha hb
  obtain⟨z,hz,rfl⟩:=Option.map_eq_some_iff.mp ha
  obtain⟨z',hz',rfl⟩:=Option.map_eq_some_iff.mp hb
  obtain⟨h1,e1⟩:=List.getElem?_eq_some_iff.mp hz
  obtain⟨h2,e2⟩:=List.getElem?_eq_some_iff.mp hz'
  have:=pr i (i+1) h1 h2 (by omega)
  rw[e1,e2] at this
  exact pN this
 ·have:=iV W s KS nx
  omega
structure BF (W:Wd) (s:Sd) (KS:List (Int×Kd)) (nx:Int):Prop where
 ri:KS.Pairwise fun a b=>a.1<b.1
 kn:∀ p ∈ KS,0<=p.1/\p.1<nx
 bl:∀ p ∈ KS,p.2=.bell->0<=W.nf p.1/\W.nf p.1<=9999
 rr:∀ p ∈ KS,p.2.point=true->0<=W.rf p.1/\W.rf p.1<s.ss.length
 s12:∀ x ∈ s.ss,x=1∨x=2
 en:∀ z,s.at_=some z->∃ p ∈ KS,p.1=z.2.1/\0<=z.2.2/\z.2.2<p.2.many
 mo:∀ n e z,W.mf n e=some z->∃ p ∈ KS,p.1=z.2.1/\0<=z.2.2/\z.2.2<p.2.many
 sy:Wsym W.mf
 rg:∀ x ∈ s.rg,0<=x/\x<=9999
 kl:KS.length<=30
 sl:s.ss.length<=30
 rl:s.rg.length<=30
 nx:0<=nx/\nx<10000
structure Mts (lks:List (List Int)) (m:List (List Key×V)) (N:Kn):Prop where
 f:∀ a b c d:Int,[a,b,c,d] ∈ lks->(∃ b2,aq m (kE a b)=some (.ref b2)/\(b2,HO.tup [.int c,.int d]) ∈ N)/\(∃ b1,aq m (kE c d)=some (.ref b1)/\(b1,HO.tup [.int a,.int b]) ∈ N)
 b:∀ n e:Int,¬ aq m (kE n e)=none->∃ a b c d:Int,[a,b,c,d] ∈ lks/\((n,e)=(a,b)∨(n,e)=(c,d))
 k:∀ x ∈ m.map (·.1),∃ n e:Int,x=kE n e
theorem Mts.nil (N:Kn):Mts [] [] N:=⟨fun _ _ _ _ h=>(nomatch h),fun n e h=>absurd rfl h,fun _ h=>(nomatch h)⟩
variable{m:List (List Key×V)}
theorem Mts.mono {lks:List (List Int)}{N N':Kn} (h:Mts lks m N) (s:∀ x ∈ N,x ∈ N'):Mts lks m N':=⟨fun a b c d hl=>by
 obtain⟨⟨b2,h1,h2⟩,⟨b1,h3,h4⟩⟩:=h.f a b c d hl
 exact⟨⟨b2,h1,s _ h2⟩,⟨b1,h3,s _ h4⟩⟩,h.b,h.k⟩
theorem Mts.put {lks:List (List Int)}{N:Kn} (h:Mts lks m N) {a b c d:Int} (v1:aq m (kE a b)=none) (v2:aq m (kE c d)=none) (ne:¬ kE a b=kE c d) (b1 b2:Addr) :
  Mts (lks++[[a,b,c,d]]) (aO (aO m (kE a b) (.ref b2)) (kE c d) (.ref b1)) ((b1,HO.tup [.int a,.int b])::(b2,HO.tup [.int c,.int d])::N):=by
 refine⟨fun a' b' c' d' hl=>?_,fun n e hn=>?_,fun x hx=>?_⟩
 ·rcases wq.mp hl with hl | hl
  ·obtain⟨⟨x2,h1,h2⟩,⟨x1,h3,h4⟩⟩:=h.f _ _ _ _ hl
   refine⟨⟨x2,?_,by simp[h2]⟩,⟨x1,?_,by simp[h4]⟩⟩
   ·rw[aN,if_neg (fun e=>by rw[e,v2] at h1; cases h1),aN,if_neg (fun e=>by rw[e,v1] at h1; cases h1)]
    exact h1
   ·rw[aN,if_neg (fun e=>by rw[e,v2] at h3; cases h3),aN,if_neg (fun e=>by rw[e,v1] at h3; cases h3)]
    exact h3
  ·have e:=wo.mp hl
   injection e with e1 e
   injection e with e2 e
   injection e with e3 e
   injection e with e4 _
   subst e1 e2 e3 e4
   refine⟨⟨b2,?_,by simp⟩,⟨b1,?_,by simp⟩⟩
   ·rw[aN,if_neg ne,aN,if_pos rfl]
   ·rw[aN,if_pos rfl]
 ·rw[aN,aN] at hn
  by_cases e2:kE n e=kE c d
  ·exact⟨a,b,c,d,by simp,.inr (jh e2)⟩
  by_cases e1:kE n e=kE a b
  ·exact⟨a,b,c,d,by simp,.inl (jh e1)⟩
  rw[if_neg e2,if_neg e1] at hn
  obtain⟨x1,x2,x3,x4,hx,ho⟩:=h.b n e hn
  exact⟨x1,x2,x3,x4,wA _ hx,ho⟩
 ·rcases fm hx with hx | rfl
  ·rcases fm hx with hx | rfl
   ·exact h.k x hx
   ·exact⟨_,_,U⟩
  ·exact⟨_,_,U⟩
theorem lt2 {a b c d:Int}:HT.lexLt [a,b] [c,d]=true↔a<c∨(a=c/\b<d):=by
 rw[HT.lexLt_cons,HT.lexLt_cons]
 by_cases e:a=c
 ·rw[if_pos e]
  by_cases e2:b=d
  ·rw[if_pos e2]
   exact⟨fun h=>(by cases h),fun h=>(by omega)⟩
  ·rw[if_neg e2]
   exact⟨fun h=>(by have:=of_decide_eq_true h; omega),fun h=>decide_eq_true (by omega)⟩
 ·rw[if_neg e]
  exact⟨fun h=>(by have:=of_decide_eq_true h; omega),fun h=>decide_eq_true (by omega)⟩
theorem dE {W:Wd}{a b c d:Int} (h:[a,b,c,d] ∈ lkR W KS):(∃ p ∈ KS,p.1=a/\0<=b/\b<p.2.many)/\HT.lexLt [a,b] [c,d]=true/\∃ z:En,W.mf a b=some z/\z.2=(c,d):=by
 obtain⟨p,hp,e,he,hl⟩:=je h
 obtain⟨z,hz,lt,eq⟩:=cw hl
 injection eq with e1 eq
 injection eq with e2 eq
 injection eq with e3 eq
 injection eq with e4 _
 subst e1 e2 e3 e4
 exact⟨⟨p,hp,U,by omega,he⟩,lt,z,hz,U⟩
theorem nZ {α:Type}{l:List α}{p:Nat}{x:α} (h:x ∈ l.take p):∃ j:Nat,j<p/\l[j]?=some x:=by
 obtain⟨j,hj⟩:=List.mem_iff_getElem?.mp h
 rw[List.getElem?_take] at hj
 split at hj
 ·exact⟨j,by assumption,hj⟩
 ·cases hj
theorem lK {α:Type}{R:α->α->Prop}{l:List α} (h:l.Pairwise R) {p:Nat}{q:α} (hq:l[p]?=some q):∀ x ∈ l.take p,R x q:=fun x hx=>by
 obtain⟨j,hj,hx⟩:=nZ hx
 obtain⟨h1,e1⟩:=List.getElem?_eq_some_iff.mp hq
 obtain⟨h2,e2⟩:=List.getElem?_eq_some_iff.mp hx
 have:=List.pairwise_iff_getElem.mp h j p h2 h1 hj
 rwa [e1,e2] at this
theorem fi {α:Type}{l:List α}{p:Nat}{q:α} (hq:l[p]?=some q):l.take (p+1)=l.take p++[q]:=by rw[List.take_succ,hq]; rfl
theorem j6 {W:Wd}{s:Sd}{nx:Int} (B:BF W s KS nx) {l:Nat}{a b c d:Int} (h:(lkR W KS)[l]?=some [a,b,c,d]) {N:Kn} (M:Mts ((lkR W KS).take l) m N):aq m (kE a b)=none/\aq m (kE c d)=none:=by
 obtain⟨_,lt,z,hz,ez⟩:=dE (wj h)
 obtain⟨_,z2,hz2,ez2⟩:=B.sy _ _ _ hz
 rw[ez] at hz2
 have key:∀ a' b' c' d':Int,[a',b',c',d'] ∈ (lkR W KS).take l->¬ (a,b)=(a',b')/\¬ (a,b)=(c',d')/\¬ (c,d)=(a',b')/\¬ (c,d)=(c',d'):=fun a' b' c' d' hl=>by
  have ri:a'<a∨(a'=a/\b'<b):=lK (lZ W B.ri) h _ hl
  obtain⟨_,lt',z',hz',ez'⟩:=dE (List.mem_of_mem_take hl)
  obtain⟨_,z2',hz2',ez2'⟩:=B.sy _ _ _ hz'
  rw[ez'] at hz2'
  rw[lt2] at lt lt'
  refine⟨fun e=>?_,fun e=>?_,fun e=>?_,fun e=>?_⟩
  ·injection e with e1 e2; omega
  ·injection e with e1 e2
   subst e1 e2
   rw[hz] at hz2'
   rw[Option.some.inj hz2',ez2'] at ez
   injection ez with x1 x2
   omega
  ·injection e with e1 e2
   subst e1 e2
   dsimp only at hz2
   rw[hz'] at hz2
   rw[Option.some.inj hz2,ez2] at ez'
   injection ez' with x1 x2
   omega
  ·injection e with e1 e2
   subst e1 e2
   dsimp only at hz2 hz2'
   rw[hz2] at hz2'
   rw[Option.some.inj hz2',ez2'] at ez2
   injection ez2 with x1 x2
   omega
 constructor
 ·cases hv:aq m (kE a b) with
  | none=>rfl
  | some v=>
   obtain⟨a',b',c',d',hl,ho⟩:=M.b a b (by rw[hv]; exact fun e=>(nomatch e))
   have k:=key _ _ _ _ hl
   rcases ho with ho | ho
   ·exact absurd ho k.1
   ·exact absurd ho k.2.1
 ·cases hv:aq m (kE c d) with
  | none=>rfl
  | some v=>
   obtain⟨a',b',c',d',hl,ho⟩:=M.b c d (by rw[hv]; exact fun e=>(nomatch e))
   have k:=key _ _ _ _ hl
   rcases ho with ho | ho
   ·exact absurd ho k.2.2.1
   ·exact absurd ho k.2.2.2
structure Yi (W:Wd) (s:Sd) (KS:List (Int×Kd)) (nx:Int) (r p l e g:Nat) (y:YR) (N:Kn):Prop where
 sd:y.sides=(s.ss.take r).map V.int
 kd:y.kinds=iw (KS.take p)
 kv:∀ q ∈ KS.take p,aq y.kinds (Sum.inl q.1)=some (.str q.2.str)
 no:∀ q ∈ KS.take p,aq y.notes (Sum.inl q.1)=if q.2=.bell then some (.int (W.nf q.1)) else none
 ro:∀ q ∈ KS.take p,aq y.rods (Sum.inl q.1)=if q.2.point=true then some (.int (W.rf q.1)) else none
 fr:∀ n:Int,(∀ q ∈ KS.take p,¬ q.1=n)->aq y.kinds (Sum.inl n)=none/\aq y.notes (Sum.inl n)=none/\aq y.rods (Sum.inl n)=none
 nl:y.notes.length<=p
 rl:y.rods.length<=p
 m:Mts ((lkR W KS).take l) y.mates N
 ml:y.mates.length<=2*l
 en:(e=0/\y.eng=.non)∨(e=1/\∃ (z:En) (c:Addr),s.at_=some z/\y.eng=.ref c/\(c,HO.tup [.int z.2.1,.int z.2.2]) ∈ N)
 rg:(g=0/\y.rung=[])∨(g=1/\y.rung=s.rg.map V.int)
 nx:y.next<=nx
 tl:y.trail=[]
section
variable {W:Wd}{s:Sd}{KS:List (Int×Kd)}{nx:Int}{r p l e g:Nat}{y:YR}{N:Kn}
theorem Yi.nil (h:0<=nx):Yi W s KS nx 0 0 0 0 0 y0 N:=⟨U,U,fun _ h=>(nomatch h),fun _ h=>(nomatch h),fun _ h=>(nomatch h),fun _ _=>⟨U,U,U⟩,Nat.le_refl _,Nat.le_refl _,Mts.nil N,Nat.le_refl _,.inl ⟨U,U⟩,.inl ⟨U,U⟩,h,U⟩
theorem Yi.rod (Y:Yi W s KS nx r p l e g y N) {v:Int} (h:s.ss[r]?=some v):Yi W s KS nx (r+1) p l e g { y with sides:=y.sides++[.int v],trail:=[] } N :=
 ⟨by show y.sides++[.int v]=_; rw[fi h,wg,Y.sd]; rfl,Y.kd,Y.kv,Y.no,Y.ro,Y.fr,Y.nl,Y.rl,Y.m,Y.ml,Y.en,Y.rg,Y.nx,U⟩
theorem Yi.piece (B:BF W s KS nx) (Y:Yi W s KS nx r p l e g y N) {q:Int×Kd} (h:KS[p]?=some q) {v:Int} (hb:q.2=.bell->v=W.nf q.1) (hp:q.2.point=true->v=W.rf q.1) :
  Yi W s KS nx r (p+1) l e g (du { y with next:=q.1 } q.2 v (.int v)) N:=by
 have lt:=lK B.ri h
 have fr:=Y.fr q.1 (fun q' hq' e=>by have:=lt q' hq'; omega)
 have tk:=fi h
 have kq:∀ {n:Int},(Sum.inl n:Key)=Sum.inl q.1->n=q.1:=fun e=>by injection e
 have nn:∀ n:Int,¬ n=q.1->aq (if q.2=.bell then aO y.notes (Sum.inl q.1) (.int v) else y.notes) (Sum.inl n)=aq y.notes (Sum.inl n):=fun n hn=>by
  split
  ·rw[aN,if_neg (fun e=>hn (kq e))]
  ·rfl
 have rn:∀ n:Int,¬ n=q.1->aq (if q.2.point=true then aO y.rods (Sum.inl q.1) (if V.int v=.non then .int y.sides.length else .int v) else y.rods) (Sum.inl n)=aq y.rods (Sum.inl n):=fun n hn=>by
  split
  ·rw[aN,if_neg (fun e=>hn (kq e))]
  ·rfl
 refine⟨?_,?_,fun q' hq'=>?_,fun q' hq'=>?_,fun q' hq'=>?_,fun n hn=>?_,?_,?_,Y.m,Y.ml,Y.en,Y.rg,?_,U⟩
 ·show(if q.2.point=true/\V.int v=.non then y.sides++[.int 1] else y.sides)=_
  rw[if_neg (fun h=>by cases h.2)]
  exact Y.sd
 ·show aO y.kinds (Sum.inl q.1) (.str q.2.str)=_
  rw[cM _ fr.1,tk,Y.kd]
  unfold iw
  rw[wg]
  rfl
 ·show aq (aO y.kinds (Sum.inl q.1) (.str q.2.str)) (Sum.inl q'.1)=_
  rw[tk] at hq'
  rw[aN]
  rcases wq.mp hq' with hq' | hq'
  ·rw[if_neg (fun e=>by have:=kq e; have:=lt q' hq'; omega)]
   exact Y.kv q' hq'
  ·cases wo.mp hq'
   rw[if_pos rfl]
 ·show aq (if q.2=.bell then aO y.notes (Sum.inl q.1) (.int v) else y.notes) (Sum.inl q'.1)=_
  rw[tk] at hq'
  rcases wq.mp hq' with hq' | hq'
  ·rw[nn _ (by have:=lt q' hq'; omega)]
   exact Y.no q' hq'
  ·cases wo.mp hq'
   by_cases c:q.2=.bell
   ·rw[if_pos c,if_pos c,aN,if_pos rfl,hb c]
   ·rw[if_neg c,if_neg c,fr.2.1]
 ·show aq (if q.2.point=true then aO y.rods (Sum.inl q.1) (if V.int v=.non then .int y.sides.length else .int v) else y.rods) (Sum.inl q'.1)=_
  rw[tk] at hq'
  rcases wq.mp hq' with hq' | hq'
  ·rw[rn _ (by have:=lt q' hq'; omega)]
   exact Y.ro q' hq'
  ·cases wo.mp hq'
   by_cases c:q.2.point=true
   ·rw[if_pos c,if_pos c,aN,if_pos rfl,if_neg (fun e=>by cases e),hp c]
   ·rw[if_neg c,if_neg c,fr.2.2]
 ·rw[tk] at hn
  have nq:¬ n=q.1:=fun e=>hn q (by simp) e.symm
  have f:=Y.fr n (fun q' hq'=>hn q' (wA _ hq'))
  refine⟨?_,(nn n nq).trans f.2.1,(rn n nq).trans f.2.2⟩
  show aq (aO y.kinds (Sum.inl q.1) (.str q.2.str)) (Sum.inl n)=_
  rw[aN,if_neg (fun e=>nq (kq e))]
  exact f.1
 ·show(if q.2=.bell then aO y.notes (Sum.inl q.1) (.int v) else y.notes).length<=_
  have:=Y.nl
  split
  ·rw[cM _ fr.2.1,wf]; simp; omega
  ·omega
 ·show(if q.2.point=true then aO y.rods (Sum.inl q.1) (if V.int v=.non then .int y.sides.length else .int v) else y.rods).length<=_
  have:=Y.rl
  split
  ·rw[cM _ fr.2.2,wf]; simp; omega
  ·omega
 ·have:=B.kn q (wj h)
  show q.1+1<=nx
  omega
theorem Yi.link (B:BF W s KS nx) (Y:Yi W s KS nx r p l e g y N) {a b c d:Int} (h:(lkR W KS)[l]?=some [a,b,c,d]) (b1 b2:Addr) :
  Yi W s KS nx r p (l+1) e g { y with mates:=aO (aO y.mates (kE a b) (.ref b2)) (kE c d) (.ref b1),trail:=[] } ((b1,HO.tup [.int a,.int b])::(b2,HO.tup [.int c,.int d])::N):=by
 obtain⟨v1,v2⟩:=j6 B h Y.m
 obtain⟨_,lt,_⟩:=dE (wj h)
 have ne:=(gR lt).2
 refine⟨Y.sd,Y.kd,Y.kv,Y.no,Y.ro,Y.fr,Y.nl,Y.rl,by rw[fi h]; exact Y.m.put v1 v2 ne b1 b2,?_,?_,Y.rg,Y.nx,U⟩
 ·show(aO (aO y.mates (kE a b) (.ref b2)) (kE c d) (.ref b1)).length<=_
  have:=Y.ml
  rw[cM _ (by rw[aN,if_neg (fun e=>ne e.symm)]; exact v2),cM _ v1,wf,wf]
  simp
  omega
 ·rcases Y.en with h | ⟨h,z,c,h1,h2,h3⟩
  ·exact .inl h
  ·exact .inr ⟨h,z,c,h1,h2,by simp[h3]⟩
theorem Yi.eng (Y:Yi W s KS nx r p l e g y N) {z:En} (hz:s.at_=some z) (c:Addr):Yi W s KS nx r p l 1 g { y with eng:=.ref c,trail:=[] } ((c,HO.tup [.int z.2.1,.int z.2.2])::N) :=
 ⟨Y.sd,Y.kd,Y.kv,Y.no,Y.ro,Y.fr,Y.nl,Y.rl,Y.m.mono (fun x hx=>wc _ hx),Y.ml,.inr ⟨U,z,c,hz,U,we⟩,Y.rg,Y.nx,U⟩
theorem Yi.rung (Y:Yi W s KS nx r p l e g y N):Yi W s KS nx r p l e 1 { y with rung:=s.rg.map V.int } N :=
 ⟨Y.sd,Y.kd,Y.kv,Y.no,Y.ro,Y.fr,Y.nl,Y.rl,Y.m,Y.ml,Y.en,.inr ⟨U,U⟩,Y.nx,Y.tl⟩
theorem Yi.small (B:BF W s KS nx) (Y:Yi W s KS nx r p l e g y N) (hp:p<=30) (hl:l<=100):cC y:=by
 have h1:=Y.nl
 have h2:=Y.rl
 have h3:=Y.ml
 have h4:=B.sl
 have h5:=B.rl
 refine⟨by rw[Y.kd]; unfold iw; rw[v9,wy]; omega,by omega,by omega,by rw[Y.sd,v9,wy]; omega,by omega,?_,by rw[Y.tl]; decide⟩
 rcases Y.rg with ⟨_,h⟩ | ⟨_,h⟩
 ·rw[h]; decide
 ·rw[h,v9]; omega
end
end P
namespace L2
open PySem PySem.Spec PyProof.Rows
section
variable {X:Cx}
noncomputable def gTupL (K:PySem.W.Frag) (n:Nat) (t:TGs):TG:=fun v σ H Q=>∃ a xs,v=.ref a/\SqL K H a xs/\xs.length=n/\t xs σ H Q
theorem qJ {es:List Expr}{k:Nat}{t:TGs}{n:Nat}{pos:Pos} (hc:X.calm=true) (h:PGs X es t)
  (hn:(assignEach es X.env).length=n:=by rfl) (hst:(assignEach es X.env).findIdx? (·.1)=none:=by rfl):PG X (.Tuple es k pos) (gTupL X.K n t):=by
 intro pins s σ H v u Q I r hw
 obtain⟨a,xs,e1,hq,hl,hw⟩:=hw
 subst e1
 cases r
 obtain⟨its,rv,ht,hz⟩:=I.list hq
 obtain⟨o,m,ho,hcl,_,hd⟩:=ht
 have il:s.heap.IsList a its.toArray:=⟨o,ho,hcl,m,hd⟩
 have le:its.length=n:=by rw[<- hl]; exact(rv.length).symm
 rw[assign_Tuple]
 refine wpAny_bind (wpAny_standAt ?_)
 unfold unpack
 rw[hn,hst,show n=its.toArray.size by simp[le]]
 refine wpAny_bind (wpAny_holding (W.kun_itemsOf (I.ok.hd hc) il fun h' hx=>?_))
 have I1:Inv X pins σ H { s with heap:=h' }:=I.kept (t':=s.toks) fun b o e=>hx b o (Nat.ne_of_lt (Heap.lt_size e)) e
 exact h pins _ σ H xs _ Q I1 (by simpa using rv) hw
end
end L2
set_option maxHeartbeats 4000000
namespace P
open PySem L2
inductive sp_bld (C:Addr) (vs:List V) (H:Hp) (Q:VK) (E_:XK):Prop
 | mk (rl:Addr) (zs:List LnA) (W:Wd) (s:Sd) (KS:List (Int×Kd)) (nx:Int) (L:Kn) (_:vs=[.ref rl]) (_:Has H L) (_:(rl,HO.lst (zs.map fun z=>V.ref z.p)) ∈ L) (_:LnIn zs L) (_:(zs.map fun z=>(z.w,z.n))=ytR W s KS nx) (_:BF W s KS nx) (_:∀ H' A y N,Has H' (yL C A y++(N++L))->Yi W s KS nx s.ss.length KS.length (lkR W KS).length (enR s).length (rgR s).length y N->y.next=nx->Q (.ref A.p) H'):sp_bld C vs H Q E_
theorem ap0 {α:Type}{a b:List α}{i:Nat}{x:α} (h:(a++b)[i]?=some x) (hi:i<a.length):a[i]?=some x:=by rwa [wr hi] at h
theorem ap1 {α:Type}{a b:List α}{i j:Nat}{x:α} (h:(a++b)[i]?=some x) (e:i=a.length+j):b[j]?=some x:=by rwa [e,wn (by omega),show a.length+j - a.length=j by omega] at h
structure Cn (i R P LL E G r p l e g:Nat):Prop where
 ci:i=r+p+l+e+g
 cr:r<=R
 cp:p<=P
 cl:l<=LL
 ce:e<=E
 cg:g<=G
 p0:0<p->r=R
 l0:0<l->r=R/\p=P
 e0:0<e->r=R/\p=P/\l=LL
 g0:0<g->r=R/\p=P/\l=LL/\e=E
variable{KS:List (Int×Kd)}{s:Sd}
theorem BF.th {W:Wd}{nx:Int}{r l e g:Nat}{y:YR}{N:Kn} (Y:Yi W s KS nx r KS.length l e g y N) {a b:Int} (h:∃ p ∈ KS,p.1=a/\0<=b/\b<p.2.many):cP y a b:=by
 obtain⟨p,hp,rfl,h1,h2⟩:=h
 exact⟨p.2,Y.kv p (by rw[List.take_length]; exact hp),h1,h2⟩
inductive bld1Inv (C_:Addr) (rl:Addr) (A1:YA) (nx:Int) (s:Sd) (KS:List (Int×Kd)) (W:Wd) (L1:Kn) (i:Nat) (σ':St) (H':Hp):Prop
 | mk (A:YA) (y:YR) (N:Kn) (r p l e g:Nat) (o4 o5:Option V) (_:A.p=A1.p) (_:σ'=[some (.ref rl),some (.ref A1.p),some (.int nx),some (.int (s.ss.length:Int)),o4,o5]) (_:Cn i s.ss.length KS.length (lkR W KS).length (enR s).length (rgR s).length r p l e g) (_:Yi W s KS nx r p l e g y N) (_:Has H' (yL C_ A y++(N++L1))):bld1Inv C_ rl A1 nx s KS W L1 i σ' H'
section
variable {P:Program}{w:World}{K:PySem.W.Frag}{mg:Str->Option Value}{base:Heap}{t:Adr}
theorem scBd:FnScope ["rows","yard","next_piece","next_rod","word","numbers"] ["rows"] (ah lH):={}
theorem pp (T:Txt K mg t):FnOk P w K mg base CX0 7 t.f_build t.d_build ["rows"] (sp_bld t.c_Yard):=by
 refine T.F_build.ok scBd (fun vs H Q E h=>?_) (fun cdv A outer s H vs Q E hr h=>?_)
 ·obtain⟨_,_,_,_,_,_,_,rfl,_⟩:=h
  rfl
 ·obtain⟨rl,zs,W,s,KS,nx,L,rfl,hH,ml,li,er,B,q⟩:=h
  refine⟨_,(ab (aB (i:=1) scBd.nd rfl (Or.inl rfl) (jM T.mk_Yard (sM T) (hr.mono (by decide)) (by rfl) T.m_Yard (vY T) .nil aH))
   (ab (bA (aI cE (aI au (pv 0) ag (fun _ _=>rfl)) ag) (qJ rfl (ap (aj (i:=2) scBd.nd rfl (Or.inl rfl)) (ap (aj (i:=3) scBd.nd rfl (Or.inl rfl)) ba))))
   (ab (bm PassesOwn.never rfl (bW (cZ fS (pv 0) (dM ag) dN)) (bB rfl (ap (aj (i:=4) scBd.nd rfl (Or.inl rfl)) (ap (aj (i:=5) scBd.nd rfl (Or.inl rfl)) ba)))
    (af (al (pcl (ph T) hr T.m_enter T.F_enter.kp (rG T) (aa (pv 1) (aa (pv 4) (aa (pv 5) ae)))))))
   (ab (av (ai dB (aG aA (by rfl) T.z_len (by rfl) (aa (aJ (pv 1) rfl) ae)) (pv 3) (am _))
    (af aX)
    ak)
   (ab (av (ai eG (aJ (pv 1) rfl) (pv 2) (am _))
    (af aX)
    ak)
   (ab (bK (pv 1) (pv 2) rfl)
   (af (ao (pv 1))))))))),?_⟩
  rw[show L2.start ["rows","yard","next_piece","next_rod","word","numbers"] [V.ref rl]=([some (V.ref rl),none,none,none,none,none]:St) from rfl]
  obtain⟨z0,zr,ez⟩:∃ z0 zr,zs=z0::zr:=by
   cases zs with
   | nil=>cases er
   | cons a b=>exact⟨a,b,U⟩
  subst ez
  have er1:(zr.map fun z=>(z.w,z.n))=rdR s++(KS.map (pcR W)++((lkR W KS).map (fun l=>(("link" : Str),l))++(enR s++rgR s))):=by injection er
  have e0:z0.n=[nx,(s.ss.length:Int)]:=by
   injection er with e1 _
   injection e1
  intro p1 dx1 hp1 hdx1 ne1
  refine⟨p1,dx1,_,U,(hH.alloc hdx1 (.own p1)).alloc (by rw[aQ (Ne.symm ne1)]; exact hp1) (.ins t.c_Yard dx1 []),fun H2 A1 e1 h=>⟨U,?_⟩⟩
  subst e1
  clear hp1 hdx1 ne1 hH
  have m0:z0 ∈ z0::zr:=we
  have gr:∀ {H':Hp}{X:Kn},Has H' (X++L)->SqL K H' rl ((z0::zr).map fun z=>V.ref z.p):=fun h=>SqL.of (h.at_ _ (wb _ ml))
  refine⟨_,U,rl,_,_,_,U,U,gr h,aK (j:=0) rfl,z0.p,_,_,_,U,U,SqT.of (h.at_ _ (wb _ (li.p z0 m0))),aK (j:=1) rfl,?_⟩
  refine⟨z0.l,_,U,SqL.of (h.at_ _ (wb _ (li.l z0 m0))),by rw[v9,e0]; rfl,?_⟩
  rw[e0]
  refine⟨_,_,U,_,_,U,U,?_⟩
  dsimp only[List.set]
  refine⟨_,U,_,U,rl,_,U,gr h,fun sl hsl=>?_⟩
  have ecut:cQ ((z0::zr).map fun z=>V.ref z.p) (some 1) none=zr.map fun z=>V.ref z.p:=by
   unfold cQ
   have e1:HT.sIx ((z0::zr).map fun z=>V.ref z.p).length 0 (some 1)=1:=by simp[HT.sIx]
   rw[e1]
   show((zr.map fun z=>V.ref z.p)).take (((z0::zr).map fun z=>V.ref z.p).length - 1)=_
   exact List.take_of_length_le (by simp)
  rw[ecut]
  obtain⟨L1,hL1,msl,mL⟩:∃ L1:Kn,(sl,HO.lst (zr.map fun z=>V.ref z.p))::L=L1/\(sl,HO.lst (zr.map fun z=>V.ref z.p)) ∈ L1/\∀ x ∈ L,x ∈ L1:=⟨_,U,we,fun x hx=>wc _ hx⟩
  have h1:Has (upd H2 sl (.lst (zr.map fun z=>V.ref z.p))) (yL t.c_Yard A1 y0++L1):=by rw[<- hL1]; exact Has.comm (X:=[_]) (Y:=yL t.c_Yard A1 y0) (R:=L) (h.alloc hsl (.lst (zr.map fun z=>V.ref z.p)))
  generalize upd H2 sl _=H3 at h1 ⊢
  clear h hsl
  have kl:=B.kl
  have LLl:=jf W KS
  have lz:zr.length=s.ss.length+(KS.length+((lkR W KS).length+((enR s).length+(rgR s).length))):=by
   have:=congrArg List.length er1
   simp only[v9,wf] at this
   rw[this]
   unfold rdR
   simp
  refine⟨sl,U,⟨_,SqL.of (h1.at_ _ (wb _ msl))⟩,cA (xs:=zr.map fun z=>V.ref z.p) (bld1Inv t.c_Yard rl A1 nx s KS W L1)
   ⟨A1,y0,[],0,0,0,0,0,_,_,U,U,⟨U,Nat.zero_le _,Nat.zero_le _,Nat.zero_le _,Nat.zero_le _,Nat.zero_le _,by omega,by omega,by omega,by omega⟩,Yi.nil B.nx.1,h1⟩ (fun i σ H' _ ⟨A,y,N,r,p,l,e,g,o4,o5,_,_,_,_,h⟩=>SqL.of (h.at_ _ (wb _ (wb _ msl)))) ?_ ?_⟩
  ·rintro i v σ H4 hi ⟨A,y,N,r,p,l,e,g,o4,o5,eA,rfl,cn,Y,h4⟩
   rw[wd] at hi
   obtain⟨z,hz,rfl⟩:=Option.map_eq_some_iff.mp hi
   have mz:z ∈ z0::zr:=wc _ (wj hz)
   have hil:i<zr.length:=(List.getElem?_eq_some_iff.mp hz).1
   have rw0:(rdR s++(KS.map (pcR W)++((lkR W KS).map (fun l=>(("link" : Str),l))++(enR s++rgR s))))[i]?=some (z.w,z.n):=by rw[<- er1,wd,hz]; rfl
   have rdl:(rdR s).length=s.ss.length:=by unfold rdR; simp
   have c1:=cn.ci
   have c2:=cn.cr
   have c3:=cn.cp
   have c4:=cn.cl
   have c5:=cn.ce
   have c6:=cn.cg
   have c7:=cn.p0
   have c8:=cn.l0
   have c9:=cn.e0
   have c10:=cn.g0
   have el1:=jq s
   have gl1:=i5 s
   have sm:cC y:=Y.small B (by omega) (by omega)
   have mzl:(z.l,HO.lst (z.n.map V.int)) ∈ N++L1:=wb _ (mL _ (li.l z mz))
   refine⟨z.p,_,U,SqT.of (h4.at_ _ (wb _ (wb _ (mL _ (li.p z mz))))),U,_,_,U,_,_,U,U,?_⟩
   dsimp only[List.set]
   refine⟨_,U,_,U,_,U,A,y,N++L1,z.w,z.l,z.n,by rw[eA]; rfl,h4,mzl,sm,?_⟩
   by_cases r1:r<s.ss.length
   ·-- a rod
    have x1:=ap0 rw0 (by omega)
    unfold rdR at x1
    rw[wd,List.getElem?_range (by omega)] at x1
    have x2:=Option.some.inj x1
    injection x2 with w1 w2
    have hr:s.ss[r]?=some s.ss[r]:=wa r1
    have ei:i=r:=by omega
    have gd:s.ss.getD i 0=s.ss[r]:=by rw[ei]; simp[List.getD,r1]
    refine .inl ⟨w1.symm,s.ss[r],?_,B.s12 _ (List.getElem_mem r1),fun H5 A' eA' h5=>?_⟩
    ·rw[<- w2,gd,Y.sd,v9,wy,ei,Nat.min_eq_left c2]
    ·exact⟨A',_,N,r+1,p,l,e,g,_,_,eA'.trans eA,U,⟨by omega,by omega,by omega,by omega,by omega,by omega,by omega,by omega,by omega,by omega⟩,Y.rod hr,h5⟩
   have er:r=s.ss.length:=by omega
   have rw1:=ap1 rw0 (j:=p+l+e+g) (by omega)
   by_cases p1:p<KS.length
   ·-- a piece
    have ei:p+l+e+g=p:=by omega
    rw[ei] at rw1
    have x1:=ap0 rw1 (by rw[v9]; omega)
    rw[wd] at x1
    obtain⟨q,hq,x2⟩:=Option.map_eq_some_iff.mp x1
    injection x2 with w1 w2
    have mq:=wj hq
    have hd:z.n.head?=some q.1:=by
     rw[<- w2]; unfold pcN; split
     ·rfl
     ·split <;> rfl
    obtain⟨v,hv,hb,hp⟩:∃ v,z.n.getLast?=some v/\(q.2=.bell->v=W.nf q.1)/\(q.2.point=true->v=W.rf q.1):=by
     rw[<- w2]; unfold pcN
     by_cases k1:q.2=.bell
     ·rw[if_pos k1]
      exact⟨_,U,fun _=>rfl,fun k2=>by rw[k1] at k2; cases k2⟩
     ·rw[if_neg k1]
      by_cases k2:q.2.point=true
      ·rw[if_pos k2]
       exact⟨_,U,fun k=>absurd k k1,fun _=>rfl⟩
      ·rw[if_neg k2]
       exact⟨_,U,fun k=>absurd k k1,fun k=>absurd k k2⟩
    refine .inr (.inr (.inr (.inr ⟨q.2,q.1,v,w1.symm,hd,hv,fun k=>by rw[hb k]; exact B.bl q mq k,fun k=>?_,fun H5 A' eA' h5=>?_⟩)))
    ·rw[hp k,Y.sd,v9,wy,er,Nat.min_self]; exact B.rr q mq k
    ·exact⟨A',_,N,r,p+1,l,e,g,_,_,eA'.trans eA,U,⟨by omega,by omega,by omega,by omega,by omega,by omega,by omega,by omega,by omega,by omega⟩,Y.piece B hq hb hp,h5⟩
   have ep:p=KS.length:=by omega
   subst ep
   have rw2:=ap1 rw1 (j:=l+e+g) (by rw[v9]; omega)
   by_cases l1:l<(lkR W KS).length
   ·-- a link
    have ei:l+e+g=l:=by omega
    rw[ei] at rw2
    have x1:=ap0 rw2 (by rw[v9]; omega)
    rw[wd] at x1
    obtain⟨k,hk,x2⟩:=Option.map_eq_some_iff.mp x1
    injection x2 with w1 w2
    obtain⟨p0,_,e0',_,hl0⟩:=je (wj hk)
    obtain⟨zz,_,_,ek⟩:=cw hl0
    rw[ek] at hk w2
    obtain⟨th1,lt,z1,hz1,ez1⟩:=dE (wj hk)
    have th2:=B.mo _ _ _ hz1
    rw[ez1] at th2
    obtain⟨v1,v2⟩:=j6 B hk Y.m
    refine .inr (.inl ⟨w1.symm,_,_,_,_,w2.symm,lt,BF.th Y th1,BF.th Y th2,v1,v2,fun H5 A' b1 b2 eA' h5=>?_⟩)
    exact⟨A',_,_,r,_,l+1,e,g,_,_,eA'.trans eA,U,⟨by omega,by omega,by omega,by omega,by omega,by omega,by omega,by omega,by omega,by omega⟩,Y.link B hk b1 b2,h5⟩
   have el:l=(lkR W KS).length:=by omega
   have rw3:=ap1 rw2 (j:=e+g) (by rw[v9]; omega)
   by_cases e1:e<(enR s).length
   ·-- the engine
    have ei:e+g=0:=by omega
    have ee:e=0:=by omega
    rw[ei] at rw3
    have x1:=ap0 rw3 (by omega)
    cases ha:s.at_ with
    | none=>unfold enR at x1; rw[ha] at x1; cases x1
    | some u=>
     unfold enR at x1
     rw[ha] at x1
     have x2:=Option.some.inj x1
     injection x2 with w1 w2
     refine .inr (.inr (.inl ⟨w1.symm,_,_,w2.symm,BF.th Y (B.en u ha),fun H5 A' c eA' h5=>?_⟩))
     exact⟨A',_,_,r,_,l,1,g,_,_,eA'.trans eA,U,⟨by omega,by omega,by omega,by omega,by omega,by omega,by omega,by omega,by omega,by omega⟩,Y.eng ha c,h5⟩
   have ee:e=(enR s).length:=by omega
   have rw4:=ap1 rw3 (j:=g) (by omega)
   have g1:g<(rgR s).length:=by omega
   have eg:g=0:=by omega
   rw[eg] at rw4
   have hne:¬ s.rg=[]:=fun e=>by unfold rgR at rw4; rw[if_pos e] at rw4; cases rw4
   unfold rgR at rw4
   rw[if_neg hne] at rw4
   have x2:=Option.some.inj rw4
   injection x2 with w1 w2
   have rl:=B.rl
   refine .inr (.inr (.inr (.inl ⟨w1.symm,by rw[<- w2]; exact B.rg,by rw[<- w2]; omega,fun H5 A' eA' h5=>?_⟩)))
   rw[<- w2] at h5
   exact⟨A',_,N,r,_,l,e,1,_,_,eA'.trans eA,U,⟨by omega,by omega,by omega,by omega,by omega,by omega,by omega,by omega,by omega,by omega⟩,Y.rung,h5⟩
  ·rintro σ H4 ⟨A,y,N,r,p,l,e,g,o4,o5,eA,rfl,cn,Y,h4⟩
   rw[v9] at cn
   have c1:=cn.ci
   have c2:=cn.cr
   have c3:=cn.cp
   have c4:=cn.cl
   have c5:=cn.ce
   have c6:=cn.cg
   have a1:r=s.ss.length:=by omega
   have a2:p=KS.length:=by omega
   have a3:l=(lkR W KS).length:=by omega
   have a4:e=(enR s).length:=by omega
   have a5:g=(rgR s).length:=by omega
   subst a1 a2 a3 a4 a5
   rw[<- eA]
   have ysl:y.sides.length=s.ss.length:=by rw[Y.sd,v9,wy,Nat.min_self]
   refine⟨_,U,A.p,_,A.dx,_,_,U,h4.get 1 U,T.cl_Yard,T.n_Yard_sides,bM _ _ _,A.s,_,U,.inl (SqL.of (h4.get 6 U)),_,U,U,_,U,ifF (by rw[ysl,decide_eq_true rfl]; rfl) ?_⟩
   refine⟨_,U,A.p,_,A.dx,_,_,U,h4.get 1 U,T.cl_Yard,T.n_Yard_next_piece,f7 _ _ _,_,U,_,_,U,U,_,U,ifF (decide_eq_false (by have:=Y.nx; omega)) ?_⟩
   refine⟨_,U,_,U,A.p,_,A.dx,_,U,h4.get 1 U,T.cl_Yard,T.n_Yard_next_piece,(show 9<1000 by decide),?_⟩
   rw[dG]
   have h5:Has _ (yL t.c_Yard A { y with next:=nx }++(N++L1)):=h4.puti 1 U (.ins t.c_Yard A.dx (fl A nx y.eng))
   generalize upd H4 A.p _=H5 at h5 ⊢
   refine⟨_,U,?_⟩
   refine q _ A { y with next:=nx } N ?_ ⟨Y.sd,Y.kd,Y.kv,Y.no,Y.ro,Y.fr,Y.nl,Y.rl,Y.m,Y.ml,Y.en,Y.rg,Int.le_refl _,Y.tl⟩ rfl
   rw[<- hL1] at h5
   exact Has.sub h5 (List.Sublist.append (List.Sublist.refl _) (List.Sublist.append (List.Sublist.refl _) (List.Sublist.cons _ (List.Sublist.refl _))))
end
theorem iN {c:Nat}{sep:Str} (hs:ij c sep):∀ {ys:List Str},(∀ y ∈ ys,ij c y)->ij c (Str.join sep ys)
 | [],_=>by
  show c ∉ (Str.join sep []).cps.toList
  intro h
  cases h
 | [y],h=>h y we
 | y::z::r,h=>by
  show c ∉ (y++sep++Str.join sep (z::r)).cps.toList
  rw[Str.appL,Str.appL]
  intro m
  rcases wq.mp m with m | m
  ·rcases wq.mp m with m | m
   ·exact h y we m
   ·exact hs m
  ·exact iN hs (fun x hx=>h x (wc _ hx)) m
theorem pL {y:Str}{ns:List Int} (hy:ij 10 y) (hn:dU ns):ij 10 (lnT y ns):=by
 show ij 10 (Builtin.Str.glued " " (y::ns.map nT))
 rw[StrLaws.glued_eq_join]
 refine iN (by unfold ij; decide +kernel) (fun x hx=>?_)
 rcases wt.mp hx with rfl | hx
 ·exact hy
 ·obtain⟨n,hn',rfl⟩:=wv.mp hx
  exact lX (hn.2 n hn').1 (by decide)
theorem Kd.sfree (k:Kd):∀ c ∈ [10,32],¬ c ∈ k.str.cps.toList:=by cases k <;> decide +kernel
theorem rV {W:Wd}{nx:Int} (B:BF W s KS nx):∀ x ∈ ytR W s KS nx,(∀ c ∈ [10,32],¬ c ∈ x.1.cps.toList)/\x.1.length<=10/\dU x.2/\x.2.length<=30:=by
 intro x hx
 have n1:=B.nx
 have sl:=B.sl
 unfold ytR at hx
 simp only[wq,wt] at hx
 rcases hx with rfl | hx | hx | hx | hx | hx
 ·exact⟨by dsimp only; decide +kernel,by dsimp only; decide +kernel,cF ⟨n1.1,by omega⟩ ⟨by omega,by omega⟩,show 2<=30 by decide⟩
 ·obtain⟨i,hi,rfl⟩:=wv.mp hx
  have hi:=wG.mp hi
  have gs:s.ss[i]?=some (s.ss.getD i 0):=by rw[List.getD_eq_getElem?_getD,wa hi]; rfl
  have v12:=B.s12 _ (wj gs)
  exact⟨by dsimp only; decide +kernel,by dsimp only; decide +kernel,cF ⟨by omega,by omega⟩ ⟨by omega,by omega⟩,show 2<=30 by decide⟩
 ·obtain⟨p,hp,rfl⟩:=wv.mp hx
  have k:=B.kn p hp
  refine⟨p.2.sfree,p.2.strl,?_,?_⟩
  ·show dU (pcN W p)
   unfold pcN
   split
   ·have:=B.bl p hp (by assumption)
    exact cF ⟨k.1,by omega⟩ ⟨this.1,by omega⟩
   ·split
    ·have:=B.rr p hp (by assumption)
     exact cF ⟨k.1,by omega⟩ ⟨this.1,by omega⟩
    ·exact sS ⟨k.1,by omega⟩
  ·show(pcN W p).length<=30
   unfold pcN
   split
   ·show 2<=30; decide
   ·split
    ·show 2<=30; decide
    ·show 1<=30; decide
 ·obtain⟨l,hl,rfl⟩:=wv.mp hx
  obtain⟨p,hp,e,he,h2⟩:=je hl
  obtain⟨z,hz,_,rfl⟩:=cw h2
  have k:=B.kn p hp
  have m3:=p.2.m3
  obtain⟨p',hp',e1,e2,e3⟩:=B.mo _ _ _ hz
  have k':=B.kn p' hp'
  have m3':=p'.2.m3
  exact⟨by dsimp only; decide +kernel,by dsimp only; decide +kernel,lW ⟨k.1,by omega⟩ ⟨by omega,by omega⟩ ⟨by omega,by omega⟩ ⟨e2,by omega⟩,show 4<=30 by decide⟩
 ·unfold enR at hx
  split at hx
  ·rename_i z hz
   cases wo.mp hx
   obtain⟨p',hp',e1,e2,e3⟩:=B.en _ hz
   have k':=B.kn p' hp'
   have m3':=p'.2.m3
   exact⟨by dsimp only; decide +kernel,by dsimp only; decide +kernel,cF ⟨by omega,by omega⟩ ⟨e2,by omega⟩,show 2<=30 by decide⟩
  ·cases hx
 ·unfold rgR at hx
  split at hx
  ·cases hx
  ·cases wo.mp hx
   have rl:=B.rl
   exact⟨by dsimp only; decide +kernel,by dsimp only; decide +kernel,⟨by dsimp only; omega,fun n hn=>by have:=B.rg n hn; omega⟩,rl⟩
theorem mH {W:Wd}{nx:Int} (B:BF W s KS nx):Txt.split (ytT W s KS nx) "\n" = ytL W s KS nx/\(ytT W s KS nx).length<=1000000:=by
 have ok:=rV B
 have ln:=iV W s KS nx
 have kl:=B.kl
 have sl:=B.sl
 have eL:=nQ W s KS nx
 constructor
 ·show Txt.split (Builtin.Str.glued "\n" (ytL W s KS nx)) _=_
  rw[StrLaws.glued_eq_join]
  refine gu (c:=10) (by unfold ytL; simp) (fun x hx=>?_)
  rw[eL] at hx
  obtain⟨p,hp,rfl⟩:=wv.mp hx
  obtain⟨h1,h2,h3,h4⟩:=ok p hp
  exact pL (h1 10 (by simp)) h3
 ·have sh:∀ y ∈ ytL W s KS nx,y.length<=400:=fun y hy=>by
   rw[eL] at hy
   obtain⟨p,hp,rfl⟩:=wv.mp hy
   obtain⟨h1,h2,h3,h4⟩:=ok p hp
   exact cf h2 h3 h4
  have:=ji (sep := "\n") sh
  have l1:("\n" : Str).length=1:=by decide +kernel
  rw[l1,eL,v9] at this
  have h5:(ytT W s KS nx).length<=(ytR W s KS nx).length*(400+1):=by unfold ytT; rw[eL]; exact this
  omega
inductive sp_ry (C:Addr) (vs:List V) (H:Hp) (Q:VK) (E_:XK):Prop
 | mk (W:Wd) (s:Sd) (KS:List (Int×Kd)) (nx:Int) (L:Kn) (_:vs=[.str (ytT W s KS nx)]) (_:Has H L) (_:BF W s KS nx) (_:∀ H' A y N,Has H' (yL C A y++(N++L))->Yi W s KS nx s.ss.length KS.length (lkR W KS).length (enR s).length (rgR s).length y N->y.next=nx->Q (.ref A.p) H'):sp_ry C vs H Q E_
section
variable {P:Program}{w:World}{K:PySem.W.Frag}{mg:Str->Option Value}{base:Heap}{t:Adr}
theorem scRy:FnScope ["text","rows","error"] ["text"] (ah tM):={}
theorem sN (T:Txt K mg t):FnOk P w K mg base CX0 8 t.f_Js t.d_Js ["text"] (sp_ry t.c_Yard):=by
 refine T.F_Js.ok scRy (fun vs H Q E h=>?_) (fun cdv A outer s H vs Q E hr h=>?_)
 ·obtain⟨_,_,_,_,_,rfl,_⟩:=h
  rfl
 ·obtain⟨W,s,KS,nx,L,rfl,hH,B,q⟩:=h
  refine⟨_,(ab (qH (ix:=1) scRy.nd rfl (Or.inl rfl) (esc:=ah tM) (k:=1) ["line","text","rows","error"] rfl (bW (bi PySem.F.plainAttrs_str PySem.F.slot_str_split PySem.F.type_str_split jV (pv 0) (aa az ae))) (fun _ _ _ _ _=>by exact(aj (i:=0) (show List.Nodup (["line","text","rows","error"]:List Str) from by decide +kernel) rfl (Or.inl rfl))) (fun _ _ _ _ _=>by exact dL) (fun _ _ _ _ _=>by exact(pcl (uk T) hr T.m_J41 T.F_J41.kp (b_J41 T) (aa (pv 0) ae))) rfl (by decide +kernel) (by decide +kernel) rfl (by decide +kernel) (by rfl) (fun _ _ h _=>h) (by decide +kernel))
   (ab (al (pcl (ok_J9 T) hr T.m_J9 T.F_J9.kp (b_J9 T) (aa (pv 1) ae)))
   (af (qG (fun _ _ z=>z)
    (af (ao (pcl (pp T) hr T.m_build T.F_build.kp (rK T) (aa (pv 1) ae)))))))),?_⟩
  obtain⟨es,tl⟩:=mH B
  have ok:=rV B
  have ln:=iV W s KS nx
  have kl:=B.kl
  have sl:=B.sl
  refine⟨_,U,U,ytT W s KS nx,_,U,U,U,sz tl,?_,fun l hl=>?_⟩
  ·rw[es,nQ,v9]
   exact sz (by omega)
  rw[es,nQ]
  obtain⟨ls,els⟩:∃ ls,ytR W s KS nx=ls:=⟨_,U⟩
  rw[els] at ok ln ⊢
  have eml:((ls.map fun p=>lnT p.1 p.2).map V.str)=ls.map fun p=>V.str (lnT p.1 p.2):=by rw[wD]; rfl
  rw[eml]
  have h1:=hH.alloc hl (.lst (ls.map fun p=>V.str (lnT p.1 p.2)))
  refine⟨l,U,⟨_,SqL.of (h1.get 0 U)⟩,fun D hD=>?_⟩
  refine⟨fun n m zs H'=>∃ (qs:List LnA) (N:Kn),m=ls.length - n/\n<=ls.length/\zs=qs.map (fun z=>V.ref z.p)/\qs.map (fun z=>(z.w,z.n))=ls.take n/\LnIn qs N/\Has H' ((D,.lst zs)::(N++((l,.lst (ls.map fun p=>V.str (lnT p.1 p.2)))::L))),⟨_,[],[],U,Nat.zero_le _,U,U,⟨fun z hz=>(by cases hz),fun z hz=>(by cases hz)⟩,h1.alloc hD _⟩,?_⟩
  rintro n m zs H2 ⟨qs,N,rfl,hn,rfl,eq1,lin,h2⟩
  refine⟨h2.get 0 U,?_⟩
  have lq:qs.length=n:=by
   have:=congrArg List.length eq1
   simp at this
   omega
  have g1:H2 l=some (.lst (ls.map fun p=>V.str (lnT p.1 p.2))):=h2.at_ (l,_) (wc _ (wb _ we))
  by_cases hlt:n<ls.length
  ·have hx0:(ls.map fun p=>V.str (lnT p.1 p.2))[n]?=some (.str (lnT ls[n].1 ls[n].2)):=by rw[wd,wa hlt]; rfl
   refine .inr ⟨⟨_,_,SqL.of g1,hx0⟩,?_⟩
   rintro x H4 ⟨rfl,hx⟩
   have e1:=hx _ (SqL.of g1)
   rw[hx0] at e1
   cases e1
   have hb:=ok _ (List.getElem_mem hlt)
   obtain⟨rk,hrk⟩:∃ z ∈ ytZ W s KS nx,z.1=ls[n]:=by
    have:ls[n] ∈ (ytZ W s KS nx).map (·.1):=by rw[nP,els]; exact List.getElem_mem hlt
    obtain⟨z,hz,e⟩:=wv.mp this
    exact⟨z,hz,e⟩
   have rf:=nN rk hrk.1
   rw[hrk.2] at rf
   refine⟨U,fj ?_⟩
   refine⟨_,U,ls[n].1,ls[n].2,_,_,_,_,U,h2,hb.1 32 (by simp),by have:=hb.2.1; omega,hb.2.2.1,rf,fun H5 p k h5=>?_⟩
   have h6:=uO h5 2 rfl
   refine⟨sizeOk (by rw[v9]; omega),h6.get 0 U,ls.length - (n+1),by omega,qs++[⟨p,k,ls[n].1,ls[n].2⟩],(p,.tup [.str ls[n].1,.ref k])::(k,.lst (ls[n].2.map V.int))::N,U,hlt,by rw[wg]; rfl,?_,⟨fun z hz=>?_,fun z hz=>?_⟩,h6.puti 0 U _⟩
   ·rw[wg,eq1,List.take_succ,wa hlt]
    rfl
   ·rcases wq.mp hz with hz | hz
    ·exact wc _ (wc _ (lin.p z hz))
    ·cases wo.mp hz
     exact we
   ·rcases wq.mp hz with hz | hz
    ·exact wc _ (wc _ (lin.l z hz))
    ·cases wo.mp hz
     exact wc _ we
  ·refine .inl ⟨⟨_,SqL.of g1,by rw[v9]; omega⟩,?_⟩
   have en:n=ls.length:=by omega
   rw[en,List.take_length] at eq1
   dsimp only[List.set]
   have li2:LnIn qs ((D,.lst (qs.map fun z=>V.ref z.p))::(N++((l,.lst (ls.map fun p=>V.str (lnT p.1 p.2)))::L))):=lin.mono fun z hz=>wc _ (wA _ hz)
   have rn:Rnk (qs.map fun z=>(z.w,z.n)) ((ytZ W s KS nx).map (·.2)):=by rw[eq1,<- els]; exact qo B.ri kl sl
   refine⟨_,U,D,qs,_,_,U,h2,we,li2,rn,fun H3 h3=>?_⟩
   refine⟨_,U,D,qs,W,s,KS,nx,_,U,h3,we,li2,by rw[eq1,els],B,fun H4 A y M h4 Y ny=>?_⟩
   refine q _ A y M (Has.sub h4 ?_) Y ny
   exact List.Sublist.append (List.Sublist.refl _) (List.Sublist.append (List.Sublist.refl _) (List.Sublist.cons _ ((List.Sublist.cons _ (List.Sublist.refl _)).trans (List.sublist_append_right _ _))))
end
theorem ql (n:Nat):(List.replicate n true).all id=true:=by induction n with | zero=>rfl | succ n ih=>rw[List.replicate_succ,List.all_cons,ih]; rfl
noncomputable def tH:Sp:=fun vs H Q _=>(vs=[.non,.non]/\Q (.bl true) H)∨∃ (a b:Addr) (n e:Int),vs=[.ref a,.ref b]/\H a=some (.tup [.int n,.int e])/\H b=some (.tup [.int n,.int e])/\Q (.bl true) H
section
variable {P:Program}{w:World}{K:PySem.W.Frag}{mg:Str->Option Value}{base:Heap}{t:Adr}
theorem scIe:FnScope ["_law_found","_law_due"] ["_law_found","_law_due"] (ah sg):={}
theorem pA (T:Txt K mg t):FnOk P w K mg base CX0 3 t.f_Jh1 t.d_Jh1 ["_law_found","_law_due"] tH:=by
 refine T.F_Jh1.ok scIe (fun vs H Q E h=>?_) (fun cdv A outer s H vs Q E hr h=>?_)
 ·rcases h with ⟨rfl,_⟩ | ⟨_,_,_,_,rfl,_⟩ <;> rfl
 ·rcases h with ⟨rfl,q⟩ | ⟨a,b,n,e,rfl,ga,gb,q⟩
  all_goals refine⟨_,(ab (av (ai d5 (pv 1) aY (am _))
    (af (ao (cq d5 (pv 0) aY (am _))))
    ak)
   (ab (av (PW.pt (cY (bG (bp (aG fe (by rfl) T.z_isinstance (by rfl) (aa (pv 0) (aa (fT (v:=.ty "tuple") (by rfl) T.z_tuple (by rfl) rfl) ae))))) (cc (ai dB (aG aA (by rfl) T.z_len (by rfl) (aa (pv 0) ae)) ag (am _)))))
    (af (ao cT))
    ak)
   (af (ao (gF (pcl (dn T) hr T.m_is T.F_is.kp (fR T) (aa (aI cE (pv 0) ag) (aa (aI cE (pv 1) ag) ae))) (ft (pcl (dn T) hr T.m_is T.F_is.kp (fR T) (aa (aI cE (pv 0) ag) (aa (aI cE (pv 1) ag) ae))))))))),?_⟩
  ·refine⟨_,U,U,_,U,da ?_⟩
   exact⟨_,U,U,q⟩
  ·refine⟨_,U,U,_,U,bz ?_⟩
   refine⟨_,U,_,_,_,_,U,.tup ga,ut K,_,U,bz ?_⟩
   refine⟨_,U,a,_,U,.inr (SqT.of ga),U,_,U,bz ?_⟩
   refine⟨_,U,a,_,_,_,U,U,SqT.of ga,U,_,U,b,_,_,_,U,U,SqT.of gb,U,_,_,U,?_⟩
   rw[decide_eq_true rfl]
   refine⟨_,U,da ?_⟩
   refine⟨_,U,a,_,_,_,U,U,SqT.of ga,U,_,U,b,_,_,_,U,U,SqT.of gb,U,_,_,U,?_⟩
   rw[decide_eq_true rfl]
   exact q
end
inductive sp_Jg1 (vs:List V) (H:Hp) (Q:VK) (E_:XK):Prop
 | mk (a b:Addr) (xs ys:List Int) (i j:Nat) (L:Kn) (_:vs=[.ref a,.ref b]) (_:Has H L) (_:L[i]?=some (a,.lst (xs.map V.int))) (_:L[j]?=some (b,.lst (ys.map V.int))) (_:xs.length<=100000) (_:∀ H',Has H' L->Q (.bl (decide (xs=ys))) H'):sp_Jg1 vs H Q E_
theorem qm:∀ {xs ys:List Int},xs.length=ys.length->((xs.zip ys).map fun p=>decide (p.1=p.2)).all id=decide (xs=ys)
 | [],[],_=>rfl
 | x::xs,y::ys,h=>by
  have ih:=qm (xs:=xs) (ys:=ys) (by simpa using h)
  rw[List.zip_cons_cons,wu,List.all_cons,ih]
  by_cases e:x=y
  ·subst e; simp
  ·simp[e]
section
variable {P:Program}{w:World}{K:PySem.W.Frag}{mg:Str->Option Value}{base:Heap}{t:Adr}
theorem scIr:FnScope ["_law_found","_law_due"] ["_law_found","_law_due"] (ah oM):={}
theorem pB (T:Txt K mg t):FnOk P w K mg base CX0 3 t.f_Jg1 t.d_Jg1 ["_law_found","_law_due"] sp_Jg1:=by
 refine T.F_Jg1.ok scIr (fun vs H Q E h=>?_) (fun cdv A outer s H vs Q E hr h=>?_)
 ·obtain⟨_,_,_,_,_,_,_,rfl,_⟩:=h
  rfl
 ·obtain⟨a,b,xs,ys,i,j,L,rfl,hH,hi,hj,hxl,q⟩:=h
  refine⟨_,(ab (av (PW.pt (cY (bG (bp (aG fe (by rfl) T.z_isinstance (by rfl) (aa (pv 0) (aa (fT (v:=.ty "list") (by rfl) T.z_list (by rfl) rfl) ae))))) (cc (ai dB (aG aA (by rfl) T.z_len (by rfl) (aa (pv 0) ae)) (aG aA (by rfl) T.z_len (by rfl) (aa (pv 1) ae)) (am _)))))
    (af (ao cT))
    ak)
   (af (ao (aG (ky rfl) (by rfl) T.z_all (by rfl) (aa (jN (esc:=ah oM) (k:=2) ["_law_one","_law_other","_law_found","_law_due"] rfl (tT (by rfl) T.z_zip (aa (pv 0) (aa (pv 1) ae))) (fun _ _ _ _ _=>by exact(lN (K:=K) (n:=2) rfl rfl (ap (aj (i:=0) (show List.Nodup (["_law_one","_law_other","_law_found","_law_due"]:List Str) from by decide +kernel) rfl (Or.inl rfl)) (ap (aj (i:=1) (show List.Nodup (["_law_one","_law_other","_law_found","_law_due"]:List Str) from by decide +kernel) rfl (Or.inl rfl)) ba)))) (fun _ _ _ _ _=>by exact dL) (fun _ _ _ _ _=>by exact(pcl (dn T) hr T.m_is T.F_is.kp (fR T) (aa (pv 0) (aa (pv 1) ae)))) rfl (by decide +kernel) (by decide +kernel) rfl (by decide +kernel) (by rfl) (fun _ _ h _=>h) (by decide +kernel)) ae))))),?_⟩
  refine⟨_,U,_,_,_,_,U,.lst (hH.get i hi),uu K,_,U,bz ?_⟩
  refine⟨_,U,a,_,U,.inl (SqL.of (hH.get i hi)),_,U,b,_,U,.inl (SqL.of (hH.get j hj)),U,_,U,?_⟩
  rw[v9,v9,hJ]
  refine vV (fun hc=>?_) (fun hc=>?_)
  ·have e:decide (xs=ys)=false:=decide_eq_false (fun z=>hc (by rw[z]))
   rw[e] at q
   exact q _ hH
  ·have hl:xs.length=ys.length:=by omega
   refine⟨_,U,_,U,a,b,U,⟨_,SqL.of (hH.get i hi)⟩,⟨_,SqL.of (hH.get j hj)⟩,fun D hD=>?_⟩
   refine⟨fun n m zs H'=>m=xs.length - n/\n<=xs.length/\zs=((xs.zip ys).take n).map (fun p=>V.bl (decide (p.1=p.2)))/\Has H' ((D,.lst zs)::L),⟨xs.length,by simp,Nat.zero_le _,U,hH.alloc hD _⟩,?_⟩
   rintro n m zs H' ⟨rfl,hn,rfl,h1⟩
   refine⟨h1.get 0 U,?_⟩
   have ga:=h1.get (i+1) (by simpa using hi)
   have gb:=h1.get (j+1) (by simpa using hj)
   by_cases hlt:n<xs.length
   ·refine .inr ⟨⟨_,_,_,_,SqL.of ga,(by rw[wd,wa hlt]; rfl),SqL.of gb,(by rw[wd,wa (by omega)]; rfl)⟩,?_⟩
    rintro x H2 ⟨p,x1,y1,rfl,hp,rfl,hx1,hy1⟩
    have hx2:=hx1 _ (SqL.of ga)
    have hy2:=hy1 _ (SqL.of gb)
    rw[wd,wa hlt] at hx2
    rw[wd,wa (by omega)] at hy2
    cases hx2
    cases hy2
    have h2:=h1.alloc hp (.tup [.int xs[n],.int (ys[n]'(by omega))])
    refine⟨p,_,U,SqT.of (h2.get 0 U),U,_,_,U,_,_,U,U,U,?_⟩
    refine fj ?_
    refine⟨_,U,_,U,_,_,U,?_⟩
    refine⟨?_,h2.get 1 U,xs.length - (n+1),by omega,U,hlt,?_,?_⟩
    ·rw[v9,wy]
     exact sizeOk (by omega)
    ·rw[List.take_succ,wg,wa (by rw[List.length_zip]; omega),List.getElem_zip]
     rfl
    ·exact(h2.puti 1 U _).tail
   ·have en:n=xs.length:=by omega
    refine .inl ⟨⟨_,_,SqL.of ga,SqL.of gb,.inl (by rw[v9]; omega)⟩,?_⟩
    refine⟨D,((xs.zip ys).map fun p=>decide (p.1=p.2)),U,?_,?_⟩
    ·have e:((xs.zip ys).take n).map (fun p=>V.bl (decide (p.1=p.2)))=((xs.zip ys).map fun p=>decide (p.1=p.2)).map V.bl:=by
      rw[List.take_of_length_le (by rw[List.length_zip]; omega),wD]; rfl
     rw[<- e]
     exact SqL.of (h1.get 0 U)
    ·rw[qm hl]
     exact q _ h1.tail
end
noncomputable def EqE (L:Kn) (v1 v2:V):Prop:=(v1=.non/\v2=.non)∨∃ (b1 b2:Addr) (n e:Int) (j1 j2:Nat),v1=.ref b1/\v2=.ref b2/\L[j1]?=some (b1,HO.tup [.int n,.int e])/\L[j2]?=some (b2,HO.tup [.int n,.int e])
theorem nj (n:Nat):dq n=((List.range n).map Int.ofNat).map V.int:=by rw[wD]; rfl
theorem nc (ks:List Kd):((dS ks).map fun kv=>kV kv.1)=((List.range ks.length).map Int.ofNat).map V.int:=by
 unfold dS
 rw[wD,show((fun kv:Key×V=>kV kv.1) ∘ fun p:Kd×Nat=>((Sum.inl (p.2:Int):Key),V.str p.1.str))=(fun n:Nat=>V.int (n:Int)) ∘ Prod.snd from rfl,<- wD,List.zipIdx_map_snd,List.range_eq_range',wD]
 rfl
inductive sp_same (C:Addr) (vs:List V) (H:Hp) (Q:VK) (E_:XK):Prop
 | mk (A:YA) (y:YR) (L:Kn) (kk sd mh gg:Addr) (ks:List Kd) (ss rg:List Int) (m:List (List Key×V)) (v:V) (tr:Int) (jk js jm jg:Nat) (_:vs=[.ref A.p,.ref kk,.ref sd,.ref mh,.ref gg,v,.int tr]) (_:Has H (yL C A y++L)) (_:L[jk]?=some (kk,.lst (ksV ks))) (_:L[js]?=some (sd,.lst (ss.map V.int))) (_:L[jm]?=some (mh,.dT m)) (_:L[jg]?=some (gg,.lst (rg.map V.int))) (_:y.kinds=dS ks) (_:y.sides=ss.map V.int) (_:y.rung=rg.map V.int) (_:EqE L y.eng v) (_:(y.trail.length:Int)=tr) (_:(∀ p ∈ aV ks,EqE L ((aq y.mates (kE p.1 p.2)).getD .non) ((aq m (kE p.1 p.2)).getD .non))) (_:ks.length<=1000) (_:ss.length<=10000) (_:rg.length<=100000) (_:∀ H',Has H' (yL C A y++L)->Q (.bl true) H'):sp_same C vs H Q E_
section
variable {P:Program}{w:World}{K:PySem.W.Frag}{mg:Str->Option Value}{base:Heap}{t:Adr}
theorem scSm:FnScope ["_law_yard","_law_kinds_here","_law_sides","_law_mates","_law_rung","_law_at","_law_trail","_law_end"] ["_law_yard","_law_kinds_here","_law_sides","_law_mates","_law_rung","_law_at","_law_trail"] (ah kI):={}
theorem lP (T:Txt K mg t):FnOk P w K mg base CX0 6 t.f_same t.d_same ["_law_yard","_law_kinds_here","_law_sides","_law_mates","_law_rung","_law_at","_law_trail"] (sp_same t.c_Yard):=by
 refine T.F_same.ok scSm (fun vs H Q E h=>?_) (fun cdv A outer s H vs Q E hr h=>?_)
 ·obtain⟨_,_,_,_,_,_,_,_,_,_,_,_,_,_,_,_,_,rfl,_⟩:=h
  rfl
 ·obtain⟨A,y,L,kk,sd,mh,gg,ks,ss,rg,m,v,tr,jk,js,jm,jg,rfl,hH,hjk,hjs,hjm,hjg,ekd,esd,erg,een,etr,emt,kl,sl,gl,q⟩:=h
  have hu:=cN hr
  refine⟨_,(ab (av (PW.pt (cY (bG (bp (pcl (pB T) hr T.m_Jg1 T.F_Jg1.kp (sX T) (aa (aT (pv 0) T.cl_Yard T.M_Jd (pD T) hr (uX T) .nil aH) (aa (bb (dY rfl) (by rfl) T.z_list (by rfl) (aa (bb fO (by rfl) T.z_range (by rfl) (aa (aG aA (by rfl) T.z_len (by rfl) (aa (pv 1) ae)) ae)) ae)) ae))))) (cc (bG (bp (pcl (pB T) hr T.m_Jg1 T.F_Jg1.kp (sX T) (aa (aT (pv 0) T.cl_Yard T.M_Jo (py T) hr (uV T) .nil aH) (aa (pv 4) ae))))))))
    (af (ao cT))
    ak)
   (ab (av (PW.pt (cY (bG (bp (pcl (pA T) hr T.m_Jh1 T.F_Jh1.kp (sW T) (aa (aT (pv 0) T.cl_Yard T.M_Jc (lU T) hr (rM T) .nil aH) (aa (pv 5) ae))))) (cc (bG (bp (pcl (dn T) hr T.m_is T.F_is.kp (fR T) (aa (aT (pv 0) T.cl_Yard T.M_Jp (sP T) hr (v3 T) .nil aH) (aa (pv 6) ae))))))))
    (af (ao cT))
    ak)
   (ab (bm PassesOwn.never rfl (bW (pcl (fW T) hr T.m_ends T.F_ends.kp (jB T) (aa (pv 1) ae))) (aj (i:=7) scSm.nd rfl (Or.inl rfl))
    (af (av (bG (bp (pcl (pA T) hr T.m_Jh1 T.F_Jh1.kp (sW T) (aa (aF (pv 0) T.cl_Yard T.M_Jy (px T) hr (uU T) .nil aH (aa (pv 7) ae)) (aa (gE hu (pv 3) (pv 7) ⟨U,U,U,U⟩) ae)))))
      (af (ao cT))
      ak)))
   (af (ao (aG (ky rfl) (by rfl) T.z_all (by rfl) (aa (jN (esc:=ah kI) (k:=2) ["_law_rod","_law_side","_law_yard","_law_kinds_here","_law_sides","_law_mates","_law_rung","_law_at","_law_trail","_law_end"] rfl (eB (by rfl) T.z_enumerate (aa (pv 2) ae)) (fun _ _ _ _ _=>by exact(lN (K:=K) (n:=2) rfl rfl (ap (aj (i:=0) (show List.Nodup (["_law_rod","_law_side","_law_yard","_law_kinds_here","_law_sides","_law_mates","_law_rung","_law_at","_law_trail","_law_end"]:List Str) from by decide +kernel) rfl (Or.inl rfl)) (ap (aj (i:=1) (show List.Nodup (["_law_rod","_law_side","_law_yard","_law_kinds_here","_law_sides","_law_mates","_law_rung","_law_at","_law_trail","_law_end"]:List Str) from by decide +kernel) rfl (Or.inl rfl)) ba)))) (fun _ _ _ _ _=>by exact dL) (fun _ _ _ _ _=>by exact(pcl (dn T) hr T.m_is T.F_is.kp (fR T) (aa (aF (pv 2) T.cl_Yard T.M_Jz (pq T) hr (uT T) .nil aH (aa (pv 0) ae)) (aa (pv 1) ae)))) rfl (by decide +kernel) (by decide +kernel) rfl (by decide +kernel) (by rfl) (fun _ _ h _=>h) (by decide +kernel)) ae))))))),?_⟩
  have gk:∀ {H:Hp}{M:Kn},Has H (M++(yL t.c_Yard A y++L))->∀ {j:Nat}{x:Addr×HO},L[j]?=some x->H x.1=some x.2:=fun {H M} h {j x} hj=>h.get (M.length+(j+9)) (by
   rw[wn (by omega),show M.length+(j+9) - M.length=j+9 by omega]
   simpa [yL] using hj)
  refine⟨_,U,A.p,A.dx,_,U,hH.get 1 U,(bT _ _ _).2.2.2.1,A,y,L,U,hH,fun H1 l h1=>?_⟩
  refine⟨_,U,kk,_,U,.inl (SqL.of (gk (M:=[_]) h1 hjk)),_,U,fun p hp=>?_⟩
  have klen:(ksV ks).length=ks.length:=by unfold ksV; rw[v9]
  have h2:=h1.alloc hp (.rng 0 ((ksV ks).length:Int))
  refine⟨p,_,U,h2.get 0 U,by omega,by omega,fun l2 hl2=>?_⟩
  have h3:=h2.alloc hl2 (.lst (dq ((ksV ks).length:Int).toNat))
  rw[show(((ksV ks).length:Int)).toNat=ks.length by omega,nj] at h3 ⊢
  rw[ekd,nc] at h3
  refine⟨l,l2,(List.range ks.length).map Int.ofNat,(List.range ks.length).map Int.ofNat,2,0,_,U,h3,U,U,by simp; omega,fun H4 h4=>?_⟩
  rw[decide_eq_true rfl]
  refine⟨_,U,bz ?_⟩
  have h5:=h4.tail.tail.tail
  clear h1 h2 h3 h4 hp hl2
  refine⟨_,U,A.p,A.dx,_,U,h5.get 1 U,(bT _ _ _).2.2.2.2.2.2.2.1,A,y,L,U,h5,fun H6 l6 h6=>?_⟩
  rw[erg] at h6
  refine⟨_,U,l6,gg,rg,rg,0,jg+10,_,U,h6,U,(by simpa [yL] using hjg),gl,fun H7 h7=>?_⟩
  rw[decide_eq_true rfl]
  refine⟨_,U,bz ?_⟩
  replace h7:=h7.tail
  clear h5 h6
  refine⟨_,U,A.p,A.dx,_,U,h7.get 1 U,(bT _ _ _).2.2.2.2.2.2.1,A,y,L,U,h7,_,U,?_⟩
  have isE:∀ {H:Hp}{M:Kn}{v1 v2:V}{G:Prop},Has H (M++(yL t.c_Yard A y++L))->EqE L v1 v2->G->((([v1,v2]++[]:List V)=[.non,.non]/\G)∨∃ (a b:Addr) (n e:Int),([v1,v2]++[]:List V)=[.ref a,.ref b]/\H a=some (.tup [.int n,.int e])/\H b=some (.tup [.int n,.int e])/\G):=fun {H M v1 v2 G} h e hq=>by
   rcases e with ⟨rfl,rfl⟩ | ⟨b1,b2,n,e,j1,j2,rfl,rfl,g1,g2⟩
   ·exact .inl ⟨U,hq⟩
   ·exact .inr ⟨b1,b2,n,e,U,gk h g1,gk h g2,hq⟩
  refine isE (M:=[]) h7 een ?_
  refine⟨_,U,bz ?_⟩
  refine⟨_,U,A.p,A.dx,_,U,h7.get 1 U,(bT _ _ _).2.2.2.2.2.2.2.2,A,y,L,U,h7,_,U,_,_,U,?_⟩
  rw[decide_eq_true etr]
  refine⟨_,U,bz ?_⟩
  refine⟨_,U,kk,ks,_,jk+9,U,h7,(by simpa [yL] using hjk),kl,fun H8 el es hes h8=>?_⟩
  have emem:∀ x ∈ es,x.2 ∈ aV ks:=fun x hx=>by rw[<- hes]; exact wv.mpr ⟨x,hx,U⟩
  refine⟨el,U,⟨_,SqL.of (h8.get 0 U)⟩,cA (xs:=esV es) (fun i σ H'=>∃ o1:Option V,σ=[some (.ref A.p),some (.ref kk),some (.ref sd),some (.ref mh),some (.ref gg),some v,some (.int tr),o1]/\Has H' ((el,.lst (esV es))::(esK es++(yL t.c_Yard A y++L)))) ⟨_,U,h8⟩ (fun i σ H' _ ⟨_,_,h⟩=>SqL.of (h.get 0 U)) ?_ ?_⟩
  ·clear h8
   rintro i x σ H8 hx ⟨o1,rfl,h8⟩
   have hi:i<es.length:=by
    have:=(List.getElem?_eq_some_iff.mp hx).1
    unfold esV at this
    rw[v9] at this; exact this
   rw[f8 (wa hi)] at hx
   cases hx
   have ein:=emem _ (List.getElem_mem hi)
   have gi:=eY (yL t.c_Yard A y++L) (wa hi)
   generalize es[i]=z at ein gi ⊢
   have h9:=Has.comm (X:=(el,.lst (esV es))::esK es) (Y:=yL t.c_Yard A y) (R:=L) h8
   have gz:H8 z.1=some (.tup [.int z.2.1,.int z.2.2]):=h8.get (i+1) gi
   have th:cP y z.2.1 z.2.2:=by
    obtain⟨i,k,e1,e2,e3,e4⟩:=bu (n:=z.2.1) (e:=z.2.2) ein
    exact⟨k,by rw[ekd,e1,cX,e2]; rfl,e3,e4⟩
   have hix:((el,HO.lst (esV es))::(esK es++L))[i+1]?=some (z.1,HO.tup [.int z.2.1,.int z.2.2]):=by
    rw[List.getElem?_cons_succ]
    rw[wr (by unfold esK; rw[v9]; exact hi)] at gi
    rw[wr (by unfold esK; rw[v9]; exact hi)]
    exact gi
   refine⟨_,U,A.p,A.dx,_,U,h9.get 1 U,(dW _ _ _).2.1,_,U,A,y,_,z.1,z.2.1,z.2.2,i+1,U,h9,hix,th,?_⟩
   have gm:=gk (M:=(el,.lst (esV es))::esK es) h8 hjm
   refine⟨_,U,mh,U,.inr ⟨_,.inl gm⟩,_,U,_,DGet.t (k:=kE z.2.1 z.2.2) gm gz,?_⟩
   refine isE (M:=(el,.lst (esV es))::esK es) h8 (emt z.2 ein) ?_
   exact⟨_,U,bz ⟨_,U,h8⟩⟩
  ·rintro σ H8 ⟨o1,rfl,h8⟩
   have h5:Has H8 (yL t.c_Yard A y++L):=Has.dropL (esK es) h8.tail
   clear h8 h7
   have gb5:=gk (M:=[]) h5 hjs
   refine⟨_,U,sd,U,⟨_,SqL.of gb5⟩,fun D hD=>?_⟩
   refine⟨fun n m zs H'=>m=ss.length - n/\n<=ss.length/\zs=(List.replicate n true).map V.bl/\Has H' ((D,.lst zs)::(yL t.c_Yard A y++L)),⟨ss.length,by simp,Nat.zero_le _,U,h5.alloc hD _⟩,?_⟩
   rintro n m' zs H' ⟨rfl,hn,rfl,h6⟩
   refine⟨h6.get 0 U,?_⟩
   have gb6:=gk (M:=[_]) h6 hjs
   by_cases hlt:n<ss.length
   ·have gn:(ss.map V.int)[n]?=some (V.int ss[n]):=by rw[wd,wa hlt]; rfl
    refine .inr ⟨⟨_,_,SqL.of gb6,gn⟩,?_⟩
    rintro x H2 ⟨p,x1,rfl,hp,rfl,hx1⟩
    have hx2:=hx1 _ (SqL.of gb6)
    rw[gn] at hx2
    cases hx2
    have h7:=h6.alloc hp (.tup [.int n,.int ss[n]])
    refine⟨p,_,U,SqT.of (h7.get 0 U),U,_,_,U,_,_,U,U,U,?_⟩
    refine fj ?_
    refine⟨_,U,A.p,A.dx,_,U,h7.get 3 U,(bC _ _ _).2.2.2.2.2.1,_,U,A,y,(p,.tup [.int n,.int ss[n]])::(D,.lst ((List.replicate n true).map V.bl))::L,n,V.int ss[n],U,?_,by omega,(by rw[esd]; simpa using gn),?_⟩
    ·exact Has.comm (X:=[(p,.tup [.int n,.int ss[n]]),(D,.lst ((List.replicate n true).map V.bl))]) (Y:=yL t.c_Yard A y) (R:=L) h7
    refine⟨_,U,_,_,U,?_⟩
    rw[decide_eq_true rfl]
    refine⟨?_,h7.get 1 U,ss.length - (n+1),by omega,U,hlt,?_,?_⟩
    ·rw[v9,ww]
     exact sizeOk (by omega)
    ·rw[List.replicate_succ',wg]; rfl
    ·exact(h7.puti 1 U _).tail
   ·have en:n=ss.length:=by omega
    refine .inl ⟨⟨_,SqL.of gb6,by rw[v9]; omega⟩,?_⟩
    refine⟨D,List.replicate n true,U,SqL.of (h6.get 0 U),?_⟩
    rw[ql]
    exact q _ h6.tail
end
inductive sp_pcs (C:Addr) (vs:List V) (H:Hp) (Q:VK) (E_:XK):Prop
 | mk (A:YA) (y:YR) (L:Kn) (kk nn rr:Addr) (ks:List Kd) (ns rs:List Int) (es:List En) (m:List (List Key×V)) (s:Sd) (jk jn jr:Nat) (_:vs=[.ref A.p,.ref kk,.ref nn,.ref rr]) (_:Has H (yL C A y++L)) (_:L[jk]?=some (kk,.lst (ksV ks))) (_:L[jn]?=some (nn,.lst (ns.map V.int))) (_:L[jr]?=some (rr,.lst (rs.map V.int))) (_:Rep (wOf ks ns rs es m) s y) (_:Lw (wOf ks ns rs es m) ks ns rs m) (_:ks.length<=1000) (_:∀ H',Has H' (yL C A y++L)->Q (.bl true) H'):sp_pcs C vs H Q E_
section
variable {P:Program}{w:World}{K:PySem.W.Frag}{mg:Str->Option Value}{base:Heap}{t:Adr}
theorem scPcs:FnScope ["_law_yard","_law_kinds_here","_law_notes","_law_rods","_law_piece","_law_kind_here"] ["_law_yard","_law_kinds_here","_law_notes","_law_rods"] (ah si):={}
theorem ud (T:Txt K mg t):FnOk P w K mg base CX0 4 t.f_Jf1 t.d_Jf1 ["_law_yard","_law_kinds_here","_law_notes","_law_rods"] (sp_pcs t.c_Yard):=by
 refine T.F_Jf1.ok scPcs (fun vs H Q E h=>?_) (fun cdv A outer s H vs Q E hr h=>?_)
 ·obtain⟨_,_,_,_,_,_,_,_,_,_,_,_,_,_,_,rfl,_⟩:=h
  rfl
 ·obtain⟨A,y,L,kk,nn,rr,ks,ns,rs,es,m,s0,jk,jn,jr,rfl,hH,hjk,hjn,hjr,R,lw,kl,q⟩:=h
  refine⟨_,(ab (bm PassesOwn.never rfl (eB (by rfl) T.z_enumerate (aa (pv 1) ae)) (bB rfl (ap (aj (i:=4) scPcs.nd rfl (Or.inl rfl)) (ap (aj (i:=5) scPcs.nd rfl (Or.inl rfl)) ba)))
    (ab (av (ai dB (aF (pv 0) T.cl_Yard T.M_Jx (lS T) hr (rL T) .nil aH (aa (pv 4) ae)) (pv 5) (am _))
      (af (ao cT))
      ak)
     (ab (av (PW.pt (de (ai bj (pv 5) az (am _)) (cG (bG (bp (pcl (dn T) hr T.m_is T.F_is.kp (fR T) (aa (aF (pv 0) T.cl_Yard T.M_J11 (pG T) hr (sZ T) .nil aH (aa (pv 4) ae)) (aa (aI au (pv 2) (pv 4)) ae))))))))
      (af (ao cT))
      ak)
     (af (av (PW.pt (de (ai jR (aI au (pv 3) (pv 4)) ag (am _)) (cG (bG (bp (pcl (dn T) hr T.m_is T.F_is.kp (fR T) (aa (aF (pv 0) T.cl_Yard T.M_J71 (ja T) hr (mE T) .nil aH (aa (pv 4) ae)) (aa (aI au (pv 3) (pv 4)) ae))))))))
      (af (ao cT))
      ak)))))
   (af (ao cT))),?_⟩
  have inL:∀ {H:Hp}{x:Addr×HO}{j:Nat},Has H (yL t.c_Yard A y++L)->L[j]?=some x->H x.1=some x.2:=fun {H x j} h hj=>h.at_ x (wb _ (wj hj))
  refine⟨_,U,kk,U,⟨_,SqL.of (inL hH hjk)⟩,eU (xs:=ksV ks) (fun i σ H'=>∃ (o1 o2:Option V),σ=[some (.ref A.p),some (.ref kk),some (.ref nn),some (.ref rr),o1,o2]/\Has H' (yL t.c_Yard A y++L)) ⟨_,_,U,hH⟩ (fun i σ H' _ ⟨_,_,_,h⟩=>SqL.of (inL h hjk)) ?_ ?_⟩
  ·rintro i x σ H1 p hx ⟨o1,o2,rfl,h1⟩ hp
   have hi:i<ks.length:=by
    have:=(List.getElem?_eq_some_iff.mp hx).1
    unfold ksV at this
    rw[v9] at this; exact this
   have ex:x=.str (ks[i]).str:=by
    unfold ksV at hx
    rw[wd,wa hi] at hx
    exact(Option.some.inj hx).symm
   subst ex
   have hk:ks[i]?=some ks[i]:=wa hi
   have kf:(wOf ks ns rs es m).kf (i:Int)=some ks[i]:=by rw[iW]; exact hk
   have h2:=h1.alloc hp (.tup [.int i,.str (ks[i]).str])
   have e1:=R.kd _ _ kf
   have e2:=R.no _ _ kf
   have e3:=R.ro _ _ kf
   have rn:=lw.rn i _ hk
   have nl:=lw.nl
   have rl:=lw.rl
   have e4:(wOf ks ns rs es m).nf (i:Int)=ns.getD i 0:=lw.nf i
   have e5:(wOf ks ns rs es m).rf (i:Int)=rs.getD i 0:=lw.rf i
   rw[e4] at e2
   rw[e5] at e3
   generalize ks[i]=k at *
   refine⟨p,_,U,SqT.of (h2.get 0 U),U,_,_,U,_,_,U,U,?_⟩
   replace h2:=h2.tail
   dsimp only[List.set]
   refine⟨_,U,A.p,A.dx,_,U,h2.get 1 U,(bT _ _ _).2.2.2.2.1,_,U,A,y,L,(i:Int),.str k.str,U,h2,e1,_,U,U,_,U,?_⟩
   refine ifF (by simp) ?_
   have gn:SqL K _ nn (ns.map V.int):=SqL.of (inL h2 hjn)
   have gr:SqL K _ rr (rs.map V.int):=SqL.of (inL h2 hjr)
   have an:atI (ns.map V.int) (i:Int)=some (.int (ns.getD i 0)):=by have:=atD (ds:=ns) (i:=(i:Int)) (by omega) (by omega); rwa [Int.toNat_natCast] at this
   have ar:atI (rs.map V.int) (i:Int)=some (.int (rs.getD i 0)):=by have:=atD (ds:=rs) (i:=(i:Int)) (by omega) (by omega); rwa [Int.toNat_natCast] at this
   refine⟨_,U,U,_,U,?_⟩
   rw[k.isBell]
   have rods:∀ {G:Prop},G->True:=fun _=>trivial
   refine(fun(g:_)=>ifd (fun kb=>⟨_,U,A.p,A.dx,_,U,h2.get 1 U,(bT _ _ _).2.2.2.2.2.1,_,U,A,y,L,(i:Int),_,.int (ns.getD i 0),U,h2,e1,(by rw[e2,if_pos kb]),_,U,_,U,nn,_,_,_,U,U,gn,an,_,_,U,(by rw[decide_eq_true rfl]; exact⟨_,U,bz g⟩)⟩) (fun kb=>bz g)) ?_
   refine⟨_,U,_,U,rr,_,_,_,U,U,gr,ar,_,_,U,U,_,U,?_⟩
   refine ifd (fun r0=>?_) (fun r0=>?_)
   ·have kp:k.point=true:=rn.mpr r0
    refine⟨_,U,A.p,A.dx,_,U,h2.get 1 U,(bC _ _ _).2.2.2.2.1,_,U,A,y,L,(i:Int),_,.int (rs.getD i 0),U,h2,e1,(by rw[e3,if_pos kp]),_,U,_,U,rr,_,_,_,U,U,gr,ar,_,_,U,?_⟩
    rw[decide_eq_true rfl]
    exact⟨_,U,bz ⟨_,_,U,h2⟩⟩
   ·exact bz ⟨_,_,U,h2⟩
  ·rintro σ H1 ⟨o1,o2,rfl,h1⟩
   exact q _ h1
end
theorem pV (w:Wd):∀ (j e:Nat) (s:Sd),(w.hist j s).length=j->w.go (j+e) s=w.go e (w.go j s)/\w.hist (j+e) s=w.hist j s++w.hist e (w.go j s)
 | 0,e,s,_=>by rw[Nat.zero_add]; exact⟨U,U⟩
 | j+1,e,s,hl=>by
  cases h:w.nx s with
  | none=>rw[bQ w h] at hl; cases hl
  | some s'=>
   rw[bg w h,wl] at hl
   obtain⟨a,b⟩:=pV w j e s' (by omega)
   rw[show j+1+e=(j+e)+1 by omega,bH w h,bH w h,bg w h,bg w h,a,b]
   exact⟨U,U⟩
theorem cK (w:Wd) {n:Nat} (h:(w.hist n s).length=n) {j:Nat} (hj:j<=n):(w.hist j s).length=j/\w.hist j s=(w.hist n s).take j:=by
 have key:∀ (n j:Nat) (s:Sd),(w.hist n s).length=n->j<=n->(w.hist j s).length=j/\w.hist j s=(w.hist n s).take j:=by
  intro n
  induction n with
  | zero=>
   intro j s _ hj
   have:j=0:=by omega
   subst this
   exact⟨U,U⟩
  | succ n ih=>
   intro j s hl hj
   cases h:w.nx s with
   | none=>rw[bQ w h] at hl; cases hl
   | some s'=>
    rw[bg w h,wl] at hl
    cases j with
    | zero=>exact⟨U,U⟩
    | succ j=>
     obtain⟨a,b⟩:=ih j s' (by omega) (by omega)
     rw[bg w h,bg w h,wl,a,List.take_succ_cons,b]
     exact⟨U,U⟩
 exact key n j s h hj
theorem nu (w:Wd) {n:Nat} (h:(w.hist (n+1) s).length=n+1):w.nx (w.go n s)=some (w.go (n+1) s)/\w.hist (n+1) s=w.hist n s++[w.go n s]:=by
 have t:=(cK w h (Nat.le_succ n)).1
 obtain⟨a,b⟩:=pV w n 1 s t
 cases hx:w.nx (w.go n s) with
 | none=>
  rw[b,bQ w hx,wx] at h
  omega
 | some s'=>
  rw[bg w hx] at b
  rw[bH w hx] at a
  exact⟨by rw[a]; rfl,b⟩
theorem ox {l:List Int}{i:Nat}{x:Int}:(l.set i x).set i (l.getD i 0)=l:=by
 rw[List.set_set]
 by_cases h:i<l.length
 ·rw[List.getD_eq_getElem?_getD,wa h]; exact List.set_getElem_self h
 ·rw[List.set_eq_of_length_le (by omega)]
theorem Rep.ofOkw {w:Wd}{s s':Sd}{y y':YR} (R:Rep w s y) (O:Okw w s') (e1:y'.kinds=y.kinds) (e2:y'.notes=y.notes) (e3:y'.rods=y.rods) (e4:y'.mates=y.mates) (e5:y'.sides=s'.ss.map V.int) (e6:y'.eng=enV s'.at_) (e7:y'.rung=s'.rg.map V.int):Rep w s' y' :=
 ⟨fun n k h=>by rw[e1]; exact R.kd n k h,fun n k h=>by rw[e2]; exact R.no n k h,fun n k h=>by rw[e3]; exact R.ro n k h,O.rr,e5,O.s12,fun n e=>by rw[e4]; exact R.mt n e,O.mo,e6,O.eo,e7⟩
theorem Okw.go {w:Wd}:∀ (n:Nat) {s:Sd},Okw w s->Okw w (w.go n s)
 | 0,_,h=>h
 | n+1,s,h=>by
  cases hx:w.nx s with
  | none=>rw[cu w hx]; exact h
  | some s'=>
   rw[bH w hx]
   obtain⟨z,k,o,z',hz,hk,ho,hm,rfl⟩:=eK hx
   exact Okw.go n (h.step hz hk hm)
theorem Pool.go {w:Wd}{L:Kn}:∀ (n:Nat) {s:Sd},Pool w s L->Pool w (w.go n s) L
 | 0,_,h=>h
 | n+1,s,h=>by
  cases hx:w.nx s with
  | none=>rw[cu w hx]; exact h
  | some s'=>rw[bH w hx]; exact Pool.go n (h.step hx)
inductive sp_take (C:Addr) (vs:List V) (H:Hp) (Q:VK) (E_:XK):Prop
 | mk (A:YA) (y:YR) (L:Kn) (w:Wd) (s s0:Sd) (a:Addr) (ts:List V) (j:Nat) (_:vs=[.ref A.p]) (_:Has H (yL C A y++L)) (_:Rep w s y) (_:Okw w s0) (_:w.nx s0=some s) (_:Pool w s0 L) (_:y.trail=ts++[.ref a]) (_:L[j]?=some (a,w.tr s0)) (_:∀ H',Has H' (yL C A { y with sides:=s0.ss.map V.int,eng:=enV s0.at_,rung:=s0.rg.map V.int,trail:=ts }++L)->Q .non H'):sp_take C vs H Q E_
inductive sp_back (C:Addr) (vs:List V) (H:Hp) (Q:VK) (E_:XK):Prop
 | mk (A:YA) (y:YR) (L:Kn) (w:Wd) (s:Sd) (ts:List (Addr×Sd)) (m:Int) (_:vs=[.ref A.p,.int m]) (_:Has H (yL C A y++(trK w ts++L))) (_:Okw w s) (_:Rep w (w.go ts.length s) y) (_:Pool w s L) (_:y.trail=trV ts) (_:ts.map (·.2)=w.hist ts.length s) (_:ts.length<=900000) (_:∀ (H':Hp) (y':YR) (j:Nat),(j:Int)=ts.length - max 0 (min m ts.length)->Has H' (yL C A y'++(trK w (ts.take j)++L))->Rep w (w.go j s) y'->y'.trail=trV (ts.take j)->(ts.take j).map (·.2)=w.hist j s->y'.next=y.next->y'.kinds=y.kinds->y'.notes=y.notes->y'.rods=y.rods->y'.mates=y.mates->Q (.int (max 0 (min m ts.length))) H'):sp_back C vs H Q E_
theorem fl_m5 (A:YA) (next:Int) (eng:V):(fl A next eng).lookup ("take_back" : Str)=none/\(fl A next eng).lookup ("make_twin" : Str)=none/\(fl A next eng).lookup ("lift" : Str)=none:=⟨by kernel_rfl,by kernel_rfl,by kernel_rfl⟩
inductive bck1Inv (C_:Addr) (A:YA) (m:Int) (c:Int) (y:YR) (W:Wd) (ts:List (Addr×Sd)) (s0:Sd) (L:Kn) (i:Nat) (σ':St) (H':Hp):Prop
 | mk (y1:YR) (o1:Option V) (_:σ'=[some (.ref A.p),some (.int m),some (.int c),o1]) (_:Has H' (yL C_ A y1++(trK W ts++L))) (_:Rep W (W.go (ts.length - i) s0) y1) (_:y1.trail=trV (ts.take (ts.length - i))) (_:i<=ts.length) (_:y1.next=y.next) (_:y1.kinds=y.kinds) (_:y1.notes=y.notes) (_:y1.rods=y.rods) (_:y1.mates=y.mates):bck1Inv C_ A m c y W ts s0 L i σ' H'
section
variable {P:Program}{w:World}{K:PySem.W.Frag}{mg:Str->Option Value}{base:Heap}{t:Adr}
theorem scTb:FnScope ["self","end","side","piece"] ["self"] (ah vN):={}
theorem ok_J6 (T:Txt K mg t):FnOk P w K mg base CX0 1 t.f_J6 t.d_J6 ["self"] (sp_take t.c_Yard):=by
 refine T.F_J6.ok scTb (fun vs H Q E h=>?_) (fun cdv A outer s H vs Q E hr h=>?_)
 ·obtain⟨_,_,_,_,_,_,_,_,_,rfl,_⟩:=h
  rfl
 ·obtain⟨A,y,L,W,s1,s0,a,ts,j,rfl,hH,R,O,hn,PL,ht,hj,q⟩:=h
  have hu:=cN hr
  obtain⟨z,k,o,z',hz,hk,ho,hm,rfl⟩:=eK hn
  obtain⟨jz,hjz⟩:=PL.e z hz
  refine⟨_,(ab (bA (o7 PySem.F.plainAttrs_list PySem.F.slot_list_pop PySem.F.type_list_pop pJ (aJ (pv 0) rfl)) (bB rfl (ap (aj (i:=1) scTb.nd rfl (Or.inl rfl)) (ap (aj (i:=2) scTb.nd rfl (Or.inl rfl)) ba))))
   (ab (aB (i:=3) scTb.nd rfl (Or.inl rfl) (aI cE (pv 1) ag))
   (ab (av (df (gG hu (pv 3) (aJ (pv 0) rfl)))
    (af (bA (pv 2) (gB (aJ (pv 0) rfl) (cm hu (aJ (pv 0) rfl) (pv 3)) dy)))
    ak)
   (ab (av (df (gG hu (pv 3) (aJ (pv 0) rfl)))
    (af (al (o7 PySem.F.plainAttrs_list PySem.F.slot_list_pop PySem.F.type_list_pop pJ (aJ (pv 0) rfl))))
    ak)
   (af (bK (pv 0) (pv 1) rfl)))))),?_⟩
  refine⟨_,U,A.p,_,A.dx,_,_,U,hH.get 1 U,T.cl_Yard,T.n_Yard_trail,gY _ _ _,.inl ⟨U,_,SqL.of (hH.get 0 U)⟩,A.tr,_,_,U,U,hH.get 0 U,(show y.trail[y.trail.length - 1]?=some (.ref a) by rw[ht]; simp),?_⟩
  rw[show y.trail.dropLast=ts by rw[ht]; simp]
  have h1:Has _ (yL t.c_Yard A { y with trail:=ts }++L):=hH.puti 0 U (.lst ts)
  generalize upd H A.tr _=H1 at h1 ⊢
  have ga:=h1.get (j+9) (by simpa [yL] using hj)
  have gz:=h1.get (jz+9) (by simpa [yL] using hjz)
  have etr:W.tr s0=.tup [.ref z.1,if k.point then .int (W.sv s0 z.2.1) else .non]:=by unfold Wd.tr; rw[hz]; show HO.tup [.ref z.1,W.tv s0 z]=_; unfold Wd.tv; rw[hk]
  rw[etr] at ga
  refine⟨a,_,U,SqT.of ga,U,_,_,U,_,_,U,U,?_⟩
  refine⟨_,U,z.1,_,_,_,U,U,SqT.of gz,U,?_⟩
  refine⟨_,U,_,U,A.p,_,A.dx,_,_,U,h1.get 1 U,T.cl_Yard,T.n_J01_under,b5 _ _ _,A.r,_,U,DGet.k (k:=Sum.inl z.2.1) (h1.get 5 U),_,U,if2 (fun hp=>?_) (fun hp=>?_)⟩
  ·have kp:k.point=true:=by
    have e:aq y.rods (Sum.inl z.2.1)=_:=R.ro _ _ hk
    by_cases c:k.point=true
    ·exact c
    ·rw[if_neg c] at e
     rw[show aq ({ y with trail:=ts }:YR).rods (Sum.inl z.2.1)=none from e] at hp
     cases hp
   have vr:aq y.rods (Sum.inl z.2.1)=some (.int (W.rf z.2.1)):=by rw[R.ro _ _ hk,if_pos kp]
   obtain⟨r0,r1⟩:=O.rr _ _ hk kp
   rw[if_pos kp]
   have ysl:y.sides.length=s0.ss.length:=by
    rw[R.sd,v9]; unfold aM; dsimp only; rw[if_pos kp,List.length_set]
   have hjx:ixN y.sides.length (W.rf z.2.1)=some (W.rf z.2.1).toNat:=by unfold ixN; rw[if_pos r0,if_pos (by omega)]
   refine⟨_,U,_,U,A.p,_,A.dx,_,_,U,h1.get 1 U,T.cl_Yard,T.n_Yard_sides,bM _ _ _,_,U,A.p,_,A.dx,_,_,U,h1.get 1 U,T.cl_Yard,T.n_J01_under,b5 _ _ _,_,U,A.r,_,U,(by rw[<- vr]; exact DGet.k (k:=Sum.inl z.2.1) (h1.get 5 U)),A.s,_,_,_,U,U,h1.get 6 U,hjx,?_⟩
   have h2:Has _ (yL t.c_Yard A { y with sides:=y.sides.set (W.rf z.2.1).toNat (.int (W.sv s0 z.2.1)),trail:=ts }++L):=h1.puti 6 U (.lst (y.sides.set (W.rf z.2.1).toNat (.int (W.sv s0 z.2.1))))
   generalize upd H1 A.s _=H2 at h2 ⊢
   have es:s0.ss.map V.int=y.sides.set (W.rf z.2.1).toNat (.int (W.sv s0 z.2.1)):=by
    rw[R.sd]; unfold aM; dsimp only; rw[if_pos kp,<- List.map_set]
    unfold Wd.sv
    rw[ox]
   refine⟨_,U,_,U,A.p,_,A.dx,_,_,U,h2.get 1 U,T.cl_Yard,T.n_Yard_notes,bN _ _ _,A.n,_,U,DGet.k (k:=Sum.inl z.2.1) (h2.get 4 U),_,U,if2 (fun hb=>?_) (fun hb=>?_)⟩
   ·have kb:k=.bell:=by
     rw[R.no _ _ hk] at hb
     by_cases c:k=.bell
     ·exact c
     ·rw[if_neg c] at hb; cases hb
    have er:y.rung=s0.rg.map V.int++[.int (W.nf z.2.1)]:=by rw[R.rg]; unfold aM; dsimp only; rw[if_pos kb,wg]; rfl
    refine⟨_,U,A.p,_,A.dx,_,_,U,h2.get 1 U,T.cl_Yard,T.n_Yard_rung,eV _ _ _,.inl ⟨U,_,SqL.of (h2.get 8 U)⟩,A.g,_,_,U,U,h2.get 8 U,(show y.rung[y.rung.length - 1]?=some (.int (W.nf z.2.1)) by rw[er]; simp),?_⟩
    have h4:Has _ (yL t.c_Yard A { y with sides:=y.sides.set (W.rf z.2.1).toNat (.int (W.sv s0 z.2.1)),rung:=y.rung.dropLast,trail:=ts }++L):=h2.puti 8 U (.lst y.rung.dropLast)
    refine⟨_,U,_,U,A.p,_,A.dx,_,U,h4.get 1 U,T.cl_Yard,T.n_Jc_end,(show 9<1000 by decide),?_⟩
    rw[bx]
    have h5:=h4.puti 1 U (.ins t.c_Yard A.dx (fl A y.next (.ref z.1)))
    have er2:s0.rg.map V.int=y.rung.dropLast:=by rw[er]; simp
    refine q _ ?_
    rw[hz,er2,es]
    exact h5
   ·have kb:¬ k=.bell:=fun c=>by rw[R.no _ _ hk,if_pos c] at hb; cases hb
    refine⟨_,U,_,U,A.p,_,A.dx,_,U,h2.get 1 U,T.cl_Yard,T.n_Jc_end,(show 9<1000 by decide),?_⟩
    rw[bx]
    have h5:=h2.puti 1 U (.ins t.c_Yard A.dx (fl A y.next (.ref z.1)))
    have er:s0.rg.map V.int=y.rung:=by rw[R.rg]; unfold aM; dsimp only; rw[if_neg kb]
    refine q _ ?_
    rw[hz,er,es]
    exact h5
  ·have kp:¬ k.point=true:=fun c=>by
    have e:aq y.rods (Sum.inl z.2.1)=_:=R.ro _ _ hk
    rw[if_pos c] at e
    rw[show aq ({ y with trail:=ts }:YR).rods (Sum.inl z.2.1)=_ from e] at hp
    cases hp
   have h2:=h1
   have es:s0.ss.map V.int=y.sides:=by rw[R.sd]; unfold aM; dsimp only; rw[if_neg kp]
   refine⟨_,U,_,U,A.p,_,A.dx,_,_,U,h2.get 1 U,T.cl_Yard,T.n_Yard_notes,bN _ _ _,A.n,_,U,DGet.k (k:=Sum.inl z.2.1) (h2.get 4 U),_,U,if2 (fun hb=>?_) (fun hb=>?_)⟩
   ·have kb:k=.bell:=by
     rw[R.no _ _ hk] at hb
     by_cases c:k=.bell
     ·exact c
     ·rw[if_neg c] at hb; cases hb
    have er:y.rung=s0.rg.map V.int++[.int (W.nf z.2.1)]:=by rw[R.rg]; unfold aM; dsimp only; rw[if_pos kb,wg]; rfl
    refine⟨_,U,A.p,_,A.dx,_,_,U,h2.get 1 U,T.cl_Yard,T.n_Yard_rung,eV _ _ _,.inl ⟨U,_,SqL.of (h2.get 8 U)⟩,A.g,_,_,U,U,h2.get 8 U,(show y.rung[y.rung.length - 1]?=some (.int (W.nf z.2.1)) by rw[er]; simp),?_⟩
    have h4:Has _ (yL t.c_Yard A { y with sides:=y.sides,rung:=y.rung.dropLast,trail:=ts }++L):=h2.puti 8 U (.lst y.rung.dropLast)
    refine⟨_,U,_,U,A.p,_,A.dx,_,U,h4.get 1 U,T.cl_Yard,T.n_Jc_end,(show 9<1000 by decide),?_⟩
    rw[bx]
    have h5:=h4.puti 1 U (.ins t.c_Yard A.dx (fl A y.next (.ref z.1)))
    have er2:s0.rg.map V.int=y.rung.dropLast:=by rw[er]; simp
    refine q _ ?_
    rw[hz,er2,es]
    exact h5
   ·have kb:¬ k=.bell:=fun c=>by rw[R.no _ _ hk,if_pos c] at hb; cases hb
    refine⟨_,U,_,U,A.p,_,A.dx,_,U,h2.get 1 U,T.cl_Yard,T.n_Jc_end,(show 9<1000 by decide),?_⟩
    rw[bx]
    have h5:=h2.puti 1 U (.ins t.c_Yard A.dx (fl A y.next (.ref z.1)))
    have er:s0.rg.map V.int=y.rung:=by rw[R.rg]; unfold aM; dsimp only; rw[if_neg kb]
    refine q _ ?_
    rw[hz,er,es]
    exact h5
theorem scBk:FnScope ["yard","most","many","count"] ["yard","most"] (ah oK):={}
theorem qO (T:Txt K mg t):FnOk P w K mg base CX0 2 t.f_back t.d_back ["yard","most"] (sp_back t.c_Yard):=by
 refine T.F_back.ok scBk (fun vs H Q E h=>?_) (fun cdv A outer s H vs Q E hr h=>?_)
 ·obtain⟨_,_,_,_,_,_,_,rfl,_⟩:=h
  rfl
 ·obtain⟨A,y,L,W,s0,ts,m,rfl,hH,O,R,PL,tl,th,tb,q⟩:=h
  refine⟨_,(ab (aB (i:=2) scBk.nd rfl (Or.inl rfl) (aG (nJ rfl) (by rfl) T.z_max (by rfl) (aa ag (aa (aG (nI rfl) (by rfl) T.z_min (by rfl) (aa (pv 1) (aa (aT (pv 0) T.cl_Yard T.M_Jp (sP T) hr (v3 T) .nil aH) ae))) ae))))
   (ab (bm PassesOwn.never rfl (bP (by rfl) T.z_range (aa (pv 2) ae)) (aj (i:=3) scBk.nd rfl (Or.inl rfl))
    (af (al (aT (pv 0) T.cl_Yard T.M_J6 (ok_J6 T) hr (b_J6 T) .nil aH))))
   (af (ao (pv 2))))),?_⟩
  have tlen:y.trail.length=ts.length:=by rw[tl]; unfold trV; rw[v9]
  refine⟨_,U,_,U,A.p,A.dx,_,U,hH.get 1 U,(bT _ _ _).2.2.2.2.2.2.2.2,A,y,_,U,hH,_,_,U,?_⟩
  rw[tlen]
  refine⟨_,_,U,?_⟩
  have em:(if (if (ts.length:Int)<m then(ts.length:Int) else m) > 0 then(if (ts.length:Int)<m then(ts.length:Int) else m) else 0)=max 0 (min m ts.length):=by
   rw[show(if (ts.length:Int)<m then(ts.length:Int) else m)=min m ts.length by split <;> omega]
   split <;> omega
  rw[em]
  have hl:(W.hist ts.length s0).length=ts.length:=by rw[<- th,v9]
  generalize hc:max 0 (min m (ts.length:Int))=c at q ⊢
  have c0:0<=c:=by omega
  have c1:c<=ts.length:=by omega
  refine⟨_,U,c,U,by omega,by omega,bF (bck1Inv t.c_Yard A m c y W ts s0 L) ⟨y,_,U,hH,R,by rw[show ts.length - 0=ts.length by omega,List.take_length]; exact tl,Nat.zero_le _,U,U,U,U,U⟩ ?_ ?_⟩
  ·rintro i σ H1 hi ⟨y1,o1,rfl,h1,R1,t1,il,f1,f2,f3,f4,f5⟩
   have hi':i<ts.length:=by omega
   obtain⟨n,hn⟩:∃ n,ts.length - i=n+1:=⟨ts.length - (i+1),by omega⟩
   rw[hn] at R1 t1
   have hln:=(cK W hl (show n+1<=ts.length by omega)).1
   obtain⟨nx1,ht1⟩:=nu W hln
   have hlt:n<ts.length:=by omega
   have et:ts.take (n+1)=ts.take n++[ts[n]]:=by rw[List.take_succ,wa hlt]; rfl
   have es:(ts[n]).2=W.go n s0:=by
    have a1:(ts.map (·.2))[n]?=some (ts[n]).2:=by rw[wd,wa hlt]; rfl
    have a2:((W.hist ts.length s0).take (n+1))[n]?=some (W.go n s0):=by
     rw[<- (cK W hl (show n+1<=ts.length by omega)).2,ht1,wn (by rw[(cK W hl (show n<=ts.length by omega)).1]; exact Nat.le_refl _),(cK W hl (show n<=ts.length by omega)).1,Nat.sub_self]
     rfl
    rw[List.getElem?_take,if_pos (by omega),<- th,a1] at a2
    exact Option.some.inj a2
   have jt:(trK W ts++L)[n]?=some ((ts[n]).1,W.tr (W.go n s0)):=by
    rw[wr (by unfold trK; rw[v9]; exact hlt)]
    unfold trK
    rw[wd,wa hlt,<- es]
    rfl
   refine⟨_,U,A.p,A.dx,_,U,h1.get 1 U,(fl_m5 _ _ _).1,A,y1,_,W,W.go (n+1) s0,W.go n s0,(ts[n]).1,trV (ts.take n),n,U,h1,R1,O.go n,nx1,(PL.go n).app _,(by rw[t1,et]; unfold trV; rw[wg]; rfl),jt,fun H2 h2=>?_⟩
   have e1:ts.length - (i+1)=n:=by omega
   refine⟨{ y1 with sides:=(W.go n s0).ss.map V.int,eng:=enV (W.go n s0).at_,rung:=(W.go n s0).rg.map V.int,trail:=trV (ts.take n) },_,U,h2,?_,by rw[e1],hi',f1,f2,f3,f4,f5⟩
   rw[e1]
   exact R1.ofOkw (O.go n) rfl rfl rfl rfl rfl rfl rfl
  ·rintro σ H1 ⟨y1,o1,rfl,h1,R1,t1,il,f1,f2,f3,f4,f5⟩
   refine⟨_,U,?_⟩
   have e1:ts.length - c.toNat<=ts.length:=by omega
   refine q H1 y1 (ts.length - c.toNat) (by omega) ?_ R1 t1 ?_ f1 f2 f3 f4 f5
   ·refine h1.sub (List.Sublist.append_left (List.Sublist.append_right ?_ _) _)
    unfold trK
    exact(List.take_sublist _ _).map _
   ·rw[(cK W hl e1).2,<- th,List.map_take]
end
structure SimW (w1 w2:Wd):Prop where
 k:∀ n,w1.kf n=w2.kf n
 n:∀ n,w1.nf n=w2.nf n
 r:∀ n,w1.rf n=w2.rf n
 m:∀ n e,(w1.mf n e).map (·.2)=(w2.mf n e).map (·.2)
structure SimS (s1 s2:Sd):Prop where
 s:s1.ss=s2.ss
 a:s1.at_.map (·.2)=s2.at_.map (·.2)
 g:s1.rg=s2.rg
theorem cJ {α β:Type}{f:α->β}{x y:Option α} (h:x.map f=y.map f):(x=none/\y=none)∨∃ u v,x=some u/\y=some v/\f u=f v:=by
 cases x with
 | none=>cases y with
  | none=>exact .inl ⟨U,U⟩
  | some v=>cases h
 | some u=>cases y with
  | none=>cases h
  | some v=>exact .inr ⟨u,v,U,U,Option.some.inj h⟩
theorem gJ {w:Wd} (h:s.at_=none):w.nx s=none:=by unfold Wd.nx; simp only[h]
theorem tK {w1 w2:Wd}{s1 s2:Sd} (W:SimW w1 w2) (S:SimS s1 s2):(w1.nx s1=none/\w2.nx s2=none)∨∃ t1 t2,w1.nx s1=some t1/\w2.nx s2=some t2/\SimS t1 t2:=by
 rcases cJ S.a with ⟨h1,h2⟩ | ⟨z1,z2,h1,h2,e⟩
 ·exact .inl ⟨gJ h1,gJ h2⟩
 ·have sv:w1.sv s1 z1.2.1=w2.sv s2 z2.2.1:=by unfold Wd.sv; rw[S.s,W.r,e]
  cases hk:w2.kf z2.2.1 with
  | none=>
   left
   refine⟨?_,?_⟩
   ·unfold Wd.nx; simp only[h1]; rw[W.k,e,hk]
   ·unfold Wd.nx; simp only[h2]; rw[hk]
  | some k=>
   have hk1:w1.kf z1.2.1=some k:=by rw[W.k,e,hk]
   cases ho:k.out z2.2.2 (w2.sv s2 z2.2.1) with
   | int o=>
    have ho1:k.out z1.2.2 (w1.sv s1 z1.2.1)=.int o:=by rw[sv,e]; exact ho
    have hm:=W.m z1.2.1 o
    rw[show(w2.mf z1.2.1 o)=w2.mf z2.2.1 o by rw[e]] at hm
    rcases cJ hm with ⟨m1,m2⟩ | ⟨u1,u2,m1,m2,eu⟩
    ·left
     refine⟨?_,?_⟩
     ·unfold Wd.nx; simp only[h1,hk1,ho1,m1,Option.map_none]
     ·unfold Wd.nx; simp only[h2,hk,ho,m2,Option.map_none]
    ·right
     refine⟨_,_,jT h1 hk1 ho1 m1,jT h2 hk ho m2,?_,?_,?_⟩
     ·unfold aM; dsimp only; rw[S.s,sv,W.r,e]
     ·rw[dw,dw]; exact congrArg some eu
     ·unfold aM; dsimp only; rw[S.g,W.n,e]
   | _=>
    left
    have ho1:=ho
    rw[<- sv,<- e] at ho1
    refine⟨?_,?_⟩
    ·unfold Wd.nx; simp only[h1,hk1,ho1]
    ·unfold Wd.nx; simp only[h2,hk,ho]
theorem ow {w1 w2:Wd} (W:SimW w1 w2):∀ (n:Nat) {s1 s2:Sd},SimS s1 s2->SimS (w1.go n s1) (w2.go n s2)/\(w1.hist n s1).length=(w2.hist n s2).length
 | 0,s1,s2,S=>⟨S,U⟩
 | n+1,s1,s2,S=>by
  rcases tK W S with ⟨h1,h2⟩ | ⟨t1,t2,h1,h2,T⟩
  ·rw[cu w1 h1,cu w2 h2,bQ w1 h1,bQ w2 h2]; exact⟨S,U⟩
  ·rw[bH w1 h1,bH w2 h2,bg w1 h1,bg w2 h2]
   have:=ow W n T
   exact⟨this.1,by rw[wl,wl,this.2]⟩
theorem EqE.sim {w1 w2:Wd}{s1 s2:Sd}{L:Kn} (S:SimS s1 s2) (p1:Pool w1 s1 L) (p2:Pool w2 s2 L):EqE L (enV s2.at_) (enV s1.at_):=by
 rcases cJ S.a with ⟨h1,h2⟩ | ⟨z1,z2,h1,h2,e⟩
 ·rw[h1,h2]; exact .inl ⟨U,U⟩
 ·obtain⟨j1,g1⟩:=p1.e z1 h1
  obtain⟨j2,g2⟩:=p2.e z2 h2
  rw[h1,h2]
  refine .inr ⟨z2.1,z1.1,z1.2.1,z1.2.2,j2,j1,U,U,?_,g1⟩
  rw[g2,e]
noncomputable def tm : Addr×HO->Option En
  | (a, .tup [.int n, .int e]) => some (a, n, e)
  | _=>none
theorem mJ {x:Addr×HO}{z:En} (h:tm x=some z):x=(z.1,HO.tup [.int z.2.1,.int z.2.2]):=by
 unfold tm at h
 split at h
 ·cases h; rfl
 ·cases h
noncomputable def esN (N:Kn):List En:=N.filterMap tm
theorem esN_in {N:Kn}{z:En}:z ∈ esN N↔(z.1,HO.tup [.int z.2.1,.int z.2.2]) ∈ N:=by
 unfold esN
 rw[List.mem_filterMap]
 constructor
 ·rintro⟨x,hx,h⟩
  rw[<- mJ h]; exact hx
 ·intro h
  exact⟨_,h,U⟩
theorem m8 {a b c d:Int} (h:¬ (c,d)=(a,b)):HT.lexLt [a,b] [c,d]=true∨HT.lexLt [c,d] [a,b]=true:=by
 rw[lt2,lt2]
 by_cases e:a=c
 ·have:¬ b=d:=fun e2=>h (by rw[e,e2])
  omega
 ·omega
theorem sT {W:Wd}{a b:Int}{z:En} (h:∃ p ∈ KS,p.1=a/\0<=b/\b<p.2.many) (hz:W.mf a b=some z) (lt:HT.lexLt [a,b] [z.2.1,z.2.2]=true):[a,b,z.2.1,z.2.2] ∈ lkR W KS:=by
 obtain⟨p,hp,rfl,h1,h2⟩:=h
 have eb:((b.toNat:Nat):Int)=b:=by omega
 refine List.mem_flatMap.mpr ⟨p,hp,List.mem_flatMap.mpr ⟨b.toNat,wG.mpr (by omega),?_⟩⟩
 unfold cz
 rw[eb,hz]
 dsimp only
 rw[if_pos lt]
 exact wo.mpr rfl
section
variable {W:Wd}{s:Sd}{KS:List (Int×Kd)}{nx:Int}{r p e g:Nat}{y:YR}{N:Kn}
theorem Yi.mate (B:BF W s KS nx) (Y:Yi W s KS nx r p (lkR W KS).length e g y N) (n i:Int) :
  (∀ z,W.mf n i=some z->∃ b,aq y.mates (kE n i)=some (.ref b)/\(b,HO.tup [.int z.2.1,.int z.2.2]) ∈ N)/\(W.mf n i=none->aq y.mates (kE n i)=none):=by
 have M:=Y.m
 rw[List.take_length] at M
 refine⟨fun z hz=>?_,fun hn=>?_⟩
 ·obtain⟨ne,z',hz',ez'⟩:=B.sy _ _ _ hz
  have hp:=B.mo _ _ _ hz'
  rw[ez'] at hp
  rcases m8 (a:=n) (b:=i) (c:=z.2.1) (d:=z.2.2) ne with lt | lt
  ·exact(M.f _ _ _ _ (sT hp hz lt)).1
  ·have hq:=B.mo _ _ _ hz
   have h1:=sT hq hz' (by rw[ez']; exact lt)
   rw[ez'] at h1
   exact(M.f _ _ _ _ h1).2
 ·cases hv:aq y.mates (kE n i) with
  | none=>rfl
  | some v=>
   obtain⟨a,b,c,d,hl,ho⟩:=M.b n i (by rw[hv]; exact fun h=>(nomatch h))
   obtain⟨_,_,z,hz,ez⟩:=dE hl
   rcases ho with ho | ho
   ·injection ho with h1 h2
    rw[h1,h2,hz] at hn; cases hn
   ·obtain⟨_,z',hz',_⟩:=B.sy _ _ _ hz
    rw[ez] at hz'
    injection ho with h1 h2
    rw[h1,h2] at hn
    rw[hz'] at hn
    cases hn
end
theorem Yi.rep {ks:List Kd}{ns rs:List Int}{es:List En}{m:List (List Key×V)}{nx:Int}{y y1:YR}{N X:Kn}{H:Hp} (hh:Has H (X++N)) (R:Rep (wOf ks ns rs es m) s y1) (lw:Lw (wOf ks ns rs es m) ks ns rs m) (B:BF (wOf ks ns rs es m) s (kEn ks) nx)
  (Y:Yi (wOf ks ns rs es m) s (kEn ks) nx s.ss.length (kEn ks).length (lkR (wOf ks ns rs es m) (kEn ks)).length (enR s).length (rgR s).length y N) :
  ∃ s',Rep (wOf ks ns rs (esN N) y.mates) s' y/\Lw (wOf ks ns rs (esN N) y.mates) ks ns rs y.mates/\Pool (wOf ks ns rs (esN N) y.mates) s' N/\SimW (wOf ks ns rs es m) (wOf ks ns rs (esN N) y.mates)/\SimS s s':=by
 have eu:∀ x ∈ esN N,∀ z ∈ esN N,x.1=z.1->x=z:=sU hh fun x hx=>wb _ (esN_in.mp hx)
 have mm:∀ n i,(∀ z,(wOf ks ns rs es m).mf n i=some z->∃ b,aq y.mates (kE n i)=some (.ref b)/\cI (esN N) y.mates n i=some (b,z.2)/\(b,HO.tup [.int z.2.1,.int z.2.2]) ∈ N)/\((wOf ks ns rs es m).mf n i=none->aq y.mates (kE n i)=none/\cI (esN N) y.mates n i=none):=fun n i=>by
  obtain⟨h1,h2⟩:=Y.mate B n i
  refine⟨fun z hz=>?_,fun hn=>⟨h2 hn,fw (h2 hn)⟩⟩
  obtain⟨b,hv,hb⟩:=h1 z hz
  refine⟨b,hv,?_,hb⟩
  unfold cI
  rw[hv]
  exact eX eu (x:=(b,z.2)) (esN_in.mpr hb)
 have kin:∀ n k,(wOf ks ns rs (esN N) y.mates).kf n=some k->(n,k) ∈ (kEn ks).take (kEn ks).length:=fun n k hk=>by
  obtain⟨i,rfl,hi⟩:=lh hk
  have il:=(List.getElem?_eq_some_iff.mp hi)
  rw[List.take_length]
  have:=eR il.1
  rw[il.2] at this
  exact wj this
 have ok':∀ z:En,(wOf ks ns rs es m).ok z->(wOf ks ns rs (esN N) y.mates).ok z:=fun z h=>h
 have mo':∀ n i z,(wOf ks ns rs (esN N) y.mates).mf n i=some z->∃ z0,(wOf ks ns rs es m).mf n i=some z0/\z0.2=z.2/\(z.1,HO.tup [.int z.2.1,.int z.2.2]) ∈ N:=fun n i z hz=>by
  obtain⟨a1,a2⟩:=mm n i
  cases h0:(wOf ks ns rs es m).mf n i with
  | none=>
   have:cI (esN N) y.mates n i=some z:=hz
   rw[(a2 h0).2] at this; cases this
  | some z0=>
   obtain⟨b,_,h3,h4⟩:=a1 z0 h0
   have:cI (esN N) y.mates n i=some z:=hz
   rw[h3] at this
   cases this
   exact⟨z0,U,U,h4⟩
 have mt:∀ n i,aq y.mates (kE n i)=((wOf ks ns rs (esN N) y.mates).mf n i).map fun z=>V.ref z.1:=fun n i=>by
  obtain⟨a1,a2⟩:=mm n i
  show _=(cI (esN N) y.mates n i).map _
  cases h0:(wOf ks ns rs es m).mf n i with
  | none=>rw[(a2 h0).1,(a2 h0).2]; rfl
  | some z0=>
   obtain⟨b,h2,h3,_⟩:=a1 z0 h0
   rw[h2,h3]; rfl
 have sim:SimW (wOf ks ns rs es m) (wOf ks ns rs (esN N) y.mates):=⟨fun _=>rfl,fun _=>rfl,fun _=>rfl,fun n i=>by
  obtain⟨a1,a2⟩:=mm n i
  show _=(cI (esN N) y.mates n i).map _
  cases h0:(wOf ks ns rs es m).mf n i with
  | none=>rw[(a2 h0).2]
  | some z0=>
   obtain⟨b,_,h3,_⟩:=a1 z0 h0
   rw[h3]; rfl⟩
 have lw':Lw (wOf ks ns rs (esN N) y.mates) ks ns rs y.mates:=⟨lw.kf,lw.nf,lw.rf,lw.nl,lw.rl,lw.rn,mt⟩
 have pm:∀ n e z,(wOf ks ns rs (esN N) y.mates).mf n e=some z->∃ j:Nat,N[j]?=some (z.1,HO.tup [.int z.2.1,.int z.2.2]):=fun n e z hz=>by
  obtain⟨_,_,_,h⟩:=mo' n e z hz
  exact List.mem_iff_getElem?.mp h
 have rg:y.rung=s.rg.map V.int:=by
  rcases Y.rg with ⟨h1,h2⟩ | ⟨_,h2⟩
  ·have:s.rg=[]:=by
    unfold rgR at h1
    split at h1
    ·assumption
    ·cases h1
   rw[h2,this]; rfl
  ·exact h2
 have sd:y.sides=s.ss.map V.int:=by rw[Y.sd,List.take_length]
 have rep:∀ s':Sd,s'.ss=s.ss->s'.rg=s.rg->y.eng=enV s'.at_->(∀ z,s'.at_=some z->(wOf ks ns rs (esN N) y.mates).ok z)->Rep (wOf ks ns rs (esN N) y.mates) s' y:=fun s' e1 e2 h1 h2=>
  ⟨fun n k hk=>Y.kv _ (kin n k hk),fun n k hk=>Y.no _ (kin n k hk),fun n k hk=>Y.ro _ (kin n k hk),fun n k hk hp=>by rw[e1]; exact R.rr n k hk hp,by rw[e1]; exact sd,by rw[e1]; exact R.s12,mt,fun n i z hz=>(by
   obtain⟨z0,h3,h4,_⟩:=mo' n i z hz
   have:=R.mo _ _ _ h3
   unfold Wd.ok at this ⊢
   rw[h4] at this
   exact this),h1,h2,by rw[e2]; exact rg⟩
 rcases Y.en with ⟨h1,h2⟩ | ⟨_,z,c,hz,h2,h3⟩
 ·have ha:s.at_=none:=by
   cases h:s.at_ with
   | none=>rfl
   | some u=>unfold enR at h1; rw[h] at h1; cases h1
  refine⟨⟨s.ss,none,s.rg⟩,rep _ rfl rfl h2 (fun z h=>(by cases h)),lw',⟨pm,fun z h=>(by cases h)⟩,sim,⟨rfl,by rw[ha],rfl⟩⟩
 ·refine⟨⟨s.ss,some (c,z.2),s.rg⟩,rep _ rfl rfl h2 (fun z' h=>?_),lw',⟨pm,fun z' h=>?_⟩,sim,⟨U,by rw[hz]; rfl,U⟩⟩
  ·cases h
   exact R.eo z hz
  ·cases h
   exact List.mem_iff_getElem?.mp h3
inductive sp_law (K:PySem.W.Frag) (vs:List V) (H:Hp) (Q:VK) (E_:XK):Prop
 | mk (a:Addr) (ns:List Int) (_:vs=[.ref a]) (_:SqL K H a (ns.map V.int)) (_:ns.length<=63) (_:∀ H',Q (.bl true) H'):sp_law K vs H Q E_
variable{K:PySem.W.Frag}
theorem law_binds {mg:Str->Option Value}{t:Adr} (T:Txt K mg t) (s:Shared) (u:Value):BindsTo s t.d_law ⟨[u],[]⟩ [("_law_script",u)]:=by
 obtain⟨oc,od,kV,doc,pm,an,cdv,ct,osl,e,lk,hcd⟩:=T.F_law.ex
 rw[e,T.e_law]
 exact .of_eq rfl
theorem law_start {H:Hp}{a:Addr}{ns:List Int} (hl:ns.length<=63) (hS:SqL K H a (ns.map V.int)) {E:XK}:sp_law K [.ref a] H (fun v _=>v=.bl true) E:=⟨a,ns,U,hS,hl,fun _=>rfl⟩
theorem Pool.mono {w:Wd}{L L':Kn} (p:Pool w s L) (h:∀ x ∈ L,x ∈ L'):Pool w s L' :=
 ⟨fun n e z hz=>(let ⟨_,hj⟩:=p.m n e z hz; List.mem_iff_getElem?.mp (h _ (wj hj))),fun z hz=>(let ⟨_,hj⟩:=p.e z hz; List.mem_iff_getElem?.mp (h _ (wj hj)))⟩
theorem qW {W W2:Wd} (S:SimW W W2) (n:Int) (e:Nat):cz W n e=cz W2 n e:=by
 unfold cz
 rcases cJ (S.m n e) with ⟨h1,h2⟩ | ⟨u,v,h1,h2,h3⟩
 ·rw[h1,h2]
 ·rw[h1,h2]
  dsimp only
  rw[h3]
theorem tf {W W2:Wd}{s s2:Sd} (S:SimW W W2) (T:SimS s s2) (KS:List (Int×Kd)) (nx:Int):ytT W2 s2 KS nx=ytT W s KS nx:=by
 have e1:rdL s2=rdL s:=by unfold rdL; rw[T.s]
 have e2:pcL W2=pcL W:=by
  funext p
  unfold pcL pcN
  rw[S.n,S.r]
 have e3:lkL W2 KS=lkL W KS:=by
  unfold lkL lkP
  congr 1
  funext p
  congr 1
  funext e
  rw[qW S]
 have e4:enL s2=enL s:=by
  unfold enL
  rcases cJ T.a with ⟨h1,h2⟩ | ⟨u,v,h1,h2,h3⟩
  ·rw[h1,h2]
  ·rw[h1,h2]; dsimp only; rw[h3]
 have e5:rgL s2=rgL s:=by unfold rgL; rw[T.g]
 unfold ytT ytL
 rw[e1,e2,e3,e4,e5,T.s]
theorem EqE.mate {W W2:Wd}{s s2:Sd}{L:Kn}{m m2:List (List Key×V)} (S:SimW W W2) (p:Pool W s L) (p2:Pool W2 s2 L) (mt:∀ n e,aq m (kE n e)=(W.mf n e).map fun z=>V.ref z.1) (mt2:∀ n e,aq m2 (kE n e)=(W2.mf n e).map fun z=>V.ref z.1) (n e:Int) :
  EqE L ((aq m2 (kE n e)).getD .non) ((aq m (kE n e)).getD .non):=by
 rw[mt,mt2]
 rcases cJ (S.m n e) with ⟨h1,h2⟩ | ⟨u,v,h1,h2,h3⟩
 ·rw[h1,h2]; exact .inl ⟨U,U⟩
 ·obtain⟨j1,g1⟩:=p.m _ _ _ h1
  obtain⟨j2,g2⟩:=p2.m _ _ _ h2
  rw[h1,h2]
  refine .inr ⟨v.1,u.1,u.2.1,u.2.2,j2,j1,U,U,?_,g1⟩
  rw[g2,h3]
theorem pP (ks:List Kd):(kEn ks).Pairwise fun a b=>a.1<b.1:=by
 rw[List.pairwise_iff_getElem]
 intro i j hi hj hij
 rw[bZ] at hi hj
 have e1:=eR hi
 have e2:=eR hj
 rw[wa (by rw[bZ]; exact hi)] at e1
 rw[wa (by rw[bZ]; exact hj)] at e2
 rw[Option.some.inj e1,Option.some.inj e2]
 show(i:Int)<j
 omega
section
variable {y:YR}{ks:List Kd}{ns rs:List Int}{es:List En}{m:List (List Key×V)}{s:Sd}{on:Int}{kk nn rr sd mh gg:Addr}{L:Kn}
theorem TsOk.bf (S:TsOk y ks ns rs es m s on kk nn rr sd mh gg L):BF (wOf ks ns rs es m) s (kEn ks) on:=by
 have on1:=S.on1
 have inK:∀ z:En,(wOf ks ns rs es m).ok z->∃ p ∈ kEn ks,p.1=z.2.1/\0<=z.2.2/\z.2.2<p.2.many:=fun z ⟨k,h1,h2,h3⟩=>by
  obtain⟨i,e,hi⟩:=lh h1
  have il:=List.getElem?_eq_some_iff.mp hi
  have:=eR il.1
  rw[il.2] at this
  exact⟨_,wj this,e.symm,h2,h3⟩
 refine⟨pP ks,fun p hp=>?_,fun p hp=>S.f.n _ _ (S.f.ks p hp),fun p hp=>S.R.rr _ _ (S.f.ks p hp),S.R.s12,fun z hz=>inK z (S.R.eo z hz),fun n e z hz=>inK z (S.R.mo n e z hz),S.sy,S.f.rg,S.f.kl,S.f.sl,S.f.rl,S.f.nx⟩
 obtain⟨i,e,hi⟩:=l7 hp
 have:=(List.getElem?_eq_some_iff.mp hi).1
 omega
end
inductive law1Inv (C_:Addr) (a:Addr) (d:Addr) (tp:Addr) (A1:YA) (A2:YA) (kk:Addr) (nn:Addr) (rr:Addr) (sd:Addr) (mh:Addr) (gg:Addr) (on:Int) (tx:Str) (s:Sd) (σ':St) (H':Hp):Prop
 | mk (y':YR) (L':Kn) (ss':List Int) (o10 o14:Option V) (_:σ'=[some (V.ref a),some (V.ref d),some (V.ref tp),some (V.ref A1.p),some (V.ref kk),some (V.ref nn),some (V.ref rr),some (V.ref sd),some (V.ref mh),some (V.ref gg),o10,some (V.int on),some (V.str tx),some (V.ref A2.p),o14]) (_:y'.next=on) (_:cC y') (_:y'.sides.length=s.ss.length) (_:ss'.length=s.ss.length) (_:(sd,HO.lst (ss'.map V.int)) ∈ L') (_:Has H' (yL C_ A2 y'++L')):law1Inv C_ a d tp A1 A2 kk nn rr sd mh gg on tx s σ' H'
section
variable {P:Program}{w:World}{K:PySem.W.Frag}{mg:Str->Option Value}{base:Heap}{t:Adr}
theorem scLa:FnScope ["_law_script","_law_d","_law_made","_law_yard","_law_kinds_here","_law_notes","_law_rods","_law_sides","_law_mates","_law_rung","_law_here","_law_on","_law_text","_law_other","_law_done"] ["_law_script"] (ah sf):={}
theorem ok_law (T:Txt K mg t):FnOk P w K mg base CX0 12 t.f_law t.d_law ["_law_script"] (sp_law K):=by
 obtain⟨_,hd_J61_2,hb_J61_2⟩:=ig T
 refine T.F_law.ok scLa (fun vs H Q E h=>?_) (fun cdv A outer s H vs Q E hr h=>?_)
 ·obtain⟨_,_,rfl,_⟩:=h
  rfl
 ·obtain⟨a,ns0,rfl,hS,hns,q⟩:=h
  refine⟨_,(ab (aB (i:=1) scLa.nd rfl (Or.inl rfl) (pcl (pi T) hr T.m_draws T.F_draws.kp (rH T) (aa (pv 0) (aa ag ae))))
   (ab (aB (i:=2) scLa.nd rfl (Or.inl rfl) (pcl (ul T) hr T.m_J21 T.F_J21.kp (b_J21 T) (aa (pv 1) (aa ag ae))))
   (ab (bA (cZ ou (pv 2) dN (dM ag)) (bB rfl (ap (aj (i:=3) scLa.nd rfl (Or.inl rfl)) (ap (aj (i:=4) scLa.nd rfl (Or.inl rfl)) (ap (aj (i:=5) scLa.nd rfl (Or.inl rfl)) (ap (aj (i:=6) scLa.nd rfl (Or.inl rfl)) (ap (aj (i:=7) scLa.nd rfl (Or.inl rfl)) ba)))))))
   (ab (bA (cZ ou (pv 2) (dM ag) dN) (bB rfl (ap (aj (i:=8) scLa.nd rfl (Or.inl rfl)) (ap (aj (i:=9) scLa.nd rfl (Or.inl rfl)) (ap (aj (i:=10) scLa.nd rfl (Or.inl rfl)) (ap (aj (i:=11) scLa.nd rfl (Or.inl rfl)) ba))))))
   (ab (aB (i:=12) scLa.nd rfl (Or.inl rfl) (bi PySem.F.plainAttrs_str PySem.F.slot_str_join PySem.F.type_str_join fX az (aa (pcl (ok_Jh T) hr T.m_Jh T.F_Jh.kp (b_Jh T) (aa (pv 4) (aa (pv 5) (aa (pv 6) (aa (pv 7) (aa (pv 8) (aa (pv 9) (aa (pv 10) (aa (pv 11) ae))))))))) ae)))
   (ab (aB (i:=13) scLa.nd rfl (Or.inl rfl) (pcl (sN T) hr T.m_Js T.F_Js.kp (vZ T) (aa (pv 12) ae)))
   (ab (av (PW.pt (cY (ai dB (pcl (ok_Ji T) hr T.m_Ji T.F_Ji.kp (b_Ji T) (aa (pv 13) ae)) (pv 12) (am _)) (cc (bG (bp (pcl (ud T) hr T.m_Jf1 T.F_Jf1.kp (b_Jf1 T) (aa (pv 13) (aa (pv 4) (aa (pv 5) (aa (pv 6) ae))))))))))
    (af (ao cT))
    ak)
   (ab (av (PW.pt (cY (bG (bp (pcl (lP T) hr T.m_same T.F_same.kp (qe T) (aa (pv 13) (aa (pv 4) (aa (pv 7) (aa (pv 8) (aa (pv 9) (aa (pv 10) (aa ag ae)))))))))) (cc (bG (bp (pcl (dn T) hr T.m_is T.F_is.kp (fR T) (aa (pcl (qO T) hr T.m_back T.F_back.kp (uS T) (aa (pv 13) (aa ag ae))) (aa ag ae))))))))
    (af (ao cT))
    ak)
   (ab (di (av (ai cH (pv 10) aY (am _))
    (ab (bA (pcl (lO T) hr T.m_walk T.F_walk.kp (qd T) (aa (pv 4) (aa (pv 5) (aa (pv 6) (aa (pv 7) (aa (pv 8) (aa (pv 9) (aa (pv 10) (aa (aC bq (aI au (pv 1) ag) ag) ae))))))))) (bB rfl (ap (aj (i:=10) scLa.nd rfl (Or.inl rfl)) (ap (aj (i:=14) scLa.nd rfl (Or.inl rfl)) ba))))
     (af (av (PW.pt (cY (bG (bp (pcl (dn T) hr T.m_is T.F_is.kp (fR T) (aa (pcl (pd T) hr T.m_run T.F_run.kp (sV T) (aa (pv 13) (aa (aC bq (aI au (pv 1) ag) ag) ae))) (aa (pv 14) ae))))) (cc (bG (bp (pcl (lP T) hr T.m_same T.F_same.kp (qe T) (aa (pv 13) (aa (pv 4) (aa (pv 7) (aa (pv 8) (aa (pv 9) (aa (pv 10) (aa (pv 14) ae)))))))))))))
      (af (ao cT))
      ak)))
    ak))
   (ab (av (PW.pt (cY (bG (bp (pcl (dn T) hr T.m_is T.F_is.kp (fR T) (aa (aF (pv 13) T.cl_Yard T.M_J61 (dD T) hr hb_J61_2 hd_J61_2 aH (aa az ae)) (aa (pv 11) ae))))) (cc (bG (bp (pcl (dn T) hr T.m_is T.F_is.kp (fR T) (aa (aF (pv 13) T.cl_Yard T.M_J71 (ja T) hr (mE T) .nil aH (aa (pv 11) ae)) (aa (aG aA (by rfl) T.z_len (by rfl) (aa (pv 7) ae)) ae))))))))
    (af (ao cT))
    ak)
   (af (ao (pcl (dn T) hr T.m_is T.F_is.kp (fR T) (aa (aF (pcl (sN T) hr T.m_Js T.F_Js.kp (vZ T) (aa (pv 12) ae)) T.cl_Yard T.M_J61 (dD T) hr hb_J61_2 hd_J61_2 aH (aa az ae)) (aa (pv 11) ae))))))))))))))),?_⟩
  rw[show L2.start ["_law_script","_law_d","_law_made","_law_yard","_law_kinds_here","_law_notes","_law_rods","_law_sides","_law_mates","_law_rung","_law_here","_law_on","_law_text","_law_other","_law_done"] [V.ref a]=([some (V.ref a),none,none,none,none,none,none,none,none,none,none,none,none,none,none]:St) from rfl]
  refine⟨_,U,a,ns0,200,[],U,hS,hns,by decide,by decide,Has.nil,fun H1 d ds h1 hds hdr=>?_⟩
  clear hS hns hdr
  have hds:ds.length=200:=hds
  dsimp only[List.set]
  refine⟨_,U,d,ds,U,h1,by omega,fun H2 tp A1 y ks ns rs es m s on kk nn rr sd mh gg L S xd h2=>?_⟩
  dsimp only[List.set]
  obtain⟨tv,etv⟩:∃ tv:List V,[V.ref A1.p,.ref kk,.ref nn,.ref rr,.ref sd,.ref mh,.ref gg,enV s.at_,.int on]=tv:=⟨_,U⟩
  have c1:cQ tv none (some 5)=[V.ref A1.p,.ref kk,.ref nn,.ref rr,.ref sd]:=by rw[<- etv]; rfl
  have c2:cQ tv (some 5) none=[V.ref mh,.ref gg,enV s.at_,.int on]:=by rw[<- etv]; rfl
  have ltv:tv.length=9:=by rw[<- etv]; rfl
  rw[etv] at h2
  refine⟨_,U,_,U,tp,tv,U,SqT.of (h2.get 0 U),(by rw[ltv]; decide),fun p1 hp1=>?_⟩
  have h3:=h2.alloc hp1 (.tup (cQ tv none (some 5)))
  rw[c1] at h3 ⊢
  refine⟨p1,_,U,SqT.of (h3.get 0 U),U,_,_,U,_,_,U,_,_,U,_,_,U,_,_,U,U,?_⟩
  dsimp only[List.set]
  generalize upd H2 p1 _=H3 at h3 ⊢
  refine⟨_,U,_,U,tp,tv,U,SqT.of (h3.get 1 U),(by rw[ltv]; decide),fun p2 hp2=>?_⟩
  have h4:=h3.alloc hp2 (.tup (cQ tv (some 5) none))
  rw[c2] at h4 ⊢
  refine⟨p2,_,U,SqT.of (h4.get 0 U),U,_,_,U,_,_,U,_,_,U,_,_,U,U,?_⟩
  dsimp only[List.set]
  have h4:=h4.tail.tail.tail
  generalize upd H3 p2 _=H4 at h4 ⊢
  clear h3 h2 etv c1 c2 ltv
  have mL:∀ z ∈ L,z ∈ yL t.c_Yard A1 y++L:=fun z hz=>wb _ hz
  refine⟨U,_,U,_,U,_,U,_,U,_,U,_,U,_,U,_,U,kk,nn,rr,sd,mh,gg,ks,ns,rs,es,m,s,on,y,_,U,h4,mL _ S.xk,mL _ S.xn,mL _ S.xr,mL _ S.xs,mL _ S.xm,mL _ S.xg,S.lw,S.mks,S.ml,S.R,S.f,S.P.app _,fun H5 ll h5=>?_⟩
  refine⟨_,ll,ytL (wOf ks ns rs es m) s (kEn ks) on,U,U,SqL.of (h5.get 0 U),k9 S.f S.R,?_⟩
  have h5:Has H5 L:=Has.dropL _ h5.tail
  dsimp only[List.set]
  have B:=S.bf
  obtain⟨tx,etx⟩:∃ tx,ytT (wOf ks ns rs es m) s (kEn ks) on=tx:=⟨_,U⟩
  rw[show Txt.join "\n" (ytL (wOf ks ns rs es m) s (kEn ks) on)=tx from etx]
  clear h4
  have kl:ks.length<=30:=by have:=B.kl; rw[bZ] at this; exact this
  have sl:=B.sl
  have rl:=B.rl
  refine⟨_,U,wOf ks ns rs es m,s,kEn ks,on,L,by rw[etx]; rfl,h5,B,fun H6 A2 y2 N2 h6 Y ny=>?_⟩
  dsimp only[List.set]
  obtain⟨s2,R2,lw2,P2,sw,st⟩:=Yi.rep (X:=yL t.c_Yard A2 y2) (N:=N2) (Has.sub h6 (List.Sublist.append (List.Sublist.refl _) (List.sublist_append_left _ _))) S.R S.lw B Y
  have ll2:=jf (wOf ks ns rs es m) (kEn ks)
  rw[bZ] at ll2
  have sm2:cC y2:=Y.small B B.kl (by omega)
  have tl2:=Y.tl
  have kd2:y2.kinds=iw (kEn ks):=by rw[Y.kd,List.take_length]
  have fr2:=Y.fr
  clear Y
  obtain⟨W2,eW2⟩:∃ W2,wOf ks ns rs (esN N2) y2.mates=W2:=⟨_,U⟩
  have f2:YFit W2 s2 (kEn ks) y2.next:=by
   rw[ny,<- eW2]
   exact⟨S.f.nx,S.f.k,S.f.n,S.f.ks,S.f.kl,by rw[<- st.s]; exact S.f.sl,by rw[<- st.g]; exact S.f.rl,by rw[<- st.g]; exact S.f.rg⟩
  have P2':Pool W2 s2 (N2++L):=by rw[<- eW2]; exact P2.mono fun x hx=>wA _ hx
  have P1':Pool (wOf ks ns rs es m) s (N2++L):=S.P.app N2
  refine⟨_,U,A2,y2,N2++L,W2,s2,kEn ks,U,h6,by rw[<- eW2]; exact R2,P2',sm2,f2,kd2,fun H7 h7=>?_⟩
  have etx2:ytT W2 s2 (kEn ks) y2.next=tx:=by rw[<- etx,ny,<- eW2]; exact tf sw st _ _
  rw[etx2]
  refine⟨_,U,U,?_⟩
  rw[show(!decide (V.str tx=V.str tx))=false from by rw[decide_eq_true rfl]; rfl]
  refine⟨_,U,bz ?_⟩
  have mR:∀ z ∈ L,z ∈ N2++L:=fun z hz=>wb _ hz
  obtain⟨jk,hjk⟩:=bv (mR _ S.xk)
  obtain⟨jn,hjn⟩:=bv (mR _ S.xn)
  obtain⟨jr,hjr⟩:=bv (mR _ S.xr)
  obtain⟨js,hjs⟩:=bv (mR _ S.xs)
  obtain⟨jm,hjm⟩:=bv (mR _ S.xm)
  obtain⟨jg,hjg⟩:=bv (mR _ S.xg)
  refine⟨_,U,_,U,_,U,_,U,A2,y2,N2++L,kk,nn,rr,ks,ns,rs,esN N2,y2.mates,s2,jk,jn,jr,U,h7,hjk,hjn,hjr,R2,lw2,by omega,fun H8 h8=>⟨_,U,bz ?_⟩⟩
  have mt2:=lw2.mt
  rw[eW2] at R2 P2 sw mt2
  have kdv:y2.kinds=dS ks:=by rw[kd2,pQ]
  have rg2:y2.rung.length<=30:=by rw[R2.rg,v9,<- st.g]; exact rl
  refine⟨_,U,_,U,_,U,_,U,_,U,_,U,A2,y2,N2++L,kk,sd,mh,gg,ks,s.ss,s.rg,m,enV s.at_,0,jk,js,jm,jg,U,h8,hjk,hjs,hjm,hjg,kdv,by rw[R2.sd,<- st.s],by rw[R2.rg,<- st.g],by rw[R2.en]; exact EqE.sim st P1' P2',by rw[tl2]; rfl,fun p _=>EqE.mate sw P1' P2' S.lw.mt mt2 p.1 p.2,by omega,by omega,by omega,fun H9 h9=>⟨_,U,bz ?_⟩⟩
  refine⟨_,U,A2,y2,N2++L,W2,s2,[],3,U,h9,R2.okw,R2,P2',tl2,U,by decide,fun H10 y3 j hj h10 R3 t3 hs3 nx3 kd3 no3 ro3 mt3=>?_⟩
  have j0:j=0:=by have:(j:Int)=0 - max 0 (min 3 0):=hj; omega
  subst j0
  have h10:Has H10 (yL t.c_Yard A2 y3++(N2++L)):=h10
  have R3:Rep W2 s2 y3:=R3
  have t3:y3.trail=trV []:=t3
  clear h5 h6 h7 h8 h9 hjk hjn hjr hjs hjm hjg jk jn jr js jm jg hj
  refine⟨_,_,U,?_⟩
  rw[decide_eq_true (show max (0:Int) (min 3 ((([]:List (Addr×Sd)).length:Nat):Int))=0 by decide)]
  refine⟨_,U,bz ?_⟩
  have sm3:cC y3:=⟨by rw[kd3]; exact sm2.k,by rw[no3]; exact sm2.n,by rw[ro3]; exact sm2.r,by rw[R3.sd,v9,<- st.s]; omega,by rw[mt3]; exact sm2.m,by rw[R3.rg,v9,<- st.g]; omega,by rw[t3]; decide⟩
  have y3s:y3.sides.length=s.ss.length:=by rw[R3.sd,v9,<- st.s]
  refine⟨(law1Inv t.c_Yard a d tp A1 A2 kk nn rr sd mh gg on tx s),?_,?_⟩
  ·refine⟨_,U,U,_,U,if2 (fun _=>?_) (fun _=>?_)⟩
   ·obtain⟨R,hp,xk,xn,xr,xm⟩:=S.sp
    have inR:∀ {x:Addr×HO},x ∈ L->¬ x=(sd,HO.lst (s.ss.map V.int))->¬ x=(gg,HO.lst (s.rg.map V.int))->x ∈ R:=fun {x} hx n1 n2=>by
     rcases wt.mp (hp.mem_iff.mp hx) with h | h
     ·exact absurd h n1
     ·rcases wt.mp h with h | h
      ·exact absurd h n2
      ·exact h
    have tupR:∀ {z:En},(z.1,HO.tup [.int z.2.1,.int z.2.2]) ∈ L->(z.1,HO.tup [.int z.2.1,.int z.2.2]) ∈ R:=fun {z} h=>inR h (fun e=>by injection e with _ e; cases e) (fun e=>by injection e with _ e; cases e)
    have PR:Pool (wOf ks ns rs es m) s R:=⟨fun n e z hz=>(let ⟨_,hj⟩:=S.P.m n e z hz; bv (tupR (wj hj))),fun z hz=>(let ⟨_,hj⟩:=S.P.e z hz; bv (tupR (wj hj)))⟩
    have ldm:(ds.map V.int).length=200:=by rw[v9,hds]
    have xdR:(d,HO.lst (ds.map V.int)) ∈ R:=inR xd (fun e=>by
     injection e with _ e
     injection e with e
     have:=congrArg List.length e
     rw[ldm,v9] at this
     omega) (fun e=>by
     injection e with _ e
     injection e with e
     have:=congrArg List.length e
     rw[ldm,v9] at this
     omega)
    have h11:Has H10 ((sd,HO.lst (s.ss.map V.int))::(gg,HO.lst (s.rg.map V.int))::(yL t.c_Yard A2 y3++(N2++R))):=h10.perm ((List.Perm.append_left _ ((List.Perm.append_left N2 hp).trans (List.perm_append_comm_assoc N2 [_,_] R))).trans (List.perm_append_comm_assoc (yL t.c_Yard A2 y3) [_,_] (N2++R)))
    have up:∀ {x:Addr×HO},x ∈ R->x ∈ yL t.c_Yard A2 y3++(N2++R):=fun h=>wb _ (wb _ h)
    obtain⟨jk,hjk⟩:=bv (up xk)
    obtain⟨jn,hjn⟩:=bv (up xn)
    obtain⟨jr,hjr⟩:=bv (up xr)
    obtain⟨jm,hjm⟩:=bv (up xm)
    obtain⟨n1,hn1,n1b⟩:∃ n1:Nat,ds.getD (0:Int).toNat 0 % 40=n1/\n1<40:=⟨(ds.getD (0:Int).toNat 0 % 40).toNat,by omega,by omega⟩
    have gdR:∀ {H':Hp}{X:Kn},Has H' (X++R)->SqL K H' d (ds.map V.int):=fun h=>SqL.of (h.at_ _ (wb _ xdR))
    refine⟨_,U,_,U,_,U,_,U,_,U,_,U,_,U,_,U,d,_,_,_,U,U,SqL.of (h11.at_ _ (wc _ (wc _ (up xdR)))),atD (by omega) (by omega),_,_,U,U,(show(0:Int)<40 by decide),?_⟩
    dsimp only
    rw[hn1]
    refine⟨sd,gg,kk,nn,rr,mh,_,wOf ks ns rs es m,s,n1,ks,ns,rs,m,jk,jn,jr,jm,U,h11,S.lw,S.R.okw,PR.mono (fun x hx=>up hx),hjk,hjn,hjr,hjm,by omega,fun H12 tp2 h12 O12 _ g12=>?_⟩
    rw[Int.toNat_natCast] at h12 O12 g12
    refine⟨tp2,_,U,SqT.of (h12.get 0 U),U,_,_,U,_,_,U,U,?_⟩
    dsimp only[List.set]
    have h13:Has H12 (yL t.c_Yard A2 y3++((sd,HO.lst (((wOf ks ns rs es m).go n1 s).ss.map V.int))::(gg,HO.lst (((wOf ks ns rs es m).go n1 s).rg.map V.int))::(N2++R))):=Has.comm (X:=[_,_]) (Y:=yL t.c_Yard A2 y3) (R:=N2++R) h12.tail
    clear h12 h11 h10 hjk hjn hjr hjm jk jn jr jm
    obtain⟨sim1,sim2⟩:=ow sw n1 st
    have PW:=PR.go n1
    obtain⟨s3,es3⟩:∃ s3,(wOf ks ns rs es m).go n1 s=s3:=⟨_,U⟩
    have gl3:=kX (wOf ks ns rs es m) n1 s
    rw[es3] at h13 O12 g12 sim1 PW gl3 ⊢
    have PN:Pool W2 s2 ((sd,HO.lst (s3.ss.map V.int))::(gg,HO.lst (s3.rg.map V.int))::(N2++R)):=P2.mono fun x hx=>wc _ (wc _ (wA _ hx))
    have rg3:y3.rung.length<=30:=by rw[R3.rg,v9,<- st.g]; exact rl
    refine⟨_,U,_,U,d,_,_,_,U,U,gdR (X:=yL t.c_Yard A2 y3++(_::_::N2)) (by rw[wm]; exact h13),atD (by omega) (by omega),_,_,U,U,(show(0:Int)<40 by decide),?_⟩
    dsimp only
    rw[hn1]
    refine⟨A2,y3,_,W2,s2,[],n1,U,h13,R3,PN,t3,(by show((0:Nat):Int)+n1<=900000; omega),(by omega),(by show 0<=900000; omega),(by omega),fun H15 y4 ts h15 R4 t4 hs4 nx4 kd4 no4 ro4 mt4 P4=>?_⟩
    rw[Int.toNat_natCast] at R4 hs4 P4
    rw[List.nil_append] at h15 t4
    have lts:ts.length=((wOf ks ns rs es m).hist n1 s).length:=by
     have:=congrArg List.length hs4
     rw[v9] at this
     omega
    refine⟨_,U,_,_,U,?_⟩
    rw[decide_eq_true (by rw[lts])]
    refine⟨_,U,bz ?_⟩
    obtain⟨L3,eL3,xk3,xm3,xs3,xg3,sub3⟩:∃ L3:Kn,trK W2 ts++((sd,HO.lst (s3.ss.map V.int))::(gg,HO.lst (s3.rg.map V.int))::(N2++R))=L3/\(kk,HO.lst (ksV ks)) ∈ L3/\(mh,HO.dT m) ∈ L3/\(sd,HO.lst (s3.ss.map V.int)) ∈ L3/\(gg,HO.lst (s3.rg.map V.int)) ∈ L3/\∀ x ∈ N2++R,x ∈ L3 :=
     ⟨_,U,by simp[xk],by simp[xm],by simp,by simp,fun x hx=>wb _ (wc _ (wc _ hx))⟩
    have h15:Has H15 (yL t.c_Yard A2 y4++L3):=by rw[<- eL3]; exact h15
    have PA:Pool (wOf ks ns rs es m) s3 L3:=PW.mono fun x hx=>sub3 x (wb _ hx)
    have PB:Pool W2 (W2.go n1 s2) L3:=by rw[<- eL3]; exact P4.app _
    have mt4':∀ n e,aq y4.mates (kE n e)=(W2.mf n e).map fun z=>V.ref z.1:=by rw[mt4,mt3]; exact mt2
    obtain⟨jk,hjk⟩:=bv xk3
    obtain⟨js,hjs⟩:=bv xs3
    obtain⟨jm,hjm⟩:=bv xm3
    obtain⟨jg,hjg⟩:=bv xg3
    have hl:=jj (wOf ks ns rs es m) n1 s
    refine⟨_,U,_,U,_,U,_,U,_,U,_,U,_,U,A2,y4,L3,kk,sd,mh,gg,ks,s3.ss,s3.rg,m,enV s3.at_,_,jk,js,jm,jg,U,h15,hjk,hjs,hjm,hjg,by rw[kd4,kd3]; exact kdv,by rw[R4.sd,<- sim1.s],by rw[R4.rg,<- sim1.g],by rw[R4.en]; exact EqE.sim sim1 PA PB,by rw[t4]; unfold trV; rw[v9,lts],fun p _=>EqE.mate sw PA PB S.lw.mt mt4' p.1 p.2,by omega,by omega,by omega,fun H16 h16=>⟨_,U,bz ?_⟩⟩
    refine⟨y4,L3,s3.ss,_,_,U,by rw[nx4,nx3,ny],⟨by rw[kd4]; exact sm3.k,by rw[no4]; exact sm3.n,by rw[ro4]; exact sm3.r,by rw[R4.sd,v9,<- sim1.s]; omega,by rw[mt4]; exact sm3.m,by rw[R4.rg,v9,<- sim1.g]; omega,by rw[t4]; unfold trV; rw[v9]; omega⟩,by rw[R4.sd,v9,<- sim1.s]; omega,by omega,xs3,h16⟩
   ·exact⟨y3,N2++L,s.ss,_,_,U,by rw[nx3,ny],sm3,y3s,U,mR _ S.xs,h10⟩
  clear h10
  rintro σ' H11 ⟨y4,L4,ss4,o10,o14,rfl,nx4,sm4,sl4,ssl,xs4,h11⟩
  refine⟨_,U,A2.p,A2.dx,_,U,h11.get 1 U,(bC _ _ _).1,A2,y4,L4,.lazy,0,.non,U,h11,sm4,(fun h=>nomatch h),(fun _ h=>absurd rfl h),fun H12 q12 h12=>?_⟩
  refine⟨_,U,_,_,U,?_⟩
  rw[decide_eq_true nx4]
  refine⟨_,U,bz ?_⟩
  refine⟨_,U,A2.p,A2.dx,_,U,h12.get 1 U,(bC _ _ _).2.2.2.2.1,_,U,{ A2 with tr:=q12 },du y4 .lazy 0 .non,L4,on,.str Kd.lazy.str,.int y4.sides.length,U,h12,(by show aq (aO y4.kinds (Sum.inl y4.next) (.str Kd.lazy.str)) _=_; rw[aN,if_pos (by rw[nx4])]),(by show aq (aO y4.rods (Sum.inl y4.next) (if V.non=.non then .int y4.sides.length else .non)) _=_; rw[aN,if_pos (by rw[nx4]),if_pos rfl]),?_⟩
  refine⟨_,U,sd,_,U,.inl (SqL.of (h12.at_ _ (wb _ xs4))),_,_,U,?_⟩
  rw[decide_eq_true (by rw[v9,sl4,ssl])]
  refine⟨_,U,bz ?_⟩
  refine⟨_,U,wOf ks ns rs es m,s,kEn ks,on,_,by rw[etx]; rfl,h12,B,fun H13 A5 y5 N5 h13 Y5 ny5=>?_⟩
  refine⟨A5.p,A5.dx,_,U,h13.get 1 U,(bC _ _ _).1,A5,y5,_,.line,0,.non,U,h13,Y5.small B B.kl (by omega),(fun h=>nomatch h),(fun h=>nomatch h),fun H14 q14 h14=>?_⟩
  refine⟨_,U,_,_,U,?_⟩
  rw[decide_eq_true ny5]
  exact q _
end
noncomputable abbrev ad {A0 A3 A5 A7 A9 Ab Ad Af Ah Aj Al An Ap Ar At Av Ax Az A11 A13 A15 A17 A19 A1b A1d A1f A1h A1j A1l A1n A1p A1r A1t A1v A1x A1z A21 A23 A25 A27 A29 A2b A2d A2f A2h A2j A2l A2n A2p A2r A2t A2w A2y A30 A33 A35 A37 A39 A3b A3d A3f A3h A3j A3l A3n A3p A3r A3t A3v A3x A3z A41 A43 A45:Addr}{D1 D4 D6 D8 Da Dc De Dg Di Dk Dm Do Dq Ds Du Dw Dy D10 D12 D14 D16 D18 D1a D1c D1e D1g D1i D1k D1m D1o D1q D1s D1u D1w D1y D20 D22 D24 D26 D28 D2a D2c D2e D2g D2i D2k D2m D2o D2q D2s D2u D2x D2z D31 D34 D36 D38 D3a D3c D3e D3g D3i D3k D3m D3o D3q D3s D3u D3w D3y D40 D42 D44:FuncData}{V2 V2v V32 V46 V47 V48 V49 V4a V4b V4c:Value}:Adr:=⟨A0,D1,V2,A3,D4,A5,D6,A7,D8,A9,Da,Ab,Dc,Ad,De,Af,Dg,Ah,Di,Aj,Dk,Al,Dm,An,Do,Ap,Dq,Ar,Ds,At,Du,Av,Dw,Ax,Dy,Az,D10,A11,D12,A13,D14,A15,D16,A17,D18,A19,D1a,A1b,D1c,A1d,D1e,A1f,D1g,A1h,D1i,A1j,D1k,A1l,D1m,A1n,D1o,A1p,D1q,A1r,D1s,A1t,D1u,A1v,D1w,A1x,D1y,A1z,D20,A21,D22,A23,D24,A25,D26,A27,D28,A29,D2a,A2b,D2c,A2d,D2e,A2f,D2g,A2h,D2i,A2j,D2k,A2l,D2m,A2n,D2o,A2p,D2q,A2r,D2s,A2t,D2u,V2v,A2w,D2x,A2y,D2z,A30,D31,V32,A33,D34,A35,D36,A37,D38,A39,D3a,A3b,D3c,A3d,D3e,A3f,D3g,A3h,D3i,A3j,D3k,A3l,D3m,A3n,D3o,A3p,D3q,A3r,D3s,A3t,D3u,A3v,D3w,A3x,D3y,A3z,D40,A41,D42,A43,D44,A45,V46,V47,V48,V49,V4a,V4b,V4c⟩
variable{sl:Array (Option Value)}
theorem dm_J61 {v:Value}{T:Addr}{od:Option Addr}{n:Nat}{tk0:Tok} (e:v=.ref T) (l:K.lookup T=some ⟨.type "tuple",od,.seq #[.int 0 tk0,.none] n,sl⟩):∃ (T:Addr) (od:Option Addr) (n:Nat) (sl:Array (Option Value)) (tk0:Tok),v=.ref T/\K.lookup T=some ⟨.type "tuple",od,.seq #[.int 0 tk0,.none] n,sl⟩:=⟨T,od,n,sl,tk0,e,l⟩
theorem dm_J8 {v:Value}{T:Addr}{od:Option Addr}{n:Nat}{tk0:Tok} (e:v=.ref T) (l:K.lookup T=some ⟨.type "tuple",od,.seq #[.int 1 tk0] n,sl⟩):∃ (T:Addr) (od:Option Addr) (n:Nat) (sl:Array (Option Value)) (tk0:Tok),v=.ref T/\K.lookup T=some ⟨.type "tuple",od,.seq #[.int 1 tk0] n,sl⟩:=⟨T,od,n,sl,tk0,e,l⟩
theorem tpm {u:Value}{a:Addr}{od:Option Addr}{its:Array Value}{n:Nat}{vs:List V} (y:u=.ref a) (l:K.lookup a=some ⟨.type "tuple",od,.seq its n,sl⟩) (s:its.size<=sizeLine) (v:Vals vs its.toList):∃ (a:Addr) (o:Obj) (its:Array Value) (n:Nat),u=.ref a/\K.lookup a=some o/\o.cls=.type "tuple" /\ o.data=.seq its n/\its.size<=sizeLine/\Vals vs its.toList:=⟨a,_,its,n,y,l,U,U,s,v⟩
end P
namespace PySem.W.Fast
def tw10007139103023192355:=Nat
def tw5839738356269605887:=Nat
def tw13492683136802862040:=Nat
def tw754003016858785927:=Nat
def tw2115057520871927042:=Nat
def tw5621682542269695405:=Nat
def tw13259649864538514778:=Nat
def tw8580391184160094163:=Nat
def tw8027994167698709471:=Nat
def tw6287209779183740147:=Nat
def tw11464630739293580461:=Nat
def tw15696783952663020577:=Nat
def tw5819388269344139111:=Nat
def tw14386949975336288652:=Nat
def tw7162162082133855466:=Nat
def tw78366512107579614:=Nat
def tw11617845679540698844:=Nat
def tw3471726457222705902:=Nat
def tw10560024227575218063:=Nat
def tw17881589485754455871:=Nat
def tw4969599787636347066:=Nat
def tw13343463611948233827:=Nat
def tw9705504152854177743:=Nat
def tw11042141137300623179:=Nat
def tw12179591745088050800:=Nat
def tw17380195663291030961:=Nat
def tw11020849453703957307:=Nat
def tw9556350774933844494:=Nat
def tw14148888850655114016:=Nat
def tw18036821619618491038:=Nat
def tw6601533523748478367:=Nat
def tw13246795420442301226:=Nat
def tw6118432940840542634:=Nat
def tw14471649764317936757:=Nat
def tw2407002461471007631:=Nat
def tw7666594516222858770:=Nat
def tw6955676687157945103:=Nat
def tw7691535665167289615:=Nat
def tw16260794769588992310:=Nat
def tw12926068487166385435:=Nat
def tw4017204546911866871:=Nat
def tw12061794457280369048:=Nat
def tw1861876136577820877:=Nat
def tw3315406127618085543:=Nat
def tw10319270674607820510:=Nat
def tw14393196009028783991:=Nat
def tw7149837077729237269:=Nat
def tw11473809206177018358:=Nat
def tw2161092141154781859:=Nat
def tw13613471224725943117:=Nat
def tw13036567657942827947:=Nat
def tw947472086360051052:=Nat
def tw14403882167084452891:=Nat
def tw14530313484649511006:=Nat
def tw2926792480775028960:=Nat
def tw10067571243877407753:=Nat
def tw17912868832193905961:=Nat
def tw7702094200991238953:=Nat
def tw16968954390010916116:=Nat
def tw9553683094018268803:=Nat
def tw4664967472521302420:=Nat
def tw8873363082391461227:=Nat
def tw8030656971723257056:=Nat
def tw9383312346059966955:=Nat
def tw5170056144765598632:=Nat
def tw6297191523969185200:=Nat
def tw9397258570420102919:=Nat
def tw14525987065441934880:=Nat
def tw14398906541049975129:=Nat
def tw15869221341593734885:=Nat
def tw16524319495675621300:=Nat
def tw9176898788742426969:=Nat
def tw1173458530954483236:=Nat
def tw95170233911938410:=Nat
def tw17136355102776662215:=Nat
def tw2269822540494844905:=Nat
def tw17479674485052975593:=Nat
def tw2058851859031201896:=Nat
def tw16206808202801153445:=Nat
def tw16044918640458030604:=Nat
def tw5052656905694078533:=Nat
def tw4537895636335685438:=Nat
def tw1303586479258338853:=Nat
def tw13121513406277506707:=Nat
def tw4701860574916446225:=Nat
def tw14796128283188439746:=Nat
def tw12515751658654267682:=Nat
def tw146467563767675766:=Nat
def tw10803042062145882008:=Nat
def tw1209613314813097236:=Nat
def tw16171617870372418543:=Nat
def tw5916841030068983154:=Nat
def tw10482308687101897793:=Nat
def tw4388641731892273897:=Nat
def tw1597047960400705486:=Nat
def tw17035073800567156630:=Nat
def tw6134174455467184692:=Nat
def tw3604230292615384369:=Nat
def tw7499252309496471010:=Nat
def tw8850353253375033949:=Nat
def tw3551091919264423227:=Nat
def tw6053330604759237246:=Nat
def tw11770975044957718658:=Nat
def tw9607762711424413077:=Nat
def tw9493861654334533447:=Nat
def tw11442606843138596928:=Nat
def tw14019941518386001565:=Nat
def tw5251932442898582883:=Nat
def tw207323530107466476:=Nat
def tw6050151777782778760:=Nat
def tw6353163038738947421:=Nat
def tw819761591904736328:=Nat
def tw3452707965659396076:=Nat
def tw11254808797115006501:=Nat
def tw17852762288255306272:=Nat
def tw5251628216771782259:=Nat
def tw7766893429790794235:=Nat
def tw376728436937408737:=Nat
def tw8498515913793350618:=Nat
def tw4582642721149361176:=Nat
def tw16438728391306134303:=Nat
def tw6232835951316379199:=Nat
def tw13961487861839863699:=Nat
def tw11005475947888466209:=Nat
def tw14058077579313767569:=Nat
def tw5566966825665261645:=Nat
def tw11095287014234023113:=Nat
def tw12502907604481069804:=Nat
def tw3816212296222617145:=Nat
def tw5971335358196517472:=Nat
def tw12354220861119552805:=Nat
def tw3270382461795877019:=Nat
def tw16741398827193007961:=Nat
def tw10967462343750847355:=Nat
def tw11575433457733768815:=Nat
def tw4874099886105179824:=Nat
def tw16085239890961740179:=Nat
def tw17244995699816699587:=Nat
def tw16144008308962519691:=Nat
def tw3071555507334765677:=Nat
def tw14820141891947648799:=Nat
def tw5017377556670411692:=Nat
def tw11824419576955099512:=Nat
def tw13818937056226879907:=Nat
def tw2612472019006029966:=Nat
def tw1964209033466782570:=Nat
def tw9022216168964039669:=Nat
def tw10658098643906509170:=Nat
def tw1609855328434006780:=Nat
def tw6572387010397332137:=Nat
def tw15721283782642744632:=Nat
def tw15953554408982825053:=Nat
def tw12653552163699333189:=Nat
def tw11127586409809648144:=Nat
def tw16621861443280847866:=Nat
def tw11438983811136053254:=Nat
def tw11158820822697900696:=Nat
def tw5282433438058849402:=Nat
def tw17271925136823377948:=Nat
def tw4100406790408248994:=Nat
def tw10043000906408977639:=Nat
def tw9651757543604280493:=Nat
def tw6219370764293789096:=Nat
def tw5491287972847994659:=Nat
def tw24476680591059585:=Nat
def tw5697127542249593696:=Nat
def tw14309395576099121301:=Nat
def tw5787515267578827489:=Nat
def tw12144825270666035147:=Nat
def tw16135522310883540306:=Nat
def tw18407770373215778314:=Nat
def tw17555367303349403350:=Nat
def tw16304064189852171464:=Nat
def tw6270447352145792606:=Nat
def tw8035325153197870821:=Nat
def tw1167212974896363135:=Nat
def tw8872634033266011635:=Nat
def tw13336582046727605772:=Nat
def tw15324495224373762307:=Nat
def tw16062439703180461695:=Nat
def tw12402997541335083686:=Nat
def tw11134972777336980855:=Nat
def tw11048245934130014527:=Nat
def tw17007630545116876370:=Nat
def tw7827477206598808103:=Nat
def tw3175529138463216220:=Nat
def tw16533315893111241909:=Nat
def tw10899761569283699494:=Nat
def tw1753975238194293113:=Nat
def tw17884842241558218160:=Nat
def tw10900391189667096663:=Nat
def tw9088397700847745604:=Nat
def tw13249477253679827980:=Nat
def tw18394331426456031711:=Nat
def tw8338643252387608138:=Nat
def tw4208561023954696914:=Nat
def tw16376549861478935181:=Nat
def tw12671287658753745674:=Nat
def tw3341509688091603329:=Nat
def tw13797753084538684569:=Nat
def tw7806177772855538175:=Nat
def tw840032587899606395:=Nat
def tw10540425228733841140:=Nat
def tw10553577746758321805:=Nat
def tw3289706264347360625:=Nat
def tw16405448568018575905:=Nat
def tw12895304855237158007:=Nat
def tw2962933486870816225:=Nat
def tw13722619037700815973:=Nat
def tw16656210318678483507:=Nat
def tw5529692553674442607:=Nat
def tw4169109958204110649:=Nat
def tw11785144983440105564:=Nat
def tw1093452138811016468:=Nat
def tw7898385957187380330:=Nat
def tw15761909498683204068:=Nat
def tw10001365829896806992:=Nat
def tw14410144211833438264:=Nat
def tw8289859598909098830:=Nat
def tw4898921650021497379:=Nat
def tw3453436637410210158:=Nat
def tw10086083744189002177:=Nat
def tw10203951756668042527:=Nat
def tw10418219759005997991:=Nat
def tw10451810500383417381:=Nat
def tw10544655816247303568:=Nat
def tw10644330669616864682:=Nat
def tw10904448563236515768:=Nat
def tw10986823439435115166:=Nat
def tw10989193720056075698:=Nat
def tw11011421652586519199:=Nat
def tw11011593025819712141:=Nat
def tw11021257248745457934:=Nat
def tw11357490143832034545:=Nat
def tw11373843781007105058:=Nat
def tw11637309187849214815:=Nat
def tw11689071788217606013:=Nat
def tw11719201970891819545:=Nat
def tw11746221161959447586:=Nat
def tw11783899947779550141:=Nat
def tw11977052292055041341:=Nat
def tw12045325034799682078:=Nat
def tw12173846032556967417:=Nat
def tw12277002691831853066:=Nat
def tw12555395160050499322:=Nat
def tw12686376282301222865:=Nat
def tw12757033475287797313:=Nat
def tw12772946073844543530:=Nat
def tw13064391153810318678:=Nat
def tw13114325475682971638:=Nat
def tw13217489403696686275:=Nat
def tw13414817375669791643:=Nat
def tw13419056973416842870:=Nat
def tw13492679376175627262:=Nat
def tw13750912614773529913:=Nat
def tw14035541715979440397:=Nat
def tw14312962856593081273:=Nat
def tw14357125043244055441:=Nat
def tw14394793461679526000:=Nat
def tw14837322700100605085:=Nat
def tw15116248535205457277:=Nat
def tw15213286164642480906:=Nat
def tw15288956539417214590:=Nat
def tw15561455865658356350:=Nat
def tw15580586764853957292:=Nat
def tw15656518933896681686:=Nat
def tw158645266215592117:=Nat
def tw16195511576377870380:=Nat
def tw16216451719752675555:=Nat
def tw1626733369786174450:=Nat
def tw16283119263129717350:=Nat
def tw16447681720796309067:=Nat
def tw16510045919492646251:=Nat
def tw16534735829262810876:=Nat
def tw1654061918503077683:=Nat
def tw16607404020301167326:=Nat
def tw16711246975892503242:=Nat
def tw16740079754492849852:=Nat
def tw16769538852335072783:=Nat
def tw16824447265321561318:=Nat
def tw17065189145667147182:=Nat
def tw17108853438037650349:=Nat
def tw17229829765660778053:=Nat
def tw17297189404335780829:=Nat
def tw1743967149907638668:=Nat
def tw17469663188213475469:=Nat
def tw17780831429636812259:=Nat
def tw17895773050061178471:=Nat
def tw18007223694964914361:=Nat
def tw18014791416484090420:=Nat
def tw18170475281616896417:=Nat
def tw18234290169740224981:=Nat
def tw18344637943254665286:=Nat
def tw1865125453388307695:=Nat
def tw2163753909870656666:=Nat
def tw2505610003668157468:=Nat
def tw2537508032350820790:=Nat
def tw2659161391460813521:=Nat
def tw2860109884916384698:=Nat
def tw288530521445017660:=Nat
def tw2944342494613750617:=Nat
def tw2980326307595197227:=Nat
def tw314166345917701288:=Nat
def tw3235787329869256365:=Nat
def tw3306049125556097844:=Nat
def tw3378880872054410636:=Nat
def tw3419232501646493363:=Nat
def tw3454773617927229647:=Nat
def tw3485139694734380115:=Nat
def tw3854527303494869810:=Nat
def tw417159485255268428:=Nat
def tw4499686779678592418:=Nat
def tw4709556512557660917:=Nat
def tw4904655862627158890:=Nat
def tw5279153728195868763:=Nat
def tw5545776746901578174:=Nat
def tw5559943892733280602:=Nat
def tw5920353852858631710:=Nat
def tw5953342368648428688:=Nat
def tw5959978244956369618:=Nat
def tw6243733775450449312:=Nat
def tw6302182494264146002:=Nat
def tw638840772855180277:=Nat
def tw6828827237502276338:=Nat
def tw6829239842680869786:=Nat
def tw6889747979457502777:=Nat
def tw7009236629594584910:=Nat
def tw7071566861583441180:=Nat
def tw710318601294130022:=Nat
def tw7347702492548598812:=Nat
def tw739159148198953194:=Nat
def tw7604856104597346364:=Nat
def tw7812260753317917555:=Nat
def tw7850014620431662230:=Nat
def tw7965749494175967060:=Nat
def tw8190903203591561506:=Nat
def tw8309504324022904674:=Nat
def tw8496997960076418956:=Nat
def tw8647651768659126600:=Nat
def tw8657477034169381561:=Nat
def tw8804727008487532884:=Nat
def tw8972530127352387280:=Nat
def tw9109423672917026001:=Nat
def tw9154339289640079651:=Nat
def tw9362666324118839932:=Nat
def tw9367841837666280669:=Nat
def tw9395273734998927587:=Nat
def tw9561530480902730398:=Nat
def tw9933930992918096443:=Nat
def tw9967534332699482282:=Nat
def tw7177344464112409353:=Nat
def tw1687651840717078735:=Nat
def tw13563516166514902607:=Nat
def tw13775977896397296983:=Nat
def tw11583149713284473420:=Nat
def tw242900813270018858:=Nat
def tw10030950880614874072:=Nat
def tw11371398779894448951:=Nat
def tw15022861832911969530:=Nat
def tw6351678666898597898:=Nat
def tw16515374386897886650:=Nat
def tw10356710493219070851:=Nat
def tw18392796846200654687:=Nat
def tw7289507597560526232:=Nat
def tw7095247511804771801:=Nat
def tw5551262722050855794:=Nat
def tw6835402243516076443:=Nat
def tw16979093852608917398:=Nat
def tw5767151120205172123:=Nat
def tw9628563418380170233:=Nat
def tw18050666323399174670:=Nat
def tw18144550987219480830:=Nat
def tw5631463773986839863:=Nat
def tw756123731107935439:=Nat
def tw3324090246167375458:=Nat
def tw12271999447273871849:=Nat
def tw17871118594592097597:=Nat
def tw6913802161518229555:=Nat
def tw17630855822057746673:=Nat
def tw17000596559692965580:=Nat
def tw670737599649469249:=Nat
def tw4918683144366120494:=Nat
def tw10867289208417899957:=Nat
def tw15421773878101032338:=Nat
def tw6337828609099805565:=Nat
def tw9855602845991077597:=Nat
def tw315996061979276442:=Nat
def tw14651592809081524747:=Nat
def tw3758746790839096862:=Nat
def tw12845613414362995319:=Nat
def tw9167792696669471756:=Nat
def tw11643073964866708650:=Nat
def tw9105178951474594494:=Nat
def tw715474452823295487:=Nat
def tw17567106247512190616:=Nat
def tw6459229926518892774:=Nat
def tw4627546180955099811:=Nat
def tw1637896648310793498:=Nat
def tw201894777770959930:=Nat
def tw16021007773428006803:=Nat
def tw3407033486576246918:=Nat
def tw11083714533732558519:=Nat
def tw405769808590935034:=Nat
def tw2480638884468321336:=Nat
def tw8611435756877773460:=Nat
def tw16155861489054180025:=Nat
def tw899249826595636889:=Nat
def tw5206974221630485767:=Nat
def tw7705477129730943392:=Nat
def tw9773591746081575915:=Nat
def tw8589200117750803033:=Nat
def tw2995737236179090837:=Nat
def tw3738996824749293427:=Nat
def tw1707332965732829514:=Nat
def tw10123856701529388632:=Nat
def tw10876718883325120219:=Nat
def tw17912489991321262183:=Nat
def tw9516528995763099860:=Nat
def tw2361998156941396286:=Nat
def tw1360687801288839909:=Nat
def tw17658451763208624651:=Nat
def tw11424576250443783008:=Nat
def tw13913341485686237917:=Nat
def tw7591795581538128530:=Nat
def tw15715454040565697908:=Nat
def tw11911898072208667892:=Nat
def tw5602480006406847908:=Nat
def tw13196903547775630859:=Nat
def tw9518274785742079890:=Nat
def tw2187391803996555864:=Nat
def tw15719621038969033280:=Nat
def tw18379804635982626173:=Nat
def tw10601115991907723924:=Nat
def tw4565658658744095820:=Nat
def tw3864320314247311203:=Nat
def tw12609425748864860356:=Nat
def tw12447741833791207427:=Nat
def tw10907234731811864160:=Nat
def tw1078737346985092512:=Nat
def tw12995832882968117224:=Nat
def tw15488965053931601250:=Nat
def tw16961221251438599648:=Nat
def tw10612683089699321789:=Nat
def tw2071798425183353789:=Nat
def tw18278914895265450661:=Nat
def tw14487145494101482:=Nat
def tw9486819975912818493:=Nat
def tw409870382191619776:=Nat
def tw2976250081915978774:=Nat
def tw10352878743857567641:=Nat
def tw3757762670990571525:=Nat
def tw3420483964823369834:=Nat
def tw10115006221610489475:=Nat
def tw13274029492304847288:=Nat
def tw16468695413634825814:=Nat
def tw5728350432401783738:=Nat
def tw4473822248869374335:=Nat
def tw6767974498374678739:=Nat
def tw9071153705889084940:=Nat
def tw839276389041234912:=Nat
def tw14371168820618820322:=Nat
def tw9789665083164234724:=Nat
def tw384567436501790208:=Nat
def tw7374430754739805794:=Nat
def tw14608440220624097025:=Nat
def tw1236999840109607535:=Nat
def tw10655993816347373763:=Nat
def tw10513659461630193986:=Nat
def tw14006926271980770921:=Nat
def tw1717984412165421628:=Nat
def tw12121761474393291253:=Nat
def tw9694647016631725988:=Nat
def tw6132358788280116730:=Nat
def tw17314103535278664273:=Nat
def tw13263350926964101703:=Nat
def tw2792450662619154588:=Nat
def tw15351710997349869925:=Nat
def tw6728421845099493903:=Nat
def tw658403871388139177:=Nat
def tw7631671072323976555:=Nat
end PySem.W.Fast
end
open PySem PySem.W PyProof.Rows
set_option maxRecDepth 100000 in
set_option maxHeartbeats 0 in
theorem PySem.Challenge.cw_lazyrails_k50_whole_yards_read_back_holds : PySem.Challenge.rw_lazyrails_k50_whole_yards_read_back.Holds := by
 w_on; o_law; k_head; (case hw => w_witness2)
 k_fill
 refine L2.walk_ofK (l:=PySem.Challenge.rw_lazyrails_k50_whole_yards_read_back) (n:=63) (k:=12) (x := "_law_script") (CX:=L2.CX0) (sp:=P.sp_law) rfl (by decide) rfl ⟨rfl,by decide,by decide,rfl⟩ (fun w h Y => PySem.W.kIn_of Y) ?F ?S ?C
 case F =>
  intro w mg fa h KX G hmg
  have T:∃ t,P.Txt (L2.KOf KX) mg t:=by
   dsimp only [L2.KOf]
   refine' ⟨P.ad,P.Txt.mk ?z0 ?z1 ?z2 ?z3 ?z4 ?z5 ?z6 ?z7 ?z8 ?z9 ?za ?zb ?zc ?zd ?ze ?zf ?zg ?zh ?zi ?zj ?zk ?zl ?zm ?zn ?zo ?zp ?zq ?zr ?zs ?zt ?zu ?zv ?zw ?zx ?zy ?zz ?z10 ?z11 ?z12 ?z13 ?z14 ?z15 ?z16 ?z17 ?z18 ?z19 ?z1a ?z1b ?z1c ?z1d ?z1e ?z1f ?z1g ?z1h ?z1i ?z1j ?z1k ?z1l ?z1m ?z1n ?z1o ?z1p ?z1q ?z1r ?z1s ?z1t ?z1u ?z1v ?z1w ?z1x ?z1y ?z1z ?z20 ?z21 ?z22 ?z23 ?z24 ?z25 ?z26 ?z27 ?z28 ?z29 ?z2a ?z2b ?z2c ?z2d ?z2e ?z2f ?z2g ?z2h ?z2i ?z2j ?z2k ?z2l ?z2m ?z2n ?z2o ?z2p ?z2q ?z2r ?z2s ?z2t ?z2u ?z2v ?z2w ?z2x ?z2y ?z2z ?z30 ?z31 ?z32 ?z33 ?z34 ?z35 ?z36 ?z37 ?z38 ?z39 ?z3a ?z3b ?z3c ?z3d ?z3e ?z3f ?z3g ?z3h ?z3i ?z3j ?z3k ?z3l ?z3m ?z3n ?z3o ?z3p ?z3q ?z3r ?z3s ?z3t ?z3u ?z3v ?z3w ?z3x ?z3y ?z3z ?z40 ?z41 ?z42 ?z43 ?z44 ?z45 ?z46 ?z47 ?z48 ?z49 ?z4a ?z4b ?z4c ?z4d ?z4e ?z4f ?z4g ?z4h ?z4i ?z4j ?z4k ?z4l ?z4m ?z4n ?z4o ?z4p ?z4q ?z4r ?z4s ?z4t ?z4u ?z4v ?z4w ?z4x ?z4y ?z4z ?z50 ?z51 ?z52 ?z53 ?z54 ?z55 ?z56 ?z57 ?z58⟩
   (case z45 => dsimp only [P.ad]; refine PySem.W.mg_of KX G ?_; k_is)
   (case z46 => dsimp only [P.ad]; apply L2.Mk.mk; k_is; k_is; k_is; k_is)
   (case z21|z23|z24|z25|z26|z27|z28|z29|z2a|z2b|z2c|z2d|z2e|z2f|z2g|z2h|z2i|z2j|z2k|z2l|z2m|z2n|z2o|z2p|z2q|z2r|z2s|z2t|z2u|z2v|z2w|z2x|z2y|z2z|z30|z31|z32|z33|z34|z35|z36|z37|z38|z39|z3a|z3b|z3c|z3d|z3e => dsimp only [P.ad]; refine PySem.W.mg_of KX G ?_; k_is)
   (case z3f|z3h|z3i|z3j|z3l|z3m|z3n|z3o|z3p|z3q|z3r|z3s|z3t|z3u|z3v|z3w|z3x|z3y|z3z|z40|z41|z42|z43 => dsimp only [P.ad]; apply L2.Meth.mk; k_is; k_is; k_is)
   (case z0|z1|z2|z3|z4|z5|z6|z7|z8|z9|za|zb|zc|zd|ze|zf|zg|zh|zi|zj|zk|zl|zm|zn|zo|zp|zq|zr|zs|zt|zu|zv|zw|zx|zy|zz|z10|z11|z12|z13|z14|z15|z16|z17|z18|z19|z1a|z1b|z1c|z1d|z1e|z1f|z1g|z1h|z1i|z1j|z1k|z1l|z1m|z1n|z1o|z1p|z1q|z1r|z1s|z1t|z1u|z1v|z1w|z1x|z1y|z1z|z20 => dsimp only [P.ad]; apply L2.funG_mk; k_is; k_is; k_is)
   (case z47|z48|z49|z4a|z4b|z4c|z4d|z4e|z4f => dsimp only [L2.NoAttr,P.ad]; k_is)
   (case z3g => dsimp only [P.ad]; apply P.dm_J61 rfl; k_is)
   (case z3k => dsimp only [P.ad]; apply P.dm_J8 rfl; k_is)
   (case z4v|z4x|z4z|z51|z53|z55|z57 => dsimp only [P.ad]; apply PySem.W.mg_of KX G; k_is)
   (case z44 => dsimp only [P.ad]; refine ⟨?_,?_,?_,?_⟩; k_is; k_is; k_is; k_is)
   (case z22 => exact rfl)
   (case z4g|z4h|z4i|z4j|z4k|z4l|z4m|z4n|z4o|z4p|z4q|z4r|z4s|z4t|z4u => refine PySem.W.mg_none_of KX G ?_; k_is)
   (case z54 => dsimp only [P.ad]; apply P.tpm rfl; k_is; exact (show 3 <= PySem.sizeLine by decide); exact .cons ⟨_,rfl⟩ (.cons ⟨_,rfl⟩ (.cons ⟨_,rfl⟩ (.nil))))
   (case z4w|z50|z56 => dsimp only [P.ad]; exact ⟨_,rfl,by kernel_rfl⟩)
   (case z4y|z52|z58 => dsimp only [P.ad]; exact ⟨_,rfl⟩)
  obtain ⟨t,T⟩:=T
  have e0:=hmg.symm.trans T.m_law
  cases e0
  exact ⟨_,fun s u => P.law_binds T s u,fun base kb nb => P.ok_law T⟩
 case S => exact fun K H a ns hl hO hS => P.law_start hl hS
 case C => exact fun H s e s' z => z
