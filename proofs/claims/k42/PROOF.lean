import PyProof.Rows.All
import Wide.All
import OpenK.AllK
import Wide.FinOn
import Lean
import PyProof.EqAt
import PyProof.EqKinds
import PyProof.TupleCall
import PyProof.ZipIter
import PyProof.EnumMake
import PyProof.ListRange
import KE.KDictList
import KE.LcSums
import KE.KTabLook
import PyProof.P3In
import KE.KIntText
import PyProof.StrLoop
import PyProof.StrWalks
import PyProof.StrCalls2
import PyProof.StrLawsTight
import PyProof.StrLawsChain
import KE.KDictLaws
import PyProof.DictCompW
import PyProof.DictWalks
import PyProof.DictItemsLoops
import KE.KRevIter
import PySem.Challenge.RW_lazyrails_k42_rows_without_calls
set_option compiler.extract_closed false
set_option Elab.async false
set_option linter.all false
set_option maxRecDepth 100000
open List (pairwise_append)
open List renaming mem_cons_of_mem→tK,mem_append_right→tL,mem_cons_self→tM,getElem?_eq_getElem→tN,mem_of_getElem?→tO,length_map→tP,mem_append_left→tQ,append_assoc→tR,getElem?_map→tS,mem_singleton→tT,map_append→tU,mem_append→tV,length_append→tW,mem_cons→tX,mem_map_of_mem→tY,length_replicate→tZ,size_toArray→t0,map_cons→t5,length_cons→t6,length_singleton→t7,getElem?_append_right→t8,getElem?_append_left→t9,not_mem_nil→ua,length_take→ub,mem_map→uc,lookup_cons→ud,append_nil→ue,find?_cons→uf,mem_range→ug,map_map→uh
noncomputable section
namespace L2
open PySem PySem.Spec PyProof.Rows
theorem U.{u} {α:Sort u}{a:α}:a=a:=rfl
theorem O.{u} {α:Sort u}{a:α}:a=a:=rfl
theorem J.{u} {α:Sort u}{a:α}:a=a:=rfl
theorem F.{u} {α:Sort u}{a:α}:a=a:=rfl
theorem Z.{u} {α:Sort u}{a:α}:a=a:=rfl
noncomputable abbrev Key:=Sum Int Str
noncomputable def gJ:Key->Value->Bool
 | .inl k,v=>Value.isInt k v
 | .inr x,v=>Value.isStrOf x v
noncomputable def keyH (w:World):Key->Int
 | .inl k=>hashInt k
 | .inr x=>hashStr w x
theorem bt:∀ {k:Key}{v:Value},gJ k v=true->(∃ i t,k=Sum.inl i/\v=Value.int i t)∨(∃ x t,k=Sum.inr x/\v=Value.str x t)
 | .inl i,v,h=>by
  obtain⟨t,e⟩:=Value.isInt_shape (k:=i) (v:=v) h
  exact .inl ⟨i,t,U,e⟩
 | .inr x,v,h=>by
  obtain⟨t,e⟩:=Value.isStrOf_shape (x:=x) (v:=v) h
  exact .inr ⟨x,t,U,e⟩
theorem kr (i:Int) (t:Tok):gJ (.inl i) (.int i t)=true:=by simp[gJ,Value.isInt]
theorem km (x:Str) (t:Tok):gJ (.inr x) (.str x t)=true:=by simp[gJ,Value.isStrOf]
theorem rE (a b:Int):decide ((Sum.inl a:Key)=Sum.inl b)=(a == b):=by
 by_cases e:a=b
 ·subst e; simp
 ·have h:¬ (Sum.inl a:Key)=Sum.inl b:=fun q=>e (Sum.inl.inj q)
  rw[decide_eq_false h]
  exact(beq_eq_false_iff_ne.mpr e).symm
theorem rA (a b:Str):decide ((Sum.inr a:Key)=Sum.inr b)=decide (a=b):=by
 by_cases e:a=b
 ·subst e; simp
 ·have h:¬ (Sum.inr a:Key)=Sum.inr b:=fun q=>e (Sum.inr.inj q)
  rw[decide_eq_false h,decide_eq_false e]
theorem rD (a:Int) (b:Str):decide ((Sum.inl a:Key)=Sum.inr b)=false:=decide_eq_false (fun q=>nomatch q)
theorem rB (a:Str) (b:Int):decide ((Sum.inr a:Key)=Sum.inl b)=false:=decide_eq_false (fun q=>nomatch q)
noncomputable def bp (prog:Program) (w:World):PySem.KeyKind prog w Key where
 is:=gJ
 hash:=keyH w
 inj:=fun v a b ha hb=>by
  rcases bt ha with ⟨i,t,rfl,rfl⟩ | ⟨x,t,rfl,rfl⟩
  ·rcases bt hb with ⟨j,u,rfl,e⟩ | ⟨y,u,rfl,e⟩
   ·injection e with e1 _; rw[e1]
   ·exact nomatch e
  ·rcases bt hb with ⟨j,u,rfl,e⟩ | ⟨y,u,rfl,e⟩
   ·exact nomatch e
   ·injection e with e1 _; rw[e1]
 byValue:=fun k v h=>by
  rcases bt h with ⟨i,t,rfl,rfl⟩ | ⟨x,t,rfl,rfl⟩ <;> rfl
 pyHash:=fun hv h=>by
  rcases bt hv with ⟨i,t,rfl,rfl⟩ | ⟨x,t,rfl,rfl⟩
  ·exact wpAny_pyHash_int h
  ·exact wpAny_pyHash_str h
 eqBool:=fun hu hv h=>by
  rcases bt hu with ⟨i,t,rfl,rfl⟩ | ⟨x,t,rfl,rfl⟩
  ·rcases bt hv with ⟨j,u,rfl,rfl⟩ | ⟨y,u,rfl,rfl⟩
   ·rw[rE] at h; exact wpAny_eqBool_int h
   ·rw[rD] at h; exact SeqAt.EqAt.int_str i t y u _ _ _ _ h
  ·rcases bt hv with ⟨j,u,rfl,rfl⟩ | ⟨y,u,rfl,rfl⟩
   ·rw[rB] at h; exact SeqAt.EqAt.str_int x t j u _ _ _ _ h
   ·rw[rA] at h; exact wpAny_eqBool_str h
 «strs»:=fun k x t v h=>by
  rcases bt h with ⟨i,u,rfl,e⟩ | ⟨y,u,rfl,e⟩
  ·exact nomatch e
  ·injection e with e1 _
   subst e1
   cases v <;> rfl
theorem iN (prog:Program) (w:World) (i:Int) (t:Tok):(bp prog w).is (.inl i) (.int i t)=true:=kr i t
theorem iM (prog:Program) (w:World) (x:Str) (t:Tok):(bp prog w).is (.inr x) (.str x t)=true:=km x t
inductive V where
 | non | bl (b:Bool) | int (i:Int) | str (x:Str) | byt (b:Array UInt8) | flt (b:UInt64) | ref (a:Addr) | ty (n:String)
 deriving DecidableEq
noncomputable def RelV:V->Value->Prop
 | .non,u=>u=Value.none
 | .bl b,u=>u=Value.bool b
 | .int i,u=>∃ t,u=Value.int i t
 | .str x,u=>∃ t,u=Value.str x t
 | .byt b,u=>∃ t,u=Value.bytes b t
 | .flt b,u=>∃ t,u=Value.float b t
 | .ref a,u=>u=Value.ref a
 | .ty n,u=>u=Value.type n
noncomputable abbrev Vals:List V->List Value->Prop:=Paired RelV
variable{us:List Value}
theorem Vals.length {xs:List V} (r:Vals xs us):xs.length=us.length:=Paired.length r
theorem Vals.get:∀ {xs:List V}{us:List Value}{i:Nat}{x:V},Vals xs us->xs[i]?=some x->∃ u,us[i]?=some u/\RelV x u
 | _,_,_,_,.nil,e=>by simp at e
 | _,_,0,_,.cons r _,e=>by simp at e; subst e; exact⟨_,U,r⟩
 | _,_,i+1,x,.cons _ t,e=>by
  obtain⟨u,h1,h2⟩:=Vals.get (i:=i) (x:=x) t (by simpa using e)
  exact⟨u,by simpa using h1,h2⟩
theorem Vals.set {x:V}{u:Value} (r:RelV x u):∀ {xs:List V}{us:List Value} (i:Nat),Vals xs us->Vals (xs.set i x) (us.set i u)
 | _,_,_,.nil=>.nil
 | _,_,0,.cons _ t=>.cons r t
 | _,_,i+1,.cons q t=>.cons q (Vals.set r i t)
theorem Vals.append {xs ys:List V}{us ws:List Value} (a:Vals xs us) (s:Vals ys ws):Vals (xs++ys) (us++ws):=by
 induction a with
 | nil=>exact s
 | cons r t ih=>exact .cons r ih
theorem Vals.take:∀ {xs:List V}{us:List Value} (n:Nat),Vals xs us->Vals (xs.take n) (us.take n)
 | _,_,0,_=>.nil
 | _,_,_+1,.nil=>.nil
 | _,_,n+1,.cons r t=>.cons r (Vals.take n t)
theorem Vals.drop:∀ {xs:List V}{us:List Value} (n:Nat),Vals xs us->Vals (xs.drop n) (us.drop n)
 | _,_,0,r=>r
 | _,_,_+1,.nil=>.nil
 | _,_,n+1,.cons _ t=>Vals.drop n t
noncomputable def RelO:Option V->Option Value->Prop
 | some v,some u=>RelV v u
 | none,none=>True
 | _,_=>False
noncomputable def KV {κ:Type}:List (κ×V)->List (κ×Value)->Prop:=Paired fun(p:κ×V) (q:κ×Value)=>p.1=q.1/\RelV p.2 q.2
noncomputable def kV:Key->V
 | .inl i=>.int i
 | .inr x=>.str x
inductive HO where
  | lst (xs:List V)
  | tup (xs:List V)
  | dK (kvs:List (Key×V)) | dT (kvs:List (List Key×V))
  | set (S:Int->Bool) (n:Nat)
  | ins (C dx:Addr) (fs:List (Str×V))
  | own (x:Addr)
  | xd (fs:List (Str×V))
  | met (f x:Addr)
  | rng (lo hi:Int)
  | frz (o:Obj) (u:HO)
  | tbl (ps:Array Value)
  | ext (φ:Heap->Prop)
noncomputable abbrev Hp:=Addr->Option HO
noncomputable def upd (H:Hp) (a:Addr) (o:HO):Hp:=fun b=>if b=a then some o else H b
variable{H:Hp}
theorem bF {a:Addr}{o:HO}:upd H a o a=some o:=by unfold upd; rw[if_pos rfl]
theorem aH {a b:Addr}{o:HO} (h:b≠a):upd H a o b=H b:=by unfold upd; rw[if_neg h]
theorem mG {a b:Addr}{o u:HO} (h:H a=some o) (h':H b=some u) (d:o≠u):a≠b:=by
 intro e; subst e; rw[h] at h'; exact d (Option.some.inj h')
theorem bo {a b:Addr}{o:HO} (h:H a=some o) (h':H b=none):a≠b:=by
 intro e; subst e; rw[h] at h'; cases h'
section
variable (P:Program) (w:World)
noncomputable def ObjOk (H:Hp) (h:Heap) (a:Addr):HO->Prop
 | .lst xs=>xs.length<=sizeLine/\∃ (its:List Value) (n:Nat),Vals xs its/\h.get? a=some { cls:=.type "list",data:=.seq its.toArray n }
 | .tup xs=>xs.length<=sizeLine/\∃ its:List Value,Vals xs its/\IsTup h a its.toArray
 | .dK kvs=>kvs.length<=sizeLine/\(a == sysModules)=false/\∃ vs,KV kvs vs/\h.DictOf (bp P w) a vs
 | .dT kvs=>kvs.length<=sizeLine/\(a == sysModules)=false/\∃ xs:List (List Key×Addr×Value),
   Paired (fun(p:List Key×V) (q:List Key×Addr×Value)=>p.1=q.1/\H q.2.1=some (.tup (p.1.map kV))/\RelV p.2 q.2.2) kvs xs /\
   ∃ o es ep,h.get? a=some o/\o.ExactDict/\o.data=.dict es ep/\es.toList=xs.map (entryOfKey (tupleKind (bp P w)))/\(xs.map (·.1)).Nodup
 | .set S n=>h.SetOf (intKind P w) a S n
 | .ins C dx fs=>H dx=some (.own a)/\fs.length<=1000/\dx≠a/\h.get? a=some (PySem.W.instObj C dx) /\
   ∃ mA,h.Ns1 dx mA/\(∀ f,RelO (fs.lookup f) (mA f))/\PySem.Within mA (fs.map (·.1))
 | .own _=>∃ o,h.get? a=some o
 | .xd fs=>∃ mA,h.Ns1 a mA/\∀ f,RelO (fs.lookup f) (mA f)
 | .rng lo hi=>∃ t u v,h.get? a=some { cls:=.type "range",data:=.fields #[.int lo t,.int hi u,.int 1 v] }
 | .frz o u=>h.get? a=some o/\ObjOk H h a u
 | .tbl ps=>h.get? a=some { cls:=.none,data:=.fields ps }
 | .met f x=>h.get? a=some (PySem.W.methodObj (.ref f) (.ref x))
 | .ext φ=>φ h/\(∃ o,h.get? a=some o)/\∀ h1 h2:Heap,φ h1->(∀ o,h1.get? a=some o->h2.get? a=some o)->φ h2
noncomputable def HOk (H:Hp) (h:Heap):Prop:=∀ a o,H a=some o->ObjOk P w H h a o
end
section
variable {P:Program}{w:World}{H H':Hp}{h h':Heap}{a:Addr}{o:HO}
theorem ObjOk.lt (x:ObjOk P w H h a o):a<h.objs.size:=by
 cases o with
 | lst xs=>obtain⟨_,_,_,_,e⟩:=x; exact Heap.lt_size e
 | tup xs=>obtain⟨_,_,_,p⟩:=x; exact p.lt
 | dK kvs=>obtain⟨_,_,_,_,o,_,_,e,_⟩:=x; exact Heap.lt_size e
 | dT kvs=>obtain⟨_,_,_,_,o,_,_,e,_⟩:=x; exact Heap.lt_size e
 | set S n=>obtain⟨o,_,_,_,e,_⟩:=x; exact Heap.lt_size e
 | ins C dx fs=>obtain⟨_,_,_,e,_⟩:=x; exact Heap.lt_size e
 | own y=>obtain⟨_,e⟩:=x; exact Heap.lt_size e
 | xd fs=>obtain⟨_,⟨_,_,_,e,_⟩,_⟩:=x; exact Heap.lt_size e
 | rng lo hi=>obtain⟨_,_,_,e⟩:=x; exact Heap.lt_size e
 | frz ob u=>obtain⟨e,_⟩:=x; exact Heap.lt_size e
 | tbl ps=>exact Heap.lt_size (show h.get? a=some _ from x)
 | met f y=>exact Heap.lt_size (show h.get? a=some _ from x)
 | ext φ=>obtain⟨_,⟨_,e⟩,_⟩:=x; exact Heap.lt_size e
theorem Paired.mapP {α β:Type}{F G:α->β->Prop} {l₁:List α}{l₂:List β} (a:Paired F l₁ l₂) (f:∀ a b,F a b->G a b):Paired G l₁ l₂:=by
 induction a with
 | nil=>exact .nil
 | cons r t ih=>exact .cons (f _ _ r) ih
theorem ObjOk.stay (x:ObjOk P w H h a o) (k:∀ b u,(b=a∨H b=some (.own a))->h.get? b=some u->h'.get? b=some u)
  (ho:∀ b,H b=some (.own a)->H' b=some (.own a)) (ht:∀ b xs,H b=some (.tup xs)->H' b=some (.tup xs)):ObjOk P w H' h' a o:=by
 induction o with
 | lst xs=>obtain⟨z,its,n,r,e⟩:=x; exact⟨z,its,n,r,k _ _ (.inl rfl) e⟩
 | tup xs=>obtain⟨z,its,r,ob,e,c⟩:=x; exact⟨z,its,r,ob,k _ _ (.inl rfl) e,c⟩
 | dK kvs=>obtain⟨z,y,vs,r,ob,es,ep,e,c⟩:=x; exact⟨z,y,vs,r,ob,es,ep,k _ _ (.inl rfl) e,c⟩
 | dT kvs=>
  obtain⟨z,y,xs,r,ob,es,ep,e,c⟩:=x
  exact⟨z,y,xs,Paired.mapP r fun p q z=>⟨z.1,ht _ _ z.2.1,z.2.2⟩,ob,es,ep,k _ _ (.inl rfl) e,c⟩
 | set S n=>obtain⟨ob,es,ep,t,e,c⟩:=x; exact⟨ob,es,ep,t,k _ _ (.inl rfl) e,c⟩
 | ins C dx fs=>
  obtain⟨d,z,ne,e,mA,⟨od,es,ep,e2,c⟩,r⟩:=x
  exact⟨ho _ d,z,ne,k _ _ (.inl rfl) e,mA,⟨od,es,ep,k _ _ (.inr d) e2,c⟩,r⟩
 | own y=>obtain⟨ob,e⟩:=x; exact⟨ob,k _ _ (.inl rfl) e⟩
 | xd fs=>obtain⟨mA,⟨od,es,ep,e,c⟩,r⟩:=x; exact⟨mA,⟨od,es,ep,k _ _ (.inl rfl) e,c⟩,r⟩
 | rng lo hi=>obtain⟨t,u,v,e⟩:=x; exact⟨t,u,v,k _ _ (.inl rfl) e⟩
 | frz ob u ih=>obtain⟨e,q⟩:=x; exact⟨k _ _ (.inl rfl) e,ih q⟩
 | tbl ps=>
  have e:h.get? a=some { cls:=.none,data:=.fields ps }:=x
  show h'.get? a=some { cls:=.none,data:=.fields ps }
  exact k a _ (.inl rfl) e
 | met f y=>
  have e:h.get? a=some (PySem.W.methodObj (.ref f) (.ref y)):=x
  show h'.get? a=some (PySem.W.methodObj (.ref f) (.ref y))
  exact k a _ (.inl rfl) e
 | ext φ=>obtain⟨p,⟨o,e⟩,st⟩:=x; exact⟨st _ _ p fun o q=>k _ _ (.inl rfl) q,⟨o,k _ _ (.inl rfl) e⟩,st⟩
theorem HOk.lt (x:HOk P w H h) (e:H a=some o):a<h.objs.size:=(x a o e).lt
theorem HOk.fresh (x:HOk P w H h) (e:h.objs.size<=a):H a=none:=by
 cases q:H a with
 | none=>rfl
 | some u=>exact absurd (Nat.lt_of_lt_of_le (x.lt q) e) (Nat.lt_irrefl _)
theorem HOk.kept (x:HOk P w H h) (k:∀ b u,h.get? b=some u->h'.get? b=some u):HOk P w H h':=fun a o e=>
 (x a o e).stay (fun b u _ q=>k b u q) (fun _ q=>q) fun _ _ q=>q
theorem HOk.laid (x:HOk P w H h) (k:∀ b u,h.get? b=some u->h'.get? b=some u) (hp:h.objs.size<=a) (new:ObjOk P w (upd H a o) h' a o):HOk P w (upd H a o) h':=fun b u e=>by
 have hn:=x.fresh hp
 by_cases hb:b=a
 ·subst hb; rw[bF] at e; cases e; exact new
 ·rw[aH hb] at e
  exact(x b u e).stay (fun c v _ q=>k c v q) (fun c q=>by rw[aH (bo q hn)]; exact q) fun c xs q=>by rw[aH (bo q hn)]; exact q
end
noncomputable def Rd (H:Hp) (a:Addr) (u:HO):Prop:=H a=some u∨∃ o,H a=some (.frz o u)
variable{P:Program}{h:Heap}
theorem Rd.ok {w:World}{a:Addr}{u:HO} (r:Rd H a u) (x:HOk P w H h):ObjOk P w H h a u:=by
 rcases r with r | ⟨o,r⟩
 ·exact x a u r
 ·obtain⟨_,q⟩:=x a _ r
  exact q
noncomputable def Mut:Option HO->Prop
 | some (.lst _)=>True
 | some (.dK _)=>True
 | some (.dT _)=>True
 | some (.set _ _)=>True
 | some (.ins _ _ _)=>True
 | some (.ext _)=>True
 | _=>False
section
variable {P:Program}{w:World}{H:Hp}{h h':Heap}{x e:Addr}{o':HO}
theorem HOk.write (ok:HOk P w H h) (mu:Mut (H x)) (he:e=x∨H e=some (.own x)) (k:∀ b u,b≠e->h.get? b=some u->h'.get? b=some u) (heo:∃ u,h'.get? e=some u)
  (new:ObjOk P w (upd H x o') h' x o'):HOk P w (upd H x o') h':=fun b u q=>by
 have nown:∀ c y,H c=some (.own y)->c≠x:=fun c y r z=>by subst z; rw[r] at mu; exact mu
 have ntup:∀ c xs,H c=some (.tup xs)->c≠x:=fun c xs r z=>by subst z; rw[r] at mu; exact mu
 by_cases hb:b=x
 ·subst hb; rw[bF] at q; cases q; exact new
 ·rw[aH hb] at q
  by_cases hbe:b=e
  ·have q':H b=some (.own x):=by
    rcases he with z | z
    ·exact absurd (hbe.trans z) hb
    ·rw[hbe]; exact z
   rw[q] at q'; cases q'
   obtain⟨v,hv⟩:=heo
   exact⟨v,by rw[hbe]; exact hv⟩
  ·refine(ok b u q).stay (fun c v hc r=>k c v ?_ r) (fun c r=>by rw[aH (nown c b r)]; exact r) fun c xs r=>by rw[aH (ntup c xs r)]; exact r
   rcases hc with rfl | hc
   ·exact hbe
   ·rintro rfl
    rcases he with z | z
    ·exact nown c b hc z
    ·rw[hc] at z; cases z; exact hb rfl
end
structure Un (fs ex:List Addr) (H H':Hp) (h h':Heap):Prop where
 keep:∀ b o,h.get? b=some o->H b=none->b ∉ fs->b ∉ ex->h'.get? b=some o
 slot:∀ b o,h.get? b=some o->H b=none->b ∈ fs->b ∉ ex->∃ sl,h'.get? b=some { o with slots:=sl }
 free:∀ b o,h.get? b=some o->H b=none->b ∉ ex->H' b=none
 there:∀ b o,h.get? b=some o->b ∉ ex->∃ o',h'.get? b=some o'
 tups:∀ b xs,H b=some (.tup xs)->H' b=some (.tup xs)
 frzs:∀ b o u,H b=some (.frz o u)->H' b=some (.frz o u)
 tbls:∀ b ps,H b=some (.tbl ps)->∃ more,H' b=some (.tbl (ps++more))
section
variable {fs fs' ex ex':List Addr}{H H1 H2:Hp}{h h1 h2 h':Heap}{a x e:Addr}{o:HO}
theorem Un.any (u:Un fs ex H H1 h h1) {b:Addr}{ob:Obj} (q:h.get? b=some ob) (n:H b=none) (hx:b ∉ ex):∃ sl,h1.get? b=some { ob with slots:=sl }:=by
 by_cases hb:b ∈ fs
 ·exact u.slot b ob q n hb hx
 ·exact⟨ob.slots,u.keep b ob q n hb hx⟩
theorem Un.trans (a:Un fs ex H H1 h h1) (b:Un fs ex H1 H2 h1 h2):Un fs ex H H2 h h2 where
 keep:=fun c ob q n hc hx=>b.keep c ob (a.keep c ob q n hc hx) (a.free c ob q n hx) hc hx
 slot:=fun c ob q n hc hx=>by
  obtain⟨sl,e1⟩:=a.slot c ob q n hc hx
  obtain⟨sl',e2⟩:=b.slot c _ e1 (a.free c ob q n hx) hc hx
  exact⟨sl',e2⟩
 free:=fun c ob q n hx=>by
  obtain⟨o',e1⟩:=a.there c ob q hx
  exact b.free c o' e1 (a.free c ob q n hx) hx
 there:=fun c ob q hx=>by
  obtain⟨o',e1⟩:=a.there c ob q hx
  exact b.there c o' e1 hx
 tups:=fun c xs q=>b.tups c xs (a.tups c xs q)
 frzs:=fun c ob xs q=>b.frzs c ob xs (a.frzs c ob xs q)
 tbls:=fun c ps q=>by
  obtain⟨m1,e1⟩:=a.tbls c ps q
  obtain⟨m2,e2⟩:=b.tbls c _ e1
  exact⟨m1++m2,by rw[e2,Array.append_assoc]⟩
theorem Un.kept (k:∀ b u,h.get? b=some u->h'.get? b=some u):Un fs ex H H h h' :=
 ⟨fun b ob q _ _ _=>k b ob q,fun b ob q _ _ _=>⟨ob.slots,k b ob q⟩,fun _ _ _ n _=>n,fun b ob q _=>⟨ob,k b ob q⟩,fun _ _ q=>q,fun _ _ _ q=>q,fun _ ps q=>⟨#[],by rw[q]; simp⟩⟩
theorem Un.refl:Un fs ex H H h h:=Un.kept fun _ _ q=>q
theorem Un.laid (k:∀ b u,h.get? b=some u->h'.get? b=some u) (hp:h.objs.size<=a) (hn:H a=none):Un fs ex H (upd H a o) h h' where
 keep:=fun b u q _ _ _=>k b u q
 slot:=fun b u q _ _ _=>⟨u.slots,k b u q⟩
 free:=fun b u q n _=>by rw[aH (Nat.ne_of_lt (Nat.lt_of_lt_of_le (Heap.lt_size q) hp))]; exact n
 there:=fun b u q _=>⟨u,k b u q⟩
 tups:=fun b xs q=>by rw[aH (bo q hn)]; exact q
 frzs:=fun b u xs q=>by rw[aH (bo q hn)]; exact q
 tbls:=fun b ps q=>⟨#[],by rw[aH (bo q hn),q]; simp⟩
theorem Un.write (mu:Mut (H x)) (he:e=x∨H e=some (.own x)) (k:∀ b u,b≠e->h.get? b=some u->h'.get? b=some u) (heo:∃ u,h'.get? e=some u):Un fs ex H (upd H x o) h h':=by
 have hx:∀ b,H b=none->b≠x:=fun b n z=>by subst z; rw[n] at mu; exact mu
 have hb:∀ b,H b=none->b≠e:=fun b n z=>by
  subst z
  rcases he with r | r
  ·exact hx b n r
  ·rw[n] at r; cases r
 have hm:∀ b u,H b=some u->¬ Mut (some u)->b≠x:=fun b u q nm z=>by subst z; rw[q] at mu; exact nm mu
 refine⟨fun b u q n _ _=>k b u (hb b n) q,fun b u q n _ _=>⟨u.slots,k b u (hb b n) q⟩,fun b u q n _=>by rw[aH (hx b n)]; exact n,fun b u q _=>?_,
  fun b xs q=>by rw[aH (hm b _ q fun z=>z)]; exact q,fun b u xs q=>by rw[aH (hm b _ q fun z=>z)]; exact q,fun b ps q=>⟨#[],by rw[aH (hm b _ q fun z=>z),q]; simp⟩⟩
 by_cases hbe:b=e
 ·subst hbe; exact heo
 ·exact⟨u,k b u hbe q⟩
end
noncomputable def trk (h:Heap) (H:Hp):List Addr:=(List.range h.objs.size).filter fun a=>(H a).isSome
noncomputable def hZ (h:Heap) (H:Hp):Heap:=PySem.W.hideAll h (trk h H)
theorem kC (h:Heap) (H:Hp):(hZ h H).objs.size=h.objs.size:=PySem.W.hideAll_size _ _
theorem mO {b:Addr}{o:Obj} (e:h.get? b=some o) (n:H b=none):(hZ h H).get? b=some o :=
 PySem.W.hideAll_get _ e fun hm=>by
  have q:(H b).isSome=true:=(List.mem_filter.mp hm).2
  rw[n] at q; simp at q
theorem nU {b:Addr}{o:Obj} (e:(hZ h H).get? b=some o):h.get? b=some o/\H b=none:=by
 have e':h.get? b=some o:=PySem.W.of_hideAll (trk h H) e
 refine⟨e',?_⟩
 cases q:H b with
 | none=>rfl
 | some x=>
  have hm:b ∈ trk h H:=List.mem_filter.mpr ⟨ug.mpr (Heap.lt_size e'),by simp[q]⟩
  have z:(hZ h H).get? b=none:=PySem.W.hideAll_none (trk h H) hm
  rw[z] at e; cases e
noncomputable def oA (g h:Heap) (L:Addr):List (Addr×Obj):=(List.range h.objs.size).filterMap fun a=>if a=L∨(g.get? a).isSome=true then none else(h.get? a).map fun o=>(a,o)
noncomputable def rest (g h:Heap) (L d:Addr):List (Addr×Obj):=(oA g h L).filter fun p=>decide (p.1≠d)
structure Mod (K:PySem.W.Frag) (mg:Str->Option Value) (base:Heap):Prop where
 kin:K.In base
 glob:base.Ns mainGlobals mg
 blt:∃ mb,base.Ns builtinsNs mb/\∀ x:Str,x ≠ "__name__" -> mb x=bootBuiltins x
 nolimit:base.NoLimit
structure Cx where
 prog:Program
 w:World
 K:PySem.W.Frag
 mg:Str->Option Value
 base:Heap
 A:Around
 N:List Str
 s₀:Shared
 H₀:Hp
 env:Env
 outer:List Env
 stack:List Env
 ex:List Addr
 fn:Str->Bool
 calm:Bool
 pn:List (Addr×Obj)
 xe:Value->Shared->Prop
noncomputable def frs (l:List Env):List Addr:=l.filterMap (·.frame)
noncomputable abbrev Cx.fs (X:Cx):List Addr:=frs X.outer
noncomputable def Vis (sc:Scope) (x:Str):Prop:=sc.names.lookup x=some .local∨sc.names.lookup x=some .cell∨sc.names.lookup x=some .free
noncomputable def Loc (sc:Scope) (x:Str):Prop:=sc.names.lookup x=some .local∨sc.names.lookup x=some .cell
noncomputable def Look (env:Env) (h:Heap) (m:Str->Option Value) (x:Str) (u:Value):Prop :=
 (env.kindOf x=some .local/\m x=some u)∨((env.kindOf x=some .cell∨env.kindOf x=some .free)/\∃ c,env.cells.lookup x=some c/\h.IsCell c (some u))
structure Cx.Ok (X:Cx):Prop where
 mod:Mod X.K X.mg X.base
 kind:X.env.scope.kind=.function
 glob:X.env.globals=mainGlobals
 blt:X.env.builtins=builtinsNs
 above:X.s₀.heap.objs.size<=X.env.locals
 inj:∀ x y c,X.env.cells.lookup x=some c->X.env.cells.lookup y=some c->x=y
 has:∀ x,(X.env.kindOf x=some .cell∨X.env.kindOf x=some .free)->∃ c,X.env.cells.lookup x=some c
 cab:∀ x c,X.fn x=true->X.env.cells.lookup x=some c->X.s₀.heap.objs.size<=c
 hd:X.calm=true->X.A.handled=none
 frames:X.A.frames=some X.stack
 stk:X.stack=X.outer∨(X.stack=X.env::X.outer/\X.env.frame=some X.env.locals)
 exf:∀ b ∈ X.ex,b≠X.env.locals/\∀ x c,X.env.cells.lookup x=some c->c≠b
 bs:∀ b o,X.base.get? b=some o->X.s₀.heap.get? b=some o/\X.H₀ b=none
 bsz:X.base.objs.size<=X.s₀.heap.objs.size
 noex:∀ b o,X.base.get? b=some o->b ∉ X.ex
 exfs:∀ b ∈ X.ex,b ∉ X.fs
 funs:X.s₀.heap.FunFrames X.base X.outer
 frf:∀ b ∈ X.fs,X.H₀ b=none
structure Inv (X:Cx) (pins:List (Addr×Obj)) (σ:List (Option V)) (H:Hp) (s:Shared):Prop where
 ok:X.Ok
 os:s.os=X.s₀.os
 bare:AllBare s.gens
 base:Un X.fs X.ex X.H₀ H X.s₀.heap s.heap
 loc:∃ m,s.heap.Ns X.env.locals m/\∀ (i:Nat) (x:Str) (v:V),X.N[i]?=some x->σ[i]?=some (some v)->Vis X.env.scope x->∃ u,RelV v u/\Look X.env s.heap m x u
 cell:∀ x c,X.env.cells.lookup x=some c->∃ v,s.heap.IsCell c v
 free:H X.env.locals=none
 freeC:∀ x c,X.env.cells.lookup x=some c->H c=none
 pin:∀ p ∈ X.pn++pins,s.heap.get? p.1=some p.2/\H p.1=none/\p.1≠X.env.locals/\p.1 ∉ X.fs/\∀ v,p.2.data≠.cell v
 hok:HOk X.prog X.w H s.heap
 len:σ.length=X.N.length
variable{E:Value->Shared->Prop}{A:Around}{t':Nat}
section
variable {X:Cx}{pins:List (Addr×Obj)}{σ:List (Option V)}{H H':Hp}{s:Shared}{h':Heap}
theorem Cx.Ok.nofr (ok:X.Ok) {b:Addr}{o:Obj} (e:X.base.get? b=some o):b ∉ X.fs:=fun hb=>by
 have:=(ok.funs.mem hb).1
 rw[e] at this; cases this
theorem Inv.bs (I:Inv X pins σ H s):∀ b o,X.base.get? b=some o->s.heap.get? b=some o/\H b=none:=fun b o e=>
 ⟨I.base.keep b o (I.ok.bs b o e).1 (I.ok.bs b o e).2 (I.ok.nofr e) (I.ok.noex b o e),I.base.free b o (I.ok.bs b o e).1 (I.ok.bs b o e).2 (I.ok.noex b o e)⟩
theorem Inv.bk (I:Inv X pins σ H s):∀ b o,X.base.get? b=some o->s.heap.get? b=some o:=fun b o e=>(I.bs b o e).1
theorem Inv.mod (I:Inv X pins σ H s):Mod X.K X.mg X.base:=I.ok.mod
theorem Inv.kIn (I:Inv X pins σ H s):X.K.In s.heap:=I.ok.mod.kin.keeps I.bk
theorem Inv.fr (I:Inv X pins σ H s):∃ m,Fr X.base X.env.locals s.heap m :=
 let ⟨m,hn,_⟩:=I.loc
 ⟨m,hn,I.bk,Nat.le_trans I.ok.bsz I.ok.above⟩
theorem Inv.lt (I:Inv X pins σ H s):X.env.locals<s.heap.objs.size:=let ⟨_,hn,_⟩:=I.loc; hn.lt
theorem Inv.sz (I:Inv X pins σ H s):X.s₀.heap.objs.size<=s.heap.objs.size:=Nat.le_trans I.ok.above (Nat.le_of_lt I.lt)
theorem Inv.nofs (I:Inv X pins σ H s) {a:Addr} (h:s.heap.objs.size<=a):a ∉ X.fs:=fun hb=>by
 obtain⟨_,o,ho,_⟩:=I.ok.funs.mem hb
 exact absurd (Nat.lt_of_lt_of_le (Heap.lt_size ho) (Nat.le_trans I.sz h)) (Nat.lt_irrefl _)
theorem Inv.cne (I:Inv X pins σ H s):∀ x c,X.env.cells.lookup x=some c->c≠X.env.locals:=fun x c e z=>by
 obtain⟨v,o,ho,hd⟩:=I.cell x c e
 obtain⟨m,⟨o',es,ep,ho',hd',_⟩,_⟩:=I.loc
 rw[z,ho'] at ho; cases ho; rw[hd'] at hd; cases hd
theorem Inv.funs (I:Inv X pins σ H s):s.heap.FunFrames X.base X.outer:=by
 have all:∀ (l:List Env),(∀ b ∈ frs l,b ∈ X.fs)->X.s₀.heap.FunFrames X.base l->s.heap.FunFrames X.base l:=by
  intro l
  induction l with
  | nil=>intro _ _; trivial
  | cons env r ih=>
   intro hs hl
   obtain⟨hk,⟨L,o,hf,hn,ho,hd⟩,hr⟩:=hl
   have hL:L ∈ X.fs:=hs L (by unfold frs; rw[List.filterMap_cons,hf]; exact tM)
   obtain⟨sl,e⟩:=I.base.slot L o ho (I.ok.frf L hL) hL fun z=>I.ok.exfs L z hL
   exact⟨hk,⟨L,_,hf,hn,e,hd⟩,ih (fun b hb=>hs b (by unfold frs; rw[List.filterMap_cons,hf]; exact tK _ hb)) hr⟩
 exact all X.outer (fun _ hb=>hb) I.ok.funs
theorem Inv.stack (I:Inv X pins σ H s):s.heap.FunFrames X.base X.stack:=by
 rcases I.ok.stk with e | ⟨e,hf⟩
 ·rw[e]; exact I.funs
 ·rw[e]
  obtain⟨m,hn,_⟩:=I.loc
  refine .cons (by rw[I.ok.kind]; decide) hf hn ?_ I.funs
  exact Heap.get?_none_of_le (Nat.le_trans I.ok.bsz I.ok.above)
theorem Inv.stkSub (I:Inv X pins σ H s):∀ b ∈ frs X.stack,b ∈ X.env.locals::X.fs:=fun b hb=>by
 rcases I.ok.stk with e | ⟨e,hf⟩
 ·rw[e] at hb; exact tK _ hb
 ·rw[e] at hb
  unfold frs at hb
  rw[List.filterMap_cons,hf] at hb
  exact hb
theorem Inv.stkFree (I:Inv X pins σ H s):∀ b ∈ frs X.stack,H b=none:=fun b hb=>by
 rcases tX.mp (I.stkSub b hb) with e | hb
 ·rw[e]; exact I.free
 ·obtain⟨_,o,ho,_⟩:=I.ok.funs.mem hb
  exact I.base.free b o ho (I.ok.frf b hb) fun z=>I.ok.exfs b z hb
theorem Inv.step {g':Array GenState}{t':Nat}{d':Drawn}{ch:List Addr} (I:Inv X pins σ H s)
  (hch:∀ b ∈ ch,(b ∈ X.ex∨X.s₀.heap.objs.size<=b)/\b≠X.env.locals/\(∀ x c,X.env.cells.lookup x=some c->c≠b)/\∀ p ∈ X.pn++pins,p.1≠b)
  (keep:∀ b o,b≠X.env.locals->b ∉ X.fs->b ∉ ch->s.heap.get? b=some o->H b=none->h'.get? b=some o)
  (slot:∀ b o,b≠X.env.locals->b ∈ X.fs->b ∉ ch->s.heap.get? b=some o->H b=none->∃ sl,h'.get? b=some { o with slots:=sl }) (free:∀ b o,b ∉ ch->s.heap.get? b=some o->H b=none->H' b=none)
  (there:∀ b o,b ∉ ch->s.heap.get? b=some o->∃ o',h'.get? b=some o')
  (tups:∀ b xs,H b=some (.tup xs)->H' b=some (.tup xs)) (frzs:∀ b o u,H b=some (.frz o u)->H' b=some (.frz o u)) (tbls:∀ b ps,H b=some (.tbl ps)->∃ more,H' b=some (.tbl (ps++more)))
  (ns:∀ m,s.heap.Ns X.env.locals m->h'.Ns X.env.locals m) (hok:HOk X.prog X.w H' h') (hg:AllBare g') :
  Inv X pins σ H' { s with heap:=h',gens:=g',drawn:=d',toks:=t' }:=by
 have neL:∀ b o,X.s₀.heap.get? b=some o->b≠X.env.locals:=fun b o e=>Nat.ne_of_lt (Nat.lt_of_lt_of_le (Heap.lt_size e) I.ok.above)
 have neC:∀ b o,X.s₀.heap.get? b=some o->b ∉ X.ex->b ∉ ch:=fun b o e hx hb=>by
  rcases (hch b hb).1 with z | z
  ·exact hx z
  ·exact absurd (Nat.lt_of_lt_of_le (Heap.lt_size e) z) (Nat.lt_irrefl _)
 have cellK:∀ x c,X.env.cells.lookup x=some c->∀ v,s.heap.IsCell c v->h'.IsCell c v:=fun x c e v ⟨o,ho,hd⟩=>by
  have nch:c ∉ ch:=fun z=>(hch c z).2.2.1 x c e rfl
  by_cases hc:c ∈ X.fs
  ·obtain⟨sl,q⟩:=slot c o (I.cne x c e) hc nch ho (I.freeC x c e)
   exact⟨_,q,hd⟩
  ·exact⟨o,keep c o (I.cne x c e) hc nch ho (I.freeC x c e),hd⟩
 refine⟨I.ok,I.os,hg,⟨fun b o e n hb hx=>?_,fun b o e n hb hx=>?_,fun b o e n hx=>?_,fun b o e hx=>?_,fun b xs e=>tups b xs (I.base.tups b xs e),fun b o xs e=>frzs b o xs (I.base.frzs b o xs e),fun b ps e=>?_⟩,?_,fun x c e=>?_,?_,fun x c e=>?_,fun p hp=>?_,hok,I.len⟩
 ·exact keep b o (neL b o e) hb (neC b o e hx) (I.base.keep b o e n hb hx) (I.base.free b o e n hx)
 ·obtain⟨sl,e1⟩:=I.base.slot b o e n hb hx
  obtain⟨sl',e2⟩:=slot b _ (neL b o e) hb (neC b o e hx) e1 (I.base.free b o e n hx)
  exact⟨sl',e2⟩
 ·obtain⟨o',e1⟩:=I.base.there b o e hx
  exact free b o' (neC b o e hx) e1 (I.base.free b o e n hx)
 ·obtain⟨o',e1⟩:=I.base.there b o e hx
  exact there b o' (neC b o e hx) e1
 ·obtain⟨m1,e1⟩:=I.base.tbls b ps e
  obtain⟨m2,e2⟩:=tbls b _ e1
  exact⟨m1++m2,by rw[e2,Array.append_assoc]⟩
 ·obtain⟨m,hn,hl⟩:=I.loc
  refine⟨m,ns m hn,fun i x v e1 e2 e3=>?_⟩
  obtain⟨u,r,l⟩:=hl i x v e1 e2 e3
  refine⟨u,r,?_⟩
  rcases l with l | ⟨k,c,e,z⟩
  ·exact .inl l
  ·exact .inr ⟨k,c,e,cellK x c e _ z⟩
 ·obtain⟨v,z⟩:=I.cell x c e
  exact⟨v,cellK x c e v z⟩
 ·obtain⟨m,⟨o,_,_,ho,_⟩,_⟩:=I.loc
  exact free _ o (fun z=>(hch _ z).2.1 rfl) ho I.free
 ·obtain⟨v,o,ho,hd⟩:=I.cell x c e
  exact free c o (fun z=>(hch c z).2.2.1 x c e rfl) ho (I.freeC x c e)
 ·obtain⟨e,n,ne,nf,d⟩:=I.pin p hp
  have nch:p.1 ∉ ch:=fun z=>(hch p.1 z).2.2.2 p hp rfl
  exact⟨keep p.1 p.2 ne nf nch e n,free p.1 p.2 nch e n,ne,nf,d⟩
theorem Inv.un (I:Inv X pins σ H s) (u:Un X.fs [] H H' s.heap h') (hok:HOk X.prog X.w H' h'):Inv X pins σ H' { s with heap:=h',toks:=t' }:=by
 obtain⟨m,⟨o,es,ep,ho,r⟩,_⟩:=id I.loc
 obtain⟨sl,hL⟩:=u.any ho I.free (by simp)
 exact I.step (g':=s.gens) (d':=s.drawn) (ch:=[]) (fun _ z=>nomatch z) (fun b o _ hb _ e n=>u.keep b o e n hb (by simp)) (fun b o _ hb _ e n=>u.slot b o e n hb (by simp)) (fun b o _ e n=>u.free b o e n (by simp)) (fun b o _ e=>u.there b o e (by simp)) u.tups u.frzs u.tbls (fun m' hm=>by
  obtain⟨o',es',ep',ho',r'⟩:=hm
  rw[ho] at ho'; cases ho'
  exact⟨_,es',ep',hL,r'⟩) hok I.bare
theorem Inv.call {g':Array GenState}{d':Drawn}{ch:List Addr} (I:Inv X pins σ H s) (u:Un (frs X.stack) ch H H' s.heap h') (hok:HOk X.prog X.w H' h') (hg:AllBare g')
  (hch:∀ b ∈ ch,(b ∈ X.ex∨X.s₀.heap.objs.size<=b)/\b≠X.env.locals/\(∀ x c,X.env.cells.lookup x=some c->c≠b)/\∀ p ∈ X.pn++pins,p.1≠b) :
  Inv X pins σ H' { s with heap:=h',gens:=g',drawn:=d',toks:=t' }:=by
 obtain⟨m,⟨o,es,ep,ho,r⟩,_⟩:=id I.loc
 obtain⟨sl,hL⟩:=u.any ho I.free fun z=>(hch _ z).2.1 rfl
 exact I.step (ch:=ch) hch (fun b o hL hb hc e n=>u.keep b o e n (fun z=>(tX.mp (I.stkSub b z)).elim hL hb) hc) (fun b o _ _ hc e n=>u.any e n hc) (fun b o hc e n=>u.free b o e n hc) (fun b o hc e=>u.there b o e hc) u.tups u.frzs u.tbls (fun m' hm=>by
  obtain⟨o',es',ep',ho',r'⟩:=hm
  rw[ho] at ho'; cases ho'
  exact⟨_,es',ep',hL,r'⟩) hok hg
theorem Inv.turned {it:Addr} (I:Inv X pins σ H s) (k:∀ b o,b≠it->s.heap.get? b=some o->h'.get? b=some o) (hn:H it=none) (hL:it≠X.env.locals)
  (h1:it ∈ X.ex∨X.s₀.heap.objs.size<=it) (h2:∀ x c,X.env.cells.lookup x=some c->c≠it) (h3:∀ p ∈ X.pn++pins,p.1≠it):Inv X pins σ H { s with heap:=h',toks:=t' }:=by
 have nit:∀ b u,H b=some u->b≠it:=fun b u e z=>by rw[z,hn] at e; cases e
 refine I.step (g':=s.gens) (d':=s.drawn) (ch:=[it]) (fun b hb=>?_) (fun b o _ _ hc e _=>k b o (fun z=>hc (by simp[z])) e) (fun b o _ _ hc e _=>⟨o.slots,k b o (fun z=>hc (by simp[z])) e⟩) (fun _ _ _ _ n=>n)
  (fun b o hc e=>⟨o,k b o (fun z=>hc (by simp[z])) e⟩) (fun _ _ e=>e) (fun _ _ _ e=>e) (fun b ps e=>⟨#[],by rw[e]; simp⟩) (fun m hm=>?_) (fun b u e=>?_) I.bare
 ·have e:b=it:=by simpa using hb
  subst e
  exact⟨h1,hL,h2,h3⟩
 ·obtain⟨o,es,ep,ho,r⟩:=hm
  exact⟨o,es,ep,k _ o (Ne.symm hL) ho,r⟩
 ·refine(I.hok b u e).stay (fun c v hc q=>k c v ?_ q) (fun _ q=>q) fun _ _ q=>q
  rcases hc with z | z
  ·rw[z]; exact nit b u e
  ·exact nit c _ z
theorem Inv.tok (I:Inv X pins σ H s) (t:Nat):Inv X pins σ H { s with toks:=t }:=I.un (h':=s.heap) (t':=t) Un.refl I.hok
theorem Inv.kept (I:Inv X pins σ H s) (k:∀ b u,s.heap.get? b=some u->h'.get? b=some u):Inv X pins σ H { s with heap:=h',toks:=t' }:=I.un (Un.kept k) (I.hok.kept k)
theorem Inv.laid {a:Addr}{o:HO} (I:Inv X pins σ H s) (k:∀ b u,s.heap.get? b=some u->h'.get? b=some u) (hp:s.heap.objs.size<=a) (new:ObjOk X.prog X.w (upd H a o) h' a o) :
  Inv X pins σ (upd H a o) { s with heap:=h',toks:=t' }:=I.un (Un.laid k hp (I.hok.fresh hp)) (I.hok.laid k hp new)
theorem Inv.write {x e:Addr}{o:HO} (I:Inv X pins σ H s) (mu:Mut (H x)) (he:e=x∨H e=some (.own x)) (k:∀ b u,b≠e->s.heap.get? b=some u->h'.get? b=some u) (heo:∃ u,h'.get? e=some u)
  (new:ObjOk X.prog X.w (upd H x o) h' x o):Inv X pins σ (upd H x o) { s with heap:=h',toks:=t' }:=I.un (Un.write mu he k heo) (I.hok.write mu he k heo new)
theorem Inv.weak {σ':List (Option V)} (I:Inv X pins σ H s) (hl:σ'.length=σ.length) (w:∀ (i:Nat) v,σ'[i]?=some (some v)->σ[i]?=some (some v)):Inv X pins σ' H s :=
 ⟨I.ok,I.os,I.bare,I.base,let ⟨m,hn,hl'⟩:=I.loc; ⟨m,hn,fun i x v e1 e2 e3=>hl' i x v e1 (w i v e2) e3⟩,I.cell,I.free,I.freeC,I.pin,I.hok,hl.trans I.len⟩
theorem Inv.pins_of {pins':List (Addr×Obj)} (I:Inv X pins σ H s) (h:∀ p ∈ pins',s.heap.get? p.1=some p.2/\H p.1=none/\p.1≠X.env.locals/\p.1 ∉ X.fs/\∀ v,p.2.data≠.cell v):Inv X pins' σ H s :=
 ⟨I.ok,I.os,I.bare,I.base,I.loc,I.cell,I.free,I.freeC,fun p hp=>(tV.mp hp).elim (fun z=>I.pin p (tQ _ z)) (h p),I.hok,I.len⟩
theorem iK {N:List Str} (hN:N.Nodup) {i j:Nat}{x:Str} (a:N[i]?=some x) (b:N[j]?=some x):i=j:=by
 obtain⟨h1,e1⟩:=List.getElem?_eq_some_iff.mp a
 obtain⟨h2,e2⟩:=List.getElem?_eq_some_iff.mp b
 exact(List.getElem_inj hN).mp (e1.trans e2.symm)
theorem j6 {M:Model}{i:Nat}{x:Str}{v:V}{u:Value}{Q:Unit->Shared->Prop} (I:Inv X pins σ H s) (hN:X.N.Nodup) (hi:X.N[i]?=some x) (hx:Loc X.env.scope x) (r:RelV v u)
  (h:∀ s',Inv X pins (σ.set i (some v)) H s'->(∃ a,Heap.SameBut a s.heap s'.heap/\(a=X.env.locals∨X.env.cells.lookup x=some a))->Q () s') (hf:X.fn x=true∨X.env.scope.names.lookup x=some .local:=by first | exact .inl rfl | exact .inr rfl | assumption):wpAny M A (storeName X.env x u) Q E s:=by
 obtain⟨m,hn,hl⟩:=id I.loc
 have hcls:(X.env.scope.kind == .class || (X.env.scope.kind == .module && X.env.locals != X.env.globals)) = false:=by rw [I.ok.kind]; rfl
 have hiσ:i<σ.length:=by rw[I.len]; exact(List.getElem?_eq_some_iff.mp hi).1
 have cne:=I.cne
 have tracked:∀ {a:Addr}{h':Heap},(∃ o,s.heap.get? a=some o/\H a=none)->Heap.SameBut a s.heap h'->HOk X.prog X.w H h':=fun {a h'} ha hs b ob e=>by
  obtain⟨_,_,hfree⟩:=ha
  refine(I.hok b ob e).stay (fun c w' hc q=>(hs.2 c ?_).trans q) (fun _ q=>q) fun _ _ q=>q
  rintro rfl
  rcases hc with rfl | hc
  ·rw[hfree] at e; cases e
  ·rw[hfree] at hc; cases hc
 rcases hx with hk | hk
 ·refine wpAny_storeName_local hk hn (fun h' hn' hs=>?_) hcls
  obtain⟨oL,_,_,hoL,_⟩:=id hn
  refine h _ ⟨I.ok,I.os,I.bare,⟨fun b o e n hb hx=>?_,fun b o e n hb hx=>?_,I.base.free,fun b o e hx=>?_,I.base.tups,I.base.frzs,I.base.tbls⟩,⟨_,hn',fun j y v' e1 e2 e3=>?_⟩,fun y c e=>?_,I.free,I.freeC,fun p hp=>?_,tracked ⟨oL,hoL,I.free⟩ hs,by simpa using I.len⟩ ⟨_,hs,.inl rfl⟩
  ·exact(hs.2 b (Nat.ne_of_lt (Nat.lt_of_lt_of_le (Heap.lt_size e) I.ok.above))).trans (I.base.keep b o e n hb hx)
  ·obtain⟨sl,e1⟩:=I.base.slot b o e n hb hx
   exact⟨sl,(hs.2 b (Nat.ne_of_lt (Nat.lt_of_lt_of_le (Heap.lt_size e) I.ok.above))).trans e1⟩
  ·obtain⟨o',e1⟩:=I.base.there b o e hx
   exact⟨o',(hs.2 b (Nat.ne_of_lt (Nat.lt_of_lt_of_le (Heap.lt_size e) I.ok.above))).trans e1⟩
  ·by_cases hj:j=i
   ·subst hj
    rw[hi] at e1; cases e1
    rw[List.getElem?_set_self hiσ] at e2
    cases e2
    exact⟨u,r,.inl ⟨hk,by simp⟩⟩
   ·rw[List.getElem?_set_ne (Ne.symm hj)] at e2
    obtain⟨u',r',q⟩:=hl j y v' e1 e2 e3
    refine⟨u',r',?_⟩
    rcases q with ⟨k,e⟩ | ⟨k,c,e,z⟩
    ·refine .inl ⟨k,?_⟩
     have:y≠x:=fun e=>hj (iK hN e1 (e ▸ hi))
     simp[this,e]
    ·exact .inr ⟨k,c,e,z.sameBut hs (cne y c e)⟩
  ·obtain⟨w',z⟩:=I.cell y c e
   exact⟨w',z.sameBut hs (cne y c e)⟩
  ·obtain⟨e,n,ne,nf,d⟩:=I.pin p hp
   exact⟨(hs.2 p.1 ne).trans e,n,ne,nf,d⟩
 ·have hfn:X.fn x=true:=by
   rcases hf with z | z
   ·exact z
   ·rw[z] at hk; cases hk
  obtain⟨c,hc⟩:=I.ok.has x (.inl hk)
  obtain⟨w',z⟩:=I.cell x c hc
  refine wpAny_storeName_cell I.ok.kind hk hc z (fun h' hc' hs=>?_)
  obtain⟨oc,hoc,hocd⟩:=id z
  refine h { s with heap:=h' } ⟨I.ok,I.os,I.bare,⟨fun b o e n hb hx=>?_,fun b o e n hb hx=>?_,I.base.free,fun b o e hx=>?_,I.base.tups,I.base.frzs,I.base.tbls⟩,⟨m,hn.sameBut hs (Ne.symm (cne x c hc)),fun j y v' e1 e2 e3=>?_⟩,fun y c' e=>?_,I.free,I.freeC,fun p hp=>?_,tracked ⟨oc,hoc,I.freeC x c hc⟩ hs,by simpa using I.len⟩ ⟨c,hs,.inr hc⟩
  ·exact(hs.2 b (Nat.ne_of_lt (Nat.lt_of_lt_of_le (Heap.lt_size e) (I.ok.cab x c hfn hc)))).trans (I.base.keep b o e n hb hx)
  ·obtain⟨sl,e1⟩:=I.base.slot b o e n hb hx
   exact⟨sl,(hs.2 b (Nat.ne_of_lt (Nat.lt_of_lt_of_le (Heap.lt_size e) (I.ok.cab x c hfn hc)))).trans e1⟩
  ·obtain⟨o',e1⟩:=I.base.there b o e hx
   exact⟨o',(hs.2 b (Nat.ne_of_lt (Nat.lt_of_lt_of_le (Heap.lt_size e) (I.ok.cab x c hfn hc)))).trans e1⟩
  ·by_cases hj:j=i
   ·subst hj
    rw[hi] at e1; cases e1
    rw[List.getElem?_set_self hiσ] at e2
    cases e2
    exact⟨u,r,.inr ⟨.inl hk,c,hc,hc'⟩⟩
   ·rw[List.getElem?_set_ne (Ne.symm hj)] at e2
    obtain⟨u',r',q⟩:=hl j y v' e1 e2 e3
    refine⟨u',r',?_⟩
    rcases q with q | ⟨k,c',e,z'⟩
    ·exact .inl q
    ·refine .inr ⟨k,c',e,z'.sameBut hs ?_⟩
     rintro rfl
     exact hj (iK hN e1 (I.ok.inj _ _ _ e hc ▸ hi))
  ·by_cases hcc:c'=c
   ·subst hcc; exact⟨_,hc'⟩
   ·obtain⟨w2,z2⟩:=I.cell y c' e
    exact⟨w2,z2.sameBut hs hcc⟩
  ·obtain⟨e,n,ne,nf,d⟩:=I.pin p hp
   refine⟨(hs.2 p.1 ?_).trans e,n,ne,nf,d⟩
   intro q
   rw[q,hoc] at e
   have q':oc=p.2:=Option.some.inj e
   exact d w' (by rw[<- q']; exact hocd)
theorem fB {M:Model}{i:Nat}{x:Str}{v:V}{u:Value}{Q:Unit->Shared->Prop} (I:Inv X pins σ H s) (hN:X.N.Nodup) (hi:X.N[i]?=some x) (hx:Loc X.env.scope x) (r:RelV v u)
  (h:∀ s',Inv X pins (σ.set i (some v)) H s'->Q () s') (hf:X.fn x=true∨X.env.scope.names.lookup x=some .local:=by first | exact .inl rfl | exact .inr rfl | assumption):wpAny M A (storeName X.env x u) Q E s :=
 j6 I hN hi hx r (fun s' I' _=>h s' I') hf
theorem Inv.call' {s':Shared}{ch:List Addr} (I:Inv X pins σ H s) (ho:s'.os=s.os) (u:Un (frs X.stack) ch H H' s.heap s'.heap) (hok:HOk X.prog X.w H' s'.heap) (hg:AllBare s'.gens)
  (hch:∀ b ∈ ch,(b ∈ X.ex∨X.s₀.heap.objs.size<=b)/\b≠X.env.locals/\(∀ x c,X.env.cells.lookup x=some c->c≠b)/\∀ p ∈ X.pn++pins,p.1≠b):Inv X pins σ H' s':=by
 obtain⟨h',g',d',t',o'⟩:=s'
 have e:o'=s.os:=ho
 subst e
 exact I.call (g':=g') (t':=t') (d':=d') u hok hg hch
end
noncomputable abbrev XK:=Value->Option Addr->Hp->Prop
noncomputable abbrev St:=List (Option V)
noncomputable abbrev VK:=V->Hp->Prop
noncomputable abbrev TE:=St->Hp->VK->Prop
noncomputable abbrev TT:=St->Hp->(Bool->Hp->Prop)->Prop
noncomputable abbrev TA:=St->Hp->(List V->Hp->Prop)->Prop
structure Ends where
 nx:St->Hp->Prop
 rt:VK
 bk:St->Hp->Prop:=fun _ _=>False
 ct:St->Hp->Prop:=fun _ _=>False
noncomputable abbrev TS:=Ends->St->Hp->Prop
noncomputable def EP (X:Cx) (pins:List (Addr×Obj)) (σ:St) (Q:VK) (u:Value) (s':Shared):Prop:=∃ v H',Inv X pins σ H' s'/\RelV v u/\Q v H'
noncomputable def TP (X:Cx) (pins:List (Addr×Obj)) (σ:St) (Q:Bool->Hp->Prop) (b:Bool) (s':Shared):Prop:=∃ H',Inv X pins σ H' s'/\Q b H'
noncomputable def AP (X:Cx) (pins:List (Addr×Obj)) (σ:St) (Q:List V->Hp->Prop) (us:List Value) (s':Shared):Prop:=∃ vs H',Inv X pins σ H' s'/\Vals vs us/\Q vs H'
noncomputable def SP (X:Cx) (pins:List (Addr×Obj)) (D:Ends) (f:Flow) (s':Shared):Prop :=
 match f with
 | .next=>∃ σ' H',Inv X pins σ' H' s'/\D.nx σ' H'
 | .brk=>∃ σ' H',Inv X pins σ' H' s'/\D.bk σ' H'
 | .cont=>∃ σ' H',Inv X pins σ' H' s'/\D.ct σ' H'
 | .ret u=>∃ v σ' H',Inv X pins σ' H' s'/\RelV v u/\D.rt v H'
noncomputable def PE (X:Cx) (e:Expr) (t:TE):Prop :=
 ∀ (pins:List (Addr×Obj)) (s:Shared) (σ:St) (H:Hp) (Q:VK),Inv X pins σ H s->t σ H Q->wpAny (model X.prog X.w) X.A (eval e X.env) (EP X pins σ Q) X.xe s
noncomputable def PT (X:Cx) (e:Expr) (t:TT):Prop :=
 ∀ (pins:List (Addr×Obj)) (s:Shared) (σ:St) (H:Hp) (Q:Bool->Hp->Prop),Inv X pins σ H s->t σ H Q->wpAny (model X.prog X.w) X.A (isTrue e X.env (eval e X.env)) (TP X pins σ Q) X.xe s
noncomputable def PW (X:Cx) (e:Expr) (t:TT):Prop :=
 ∀ (whole:Sem Value) (pins:List (Addr×Obj)) (s:Shared) (σ:St) (H:Hp) (Q:Bool->Hp->Prop),Inv X pins σ H s->t σ H Q->wpAny (model X.prog X.w) X.A (isTrue e X.env whole) (TP X pins σ Q) X.xe s
variable{e:Expr}
theorem PW.pt {X:Cx}{t:TT} (h:PW X e t):PT X e t:=h _
noncomputable def PA (X:Cx) (es:List Expr) (t:TA):Prop :=
 ∀ (pos:Pos) (pins:List (Addr×Obj)) (s:Shared) (σ:St) (H:Hp) (Q:List V->Hp->Prop),Inv X pins σ H s->t σ H Q->wpAny (model X.prog X.w) X.A (spliced (backTo pos (starEach es X.env))) (AP X pins σ Q) X.xe s
noncomputable def PS (X:Cx) (st:Stmt) (t:TS):Prop :=
 ∀ (pins:List (Addr×Obj)) (s:Shared) (σ:St) (H:Hp) (D:Ends),Inv X pins σ H s->t D σ H->wpAny (model X.prog X.w) X.A (exec st X.env) (SP X pins D) X.xe s
noncomputable def PSs (X:Cx) (st:List Stmt) (t:TS):Prop :=
 ∀ (pins:List (Addr×Obj)) (s:Shared) (σ:St) (H:Hp) (D:Ends),Inv X pins σ H s->t D σ H->wpAny (model X.prog X.w) X.A (execs st X.env) (SP X pins D) X.xe s
variable{s:Shared}
theorem thn {α:Type}{t:Sem α}{Q Q':α->Shared->Prop}{M:Model} (h:wpAny M A t Q E s) (hQ:∀ a s,Q a s->Q' a s):wpAny M A t Q' E s:=wpAny_mono h hQ fun _ _ x=>x
variable{pins:List (Addr×Obj)}{Q:Value->Shared->Prop}{σ:St}{pos:Pos}
section
variable {X:Cx}
inductive TV_ (i:Nat) (σ:St) (H:Hp) (Q:VK):Prop
 | mk (v:V) (h:σ[i]?=some (some v)) (q:Q v H):TV_ i σ H Q
noncomputable def nE (i:Nat):TE:=fun σ H Q=>TV_ i σ H Q
noncomputable def tC (v:V):TE:=fun _ H Q=>Q v H
theorem qB {i:Nat}{x:Str} (hN:X.N[i]?=some x) (hv:Vis X.env.scope x) (hd:(x == ("__debug__" : Str))=false:=by decide) (hcd:(x == ("__classdict__" : Str))=false:=by decide):PE X (.Name x pos) (nE i):=by
 intro pins s σ H Q I h
 obtain⟨v,e,h⟩:=h
 obtain⟨m,hn,hl⟩:=I.loc
 obtain⟨u,r,l⟩:=hl i x v hN e hv
 have fin:EP X pins σ Q u s:=⟨v,H,I,r,h⟩
 rcases l with ⟨hk,hm⟩ | ⟨hk,c,hc,hcell⟩
 ·exact wpAny_Name (wpAny_loadName_local I.ok.kind hk hn hm fin) hd
 ·rcases hk with hk | hk
  ·exact wpAny_Name (wpAny_loadName_cell I.ok.kind hk hc hcell fin) hd
  ·exact wpAny_Name (wpAny_loadName_free I.ok.kind hk hc hcell fin hcd) hd
theorem ah {i j pos}:PE X (.Constant (.int i) j pos) (tC (.int i)):=fun _ _ _ H _ I h=>wpAny_Constant_int ⟨.int i,H,I.tok _,⟨_,U⟩,h⟩
theorem dL {b j pos}:PE X (.Constant (.bool b) j pos) (tC (.bl b)):=fun _ _ _ H _ I h=>Constant_bool ⟨.bl b,H,I,U,h⟩
theorem aS {j pos}:PE X (.Constant .none j pos) (tC .non):=fun _ _ _ H _ I h=>Constant_none ⟨.non,H,I,U,h⟩
theorem aJ {x j pos}:PE X (.Constant (.str x) j pos) (tC (.str x)):=fun _ _ _ H _ I h=>Calls.Constant_str ⟨.str x,H,I.tok _,⟨_,U⟩,h⟩
noncomputable def Gl (X:Cx) (x:Str):Prop:=X.env.kindOf x=some .globalImplicit
theorem fj {x:Str}{u:Value} (I:Inv X pins σ H s) (hg:Gl X x) (hm:X.mg x=some u) (h:Q u s)
  (hd:(x == ("__debug__" : Str))=false:=by decide):wpAny (model X.prog X.w) X.A (eval (.Name x pos) X.env) Q E s :=
 Calls.Name_function_global I.ok.kind hg (Calls.loadGlobal_global (by rw[I.ok.glob]; exact I.mod.glob.keeps I.bk) hm h) hd
theorem cR {x:Str}{u:Value} (I:Inv X pins σ H s) (hg:Gl X x) (hm:X.mg x=none) (hv:bootBuiltins x=some u) (h:Q u s)
  (hn:x ≠ "__name__":=by decide) (hd:(x == ("__debug__" : Str))=false:=by decide):wpAny (model X.prog X.w) X.A (eval (.Name x pos) X.env) Q E s:=by
 obtain⟨mb,h1,h2⟩:=I.mod.blt
 exact Calls.Name_function_global I.ok.kind hg (Calls.loadGlobal_builtin (by rw[I.ok.glob]; exact I.mod.glob.keeps I.bk) hm (by rw[I.ok.blt]; exact h1.keeps I.bk) ((h2 x hn).trans hv) h) hd
theorem bL {x:Str}{v:V}{u:Value} (hg:Gl X x) (hm:X.mg x=some u) (r:RelV v u) (hd:(x == ("__debug__" : Str))=false:=by decide):PE X (.Name x pos) (tC v) :=
 fun _ _ _ H _ I h=>fj I hg hm ⟨v,H,I,r,h⟩ hd
theorem fh {x:Str}{v:V}{u:Value} (hg:Gl X x) (hm:X.mg x=none) (hv:bootBuiltins x=some u) (r:RelV v u) (hn:x ≠ "__name__":=by decide) (hd:(x == ("__debug__" : Str))=false:=by decide):PE X (.Name x pos) (tC v) :=
 fun _ _ _ H _ I h=>cR I hg hm hv ⟨v,H,I,r,h⟩ hn hd
variable {a b:Expr}{ta tb:TE}{pos:Pos}
noncomputable def PC (X:Cx) (op:CmpOp) (a b:Expr) (t:TE):Prop :=
 ∀ (pins:List (Addr×Obj)) (s:Shared) (σ:St) (H:Hp) (Q:VK),Inv X pins σ H s->t σ H Q ->
  wpAny (model X.prog X.w) X.A (eval a X.env) (fun v s₁=>wpAny (model X.prog X.w) X.A (eval b X.env) (fun u s₂=>wpAny (model X.prog X.w) X.A (compareOp op v u) (EP X pins σ Q) X.xe s₂) X.xe s₁) X.xe s
inductive TB_ (Q:Bool->Hp->Prop) (x:V) (H:Hp):Prop
 | mk (k:Bool) (h:x=.bl k) (q:Q k H):TB_ Q x H
noncomputable def tB (t:TE):TT:=fun σ H Q=>t σ H (TB_ Q)
theorem g7 {op:CmpOp}{t:TE} (h:PC X op a b t) (h1:behindInMarks op b=false:=by first | exact nobehind _ (by decide) (by decide) | rfl):PT X (.Compare a [op] [b] pos) (tB t):=by
 intro pins s σ H Q I hw
 refine wpAny_isTrue_Compare1 (thn (h pins s σ H _ I hw) fun v s1 h1=>thn h1 fun u s2 h2=>thn h2 fun c s3 ⟨x,H1,I1,r1,q1⟩=>?_) h1
 obtain⟨d,rfl,q⟩:=q1
 cases r1
 exact wpAny_truthy_bool ⟨H1,I1,q⟩
theorem b6 {t:TE} (h:PE X e t) (he:∀ whole,isTrue e X.env whole=(do let v <- whole; standAt e.pos; holding [v] (truthy v)):=by intro _; rfl):PT X e (tB t):=by
 intro pins s σ H Q I hw
 refine isTrue_plain (thn (h pins s σ H _ I hw) fun v s1 ⟨x,H1,I1,r1,q1⟩=>?_) (he _)
 obtain⟨d,rfl,q⟩:=q1
 cases r1
 exact wpAny_truthy_bool ⟨H1,I1,q⟩
variable {tA tB':TT}{rest:List Expr}
noncomputable def tAnd (t u:TT):TT:=fun σ H Q=>t σ H fun c H1=>if c=true then u σ H1 Q else Q false H1
noncomputable def tOr (t u:TT):TT:=fun σ H Q=>t σ H fun c H1=>if c=true then Q true H1 else u σ H1 Q
noncomputable def tNot (t:TT):TT:=fun σ H Q=>t σ H fun c H1=>Q (!c) H1
theorem bT (ha:PT X a tA):PW X (.BoolOp .And [a] pos) tA:=by
 intro wh pins s σ H Q I h
 refine isTrue_and (thn (ha pins s σ H Q I h) fun c s1 e=>?_)
 cases c with
 | true=>exact isTrue_and_nil e
 | false=>exact e
theorem b5 (ha:PT X a tA):PW X (.BoolOp .Or [a] pos) tA:=by
 intro wh pins s σ H Q I h
 refine isTrue_or (thn (ha pins s σ H Q I h) fun c s1 e=>?_)
 cases c with
 | false=>exact isTrue_or_nil e
 | true=>exact e
theorem bO (ha:PT X a tA) (hb:PW X (.BoolOp .And (b::rest) pos) tB'):PW X (.BoolOp .And (a::b::rest) pos) (tAnd tA tB'):=by
 intro wh pins s σ H Q I h
 refine isTrue_and (thn (ha pins s σ H _ I h) fun c s1 ⟨H1,I1,q1⟩=>?_)
 cases c with
 | true=>exact hb wh pins s1 σ H1 Q I1 q1
 | false=>exact⟨H1,I1,q1⟩
theorem cK (ha:PT X a tA) (hb:PW X (.BoolOp .Or (b::rest) pos) tB'):PW X (.BoolOp .Or (a::b::rest) pos) (tOr tA tB'):=by
 intro wh pins s σ H Q I h
 refine isTrue_or (thn (ha pins s σ H _ I h) fun c s1 ⟨H1,I1,q1⟩=>?_)
 cases c with
 | true=>exact⟨H1,I1,q1⟩
 | false=>exact hb wh pins s1 σ H1 Q I1 q1
theorem b7 (ha:PT X a tA):PT X (.UnaryOp .Not a pos) (tNot tA):=by
 intro pins s σ H Q I h
 exact isTrue_not (ha pins s σ H (fun c H1=>Q (!c) H1) I h)
noncomputable def tAndV (ta tb:TE):TE:=fun σ H Q=>ta σ H fun x H1=>∃ c,x=.bl c/\if c=true then tb σ H1 Q else Q (.bl false) H1
noncomputable def tNotV (ta:TE):TE:=fun σ H Q=>ta σ H fun x H1=>∃ c,x=.bl c/\Q (.bl (!c)) H1
theorem hJ {op} {t:TE} (h:PE X a t):PE X (.BoolOp op [a] pos) t:=fun pins s σ H Q I hw=>BoolOp_one (h pins s σ H Q I hw)
theorem hV (ha:PE X a ta) (hb:PE X (.BoolOp .And (b::rest) pos) tb):PE X (.BoolOp .And (a::b::rest) pos) (tAndV ta tb):=by
 intro pins s σ H Q I h
 refine BoolOp_and (thn (ha pins s σ H _ I h) fun v s1 ⟨x,H1,I1,r1,q1⟩=>?_)
 obtain⟨c,rfl,q1⟩:=q1
 cases r1
 refine wpAny_truthy_bool ?_
 cases c with
 | true=>exact hb pins s1 σ H1 Q I1 q1
 | false=>exact⟨.bl false,H1,I1,U,q1⟩
theorem qC (ha:PE X a ta):PE X (.UnaryOp .Not a pos) (tNotV ta):=by
 intro pins s σ H Q I h
 refine UnaryOp_ (thn (ha pins s σ H _ I h) fun v s1 ⟨x,H1,I1,r1,q1⟩=>?_)
 obtain⟨c,rfl,q1⟩:=q1
 cases r1
 exact not_of (wpAny_truthy_bool ⟨.bl (!c),H1,I1,U,q1⟩)
noncomputable def tIf (t:TT) (ta tb:TE):TE:=fun σ H Q=>t σ H fun c H1=>if c=true then ta σ H1 Q else tb σ H1 Q
theorem cO {c:Expr} (hc:PT X c tA) (ha:PE X a ta) (hb:PE X b tb):PE X (.IfExp c a b pos) (tIf tA ta tb):=by
 intro pins s σ H Q I h
 refine wpAny_IfExp (thn (hc pins s σ H _ I h) fun d s1 ⟨H1,I1,q1⟩=>?_)
 cases d with
 | true=>exact ha pins s1 σ H1 Q I1 q1
 | false=>exact hb pins s1 σ H1 Q I1 q1
end
noncomputable def SqL (K:PySem.W.Frag) (H:Hp) (a:Addr) (xs:List V):Prop :=
 Rd H a (.lst xs) ∨
  ∃ (o:Obj) (its:Array Value) (n:Nat),K.lookup a=some o/\o.cls=.type "list" /\ o.dict=none/\o.data=.seq its n/\its.size<=sizeLine/\Vals xs its.toList
noncomputable def SqT (K:PySem.W.Frag) (H:Hp) (a:Addr) (xs:List V):Prop :=
 Rd H a (.tup xs) ∨
  ∃ (o:Obj) (its:Array Value) (n:Nat),K.lookup a=some o/\o.cls=.type "tuple" /\ o.data=.seq its n/\its.size<=sizeLine/\Vals xs its.toList
noncomputable def absV:Value->Option V
 | .none=>some .non
 | .bool b=>some (.bl b)
 | .int i _=>some (.int i)
 | .str x _=>some (.str x)
 | .bytes b _=>some (.byt b)
 | .float b _=>some (.flt b)
 | .ref a=>some (.ref a)
 | .type n=>some (.ty n)
 | _=>none
theorem RelV.abs {x:V}{u:Value} (r:RelV x u):absV u=some x:=by
 cases x with
 | non=>cases r; rfl
 | bl _=>cases r; rfl
 | int _=>obtain⟨t,rfl⟩:=r; rfl
 | str _=>obtain⟨t,rfl⟩:=r; rfl
 | byt _=>obtain⟨t,rfl⟩:=r; rfl
 | flt _=>obtain⟨t,rfl⟩:=r; rfl
 | ref _=>cases r; rfl
 | ty _=>cases r; rfl
theorem RelV.inj {x y:V}{u:Value} (r:RelV x u) (q:RelV y u):x=y:=Option.some.inj (r.abs.symm.trans q.abs)
theorem Vals.inj {xs ys:List V} (a:Vals xs us) (b:Vals ys us):xs=ys:=by
 induction a generalizing ys with
 | nil=>cases b; rfl
 | cons r t ih=>
  cases b with
  | cons r' t'=>rw[r.inj r',ih t']
variable{K:PySem.W.Frag}
section
variable {X:Cx}{pins:List (Addr×Obj)}{σ:St}{H:Hp}{s:Shared}{a:Addr}{xs ys:List V}
theorem SqL.of (h:H a=some (.lst xs)):SqL K H a xs:=.inl (.inl h)
theorem SqT.of (h:H a=some (.tup xs)):SqT K H a xs:=.inl (.inl h)
theorem Inv.list (I:Inv X pins σ H s) (h:SqL X.K H a xs):∃ its:List Value,Vals xs its/\PlainL s.heap a its.toArray/\xs.length<=sizeLine:=by
 rcases h with h | ⟨o,its,n,hk,hc,hd,hs,hz,r⟩
 ·obtain⟨z,its,n,r,e⟩:=h.ok I.hok
  exact⟨its,r,⟨_,n,e,U,U,U⟩,z⟩
 ·refine⟨its.toList,r,⟨o,n,I.kIn a o hk,hc,hd,by simpa using hs⟩,?_⟩
  have e:=r.length
  simp only[Array.length_toList] at e
  omega
theorem Inv.tuple (I:Inv X pins σ H s) (h:SqT X.K H a xs):∃ its:List Value,Vals xs its/\IsTup s.heap a its.toArray/\xs.length<=sizeLine:=by
 rcases h with h | ⟨o,its,n,hk,hc,hs,hz,r⟩
 ·obtain⟨z,its,r,p⟩:=h.ok I.hok
  exact⟨its,r,p,z⟩
 ·refine⟨its.toList,r,⟨o,I.kIn a o hk,hc,n,by simpa using hs⟩,?_⟩
  have e:=r.length
  simp only[Array.length_toList] at e
  omega
theorem Inv.list_inj (I:Inv X pins σ H s) (h:SqL X.K H a xs) (h':SqL X.K H a ys):xs=ys:=by
 obtain⟨its,r,⟨o,n,e,_,_,d⟩,_⟩:=I.list h
 obtain⟨its',r',⟨o',n',e',_,_,d'⟩,_⟩:=I.list h'
 rw[e] at e'; cases e'
 rw[d] at d'
 injection d' with d1 _
 have:its=its':=by simpa using congrArg Array.toList d1
 subst this
 exact r.inj r'
theorem Inv.tuple_inj (I:Inv X pins σ H s) (h:SqT X.K H a xs) (h':SqT X.K H a ys):xs=ys:=by
 obtain⟨its,r,⟨o,e,_,n,d⟩,_⟩:=I.tuple h
 obtain⟨its',r',⟨o',e',_,n',d'⟩,_⟩:=I.tuple h'
 rw[e] at e'; cases e'
 rw[d] at d'
 injection d' with d1 _
 have:its=its':=by simpa using congrArg Array.toList d1
 subst this
 exact r.inj r'
end
noncomputable abbrev Cx.wish (X:Cx) (E:Value->Shared->Prop):Cx:={ X with xe:=E }
noncomputable abbrev Cx.nox (X:Cx):Cx:=X.wish fun _ _=>False
theorem Cx.Ok.wish {X:Cx} (ok:X.Ok) (E:Value->Shared->Prop):(X.wish E).Ok :=
 ⟨ok.mod,ok.kind,ok.glob,ok.blt,ok.above,ok.inj,ok.has,ok.cab,ok.hd,ok.frames,ok.stk,ok.exf,ok.bs,ok.bsz,ok.noex,ok.exfs,ok.funs,ok.frf⟩
theorem Cx.Ok.unwish {X:Cx} (ok:(X.wish E).Ok):X.Ok :=
 ⟨ok.mod,ok.kind,ok.glob,ok.blt,ok.above,ok.inj,ok.has,ok.cab,ok.hd,ok.frames,ok.stk,ok.exf,ok.bs,ok.bsz,ok.noex,ok.exfs,ok.funs,ok.frf⟩
section
variable {X:Cx}{pins:List (Addr×Obj)}{σ:St}{H:Hp}{s:Shared}{E:Value->Shared->Prop}
theorem Inv.wish (I:Inv X pins σ H s) (E:Value->Shared->Prop):Inv (X.wish E) pins σ H s:=⟨I.ok.wish E,I.os,I.bare,I.base,I.loc,I.cell,I.free,I.freeC,I.pin,I.hok,I.len⟩
theorem Inv.unwish (I:Inv (X.wish E) pins σ H s):Inv X pins σ H s:=⟨I.ok.unwish,I.os,I.bare,I.base,I.loc,I.cell,I.free,I.freeC,I.pin,I.hok,I.len⟩
theorem SP.unwish {D:Ends}{f:Flow}{s':Shared} (h:SP (X.wish E) pins D f s'):SP X pins D f s':=by
 cases f with
 | next=>obtain⟨σ',H',I,q⟩:=h; exact⟨σ',H',I.unwish,q⟩
 | brk=>obtain⟨σ',H',I,q⟩:=h; exact⟨σ',H',I.unwish,q⟩
 | cont=>obtain⟨σ',H',I,q⟩:=h; exact⟨σ',H',I.unwish,q⟩
 | ret u=>obtain⟨v,σ',H',I,r,q⟩:=h; exact⟨v,σ',H',I.unwish,r,q⟩
theorem PSs.nox {st:List Stmt}{t:TS} (h:PSs X.nox st t):PSs X st t:=fun pins s σ H D I hw=>
 wpAny_mono (h pins s σ H D (I.wish _) hw) (fun _ _ q=>q.unwish) fun _ _ z=>False.elim z
end
section
variable {X:Cx}{st:Stmt}{rest:List Stmt}{t u:TS}{e:Expr}{te:TE}{pos:Pos}
noncomputable def oK:TS:=fun D σ H=>D.nx σ H
noncomputable def iq (t u:TS):TS:=fun D σ H=>t { D with nx:=u D } σ H
theorem ap:PSs X [] oK:=fun _ _ σ H _ I h=>wpAny_execs_nil ⟨σ,H,I,h⟩
theorem ae (h1:PS X st t) (h2:PSs X rest u):PSs X (st::rest) (iq t u):=by
 intro pins s σ H D I h
 refine wpAny_execs_cons (thn (h1 pins s σ H { D with nx:=u D } I h) fun f s1 q=>?_)
 cases f with
 | next=>
  obtain⟨σ',H',I',q⟩:=q
  exact h2 pins s1 σ' H' D I' q
 | ret v=>exact q
 | brk=>exact q
 | cont=>exact q
theorem ai (h1:PS X st t):PSs X [st] t:=by
 intro pins s σ H D I h
 refine wpAny_execs_cons (thn (h1 pins s σ H D I h) fun f s1 q=>?_)
 cases f with
 | next=>exact wpAny_execs_nil q
 | ret v=>exact q
 | brk=>exact q
 | cont=>exact q
noncomputable def ql:TS:=fun D σ H=>D.bk σ H
theorem lO:PS X (.Break pos) ql:=fun _ _ σ H _ I h=>wpAny_Break ⟨σ,H,I,h⟩
theorem Inv.quiet (I:Inv X pins σ H s):interactive X.env=false:=by simp[interactive,I.ok.kind]
noncomputable def oN (te:TE):TS:=fun D σ H=>te σ H fun _ H1=>D.nx σ H1
theorem ar (he:PE X e te) (hs:swapsWith e none pos.line X.env=pure false:=by rfl):PS X (.Expr e pos) (oN te):=by
 intro pins s σ H D I h
 exact wpAny_Expr_any (thn (he pins s σ H _ I h) fun v s1 ⟨x,H1,I1,r1,q1⟩=>⟨σ,H1,I1,q1⟩) I.quiet hs
noncomputable def rX (te:TE):TS:=fun D σ H=>te σ H D.rt
theorem au (he:PE X e te):PS X (.Return (some e) pos) (rX te):=by
 intro pins s σ H D I h
 exact wpAny_Return_some (thn (he pins s σ H _ I h) fun v s1 ⟨x,H1,I1,r1,q1⟩=>⟨x,σ,H1,I1,r1,q1⟩)
noncomputable def tRetN:TS:=fun D _ H=>D.rt .non H
theorem jJ:PS X (.Return none pos) tRetN:=fun _ _ σ H _ I h=>wpAny_Return_none ⟨.non,σ,H,I,U,h⟩
noncomputable def tIfS (c:TT) (t u:TS):TS:=fun D σ H=>c σ H fun b H1=>if b=true then t D σ H1 else u D σ H1
theorem aD {c:Expr}{a b:List Stmt}{tc:TT} (hc:PT X c tc) (ha:PSs X a t) (hb:PSs X b u):PS X (.If c a b pos) (tIfS tc t u):=by
 intro pins s σ H D I h
 refine wpAny_If (thn (hc pins s σ H _ I h) fun d s1 ⟨H1,I1,q1⟩=>?_)
 cases d with
 | true=>exact ha pins s1 σ H1 D I1 q1
 | false=>exact hb pins s1 σ H1 D I1 q1
noncomputable def qf:TS:=fun _ _ _=>False
theorem aZ:PS X st qf:=fun _ _ _ _ _ _ h=>h.elim
end
noncomputable abbrev TG:=V->St->Hp->(St->Hp->Prop)->Prop
noncomputable abbrev TGs:=List V->St->Hp->(St->Hp->Prop)->Prop
noncomputable def PG (X:Cx) (target:Expr) (t:TG):Prop :=
 ∀ (pins:List (Addr×Obj)) (s:Shared) (σ:St) (H:Hp) (v:V) (u:Value) (Q:St->Hp->Prop),Inv X pins σ H s->RelV v u->t v σ H Q ->
  wpAny (model X.prog X.w) X.A (assign target X.env u) (fun _ s'=>∃ σ' H',Inv X pins σ' H' s'/\Q σ' H') X.xe s
noncomputable def PGs (X:Cx) (ts:List Expr) (t:TGs):Prop :=
 ∀ (pins:List (Addr×Obj)) (s:Shared) (σ:St) (H:Hp) (vs:List V) (us:List Value) (Q:St->Hp->Prop),Inv X pins σ H s->Vals vs us->t vs σ H Q ->
  wpAny (model X.prog X.w) X.A (assignInOrder ((assignEach ts X.env).map (·.2)) us) (fun _ s'=>∃ σ' H',Inv X pins σ' H' s'/\Q σ' H') X.xe s
noncomputable abbrev rS:=V->V->V->Hp->(Hp->Prop)->Prop
noncomputable def tI (X:Cx) (t:rS):Prop :=
 ∀ (pins:List (Addr×Obj)) (s:Shared) (σ:St) (H:Hp) (o i v:V) (ov iv u:Value) (Q:Hp->Prop),Inv X pins σ H s->RelV o ov->RelV i iv->RelV v u->t o i v H Q ->
  wpAny (model X.prog X.w) X.A (setItem ov iv u) (fun _ s'=>∃ H',Inv X pins σ H' s'/\Q H') X.xe s
noncomputable abbrev TIp:=V->V->Hp->VK->Prop
noncomputable def PIp (X:Cx) (op:Operator) (t:TIp):Prop :=
 ∀ (pins:List (Addr×Obj)) (s:Shared) (σ:St) (H:Hp) (x y:V) (v u:Value) (Q:VK),Inv X pins σ H s->RelV x v->RelV y u->t x y H Q ->
  wpAny (model X.prog X.w) X.A (inplaceOp op v u) (EP X pins σ Q) X.xe s
section
variable {X:Cx}{pos:Pos}
noncomputable def eL (i:Nat):TG:=fun v σ H Q=>Q (σ.set i (some v)) H
theorem aq {i:Nat}{x:Str} (hN:X.N.Nodup) (hi:X.N[i]?=some x) (hx:Loc X.env.scope x) (hf:X.fn x=true∨X.env.scope.names.lookup x=some .local:=by first | exact .inl rfl | exact .inr rfl | assumption):PG X (.Name x pos) (eL i):=by
 intro pins s σ H v u Q I r h
 exact wpAny_assign_Name (fB I hN hi hx r (fun s' I'=>⟨_,H,I',h⟩) hf)
noncomputable def gNil:TGs:=fun vs σ H Q=>vs=[]/\Q σ H
inductive GC_ (t:TG) (u:TGs) (vs:List V) (σ:St) (H:Hp) (Q:St->Hp->Prop):Prop
 | mk (v:V) (r:List V) (h:vs=v::r) (q:t v σ H fun σ' H'=>u r σ' H' Q):GC_ t u vs σ H Q
noncomputable def gCons (t:TG) (u:TGs):TGs:=fun vs σ H Q=>GC_ t u vs σ H Q
theorem bc:PGs X [] gNil:=by
 intro pins s σ H vs us Q I r h
 obtain⟨e,h⟩:=h
 subst e
 cases r
 exact assignInOrder_nil ⟨σ,H,I,h⟩
theorem ay {es:List Expr}{t:TG}{u:TGs} (h1:PG X e t) (h2:PGs X es u)
  (hs:(assignEach (e::es) X.env).map (·.2)=assign e X.env::(assignEach es X.env).map (·.2):=by rfl):PGs X (e::es) (gCons t u):=by
 intro pins s σ H vs us Q I r h
 obtain⟨v,vr,e1,h⟩:=h
 subst e1
 cases r with
 | cons r rr=>
  rw[hs]
  refine assignInOrder_cons (thn (h1 pins s σ H _ _ _ I r h) fun _ s1 ⟨σ1,H1,I1,q1⟩=>?_)
  exact h2 pins s1 σ1 H1 _ _ Q I1 rr q1
noncomputable def sW (K:PySem.W.Frag) (n:Nat) (t:TGs):TG:=fun v σ H Q=>∃ a xs,v=.ref a/\SqT K H a xs/\xs.length=n/\t xs σ H Q
theorem bx {es:List Expr}{k:Nat}{t:TGs}{n:Nat} (hc:X.calm=true) (h:PGs X es t)
  (hn:(assignEach es X.env).length=n:=by rfl) (hst:(assignEach es X.env).findIdx? (·.1)=none:=by rfl):PG X (.Tuple es k pos) (sW X.K n t):=by
 intro pins s σ H v u Q I r hw
 obtain⟨a,xs,e1,hq,hl,hw⟩:=hw
 subst e1
 cases r
 obtain⟨its,rv,ht,hz⟩:=I.tuple hq
 refine assign_Tuple_tuple (I.ok.hd hc) ht (by simp[hn,<- hl,rv.length]) hst fun h' hx=>?_
 have I1:Inv X pins σ H { s with heap:=h' }:=I.kept (t':=s.toks) fun b o e=>hx b o (Nat.ne_of_lt (Heap.lt_size e)) e
 exact h pins _ σ H xs _ Q I1 (by simpa using rv) hw
noncomputable def gSub (to ti:TE) (t:rS):TG:=fun v σ H Q=>to σ H fun o H1=>ti σ H1 fun i H2=>t o i v H2 fun H3=>Q σ H3
theorem hG {o i:Expr}{to ti:TE}{t:rS} (ho:PE X o to) (hi:PE X i ti) (hs:tI X t)
  (ha:∀ v,assign (.Subscript o i pos) X.env v=(do
   let ov <- holding [v] (eval o X.env)
   let iv <- holding [v,ov] (eval i X.env)
   standAt pos
   holding [v,ov,iv] (setItem ov iv v)
   release [v,ov,iv] []):=by intro _; rfl):PG X (.Subscript o i pos) (gSub to ti t):=by
 intro pins s σ H v u Q I r h
 rw[ha]
 refine wpAny_bind (wpAny_holding (thn (ho pins s σ H _ I h) fun ov s1 ⟨x,H1,I1,r1,q1⟩=>?_))
 refine wpAny_bind (wpAny_holding (thn (hi pins s1 σ H1 _ I1 q1) fun iv s2 ⟨y,H2,I2,r2,q2⟩=>?_))
 refine wpAny_bind (wpAny_standAt (wpAny_bind (wpAny_holding (thn (hs pins s2 σ H2 x y v ov iv u _ I2 r1 r2 r q2) fun _ s3 ⟨H3,I3,q3⟩=>?_))))
 exact wpAny_release ⟨σ,H3,I3,q3⟩
noncomputable def nH (te:TE) (g:TG):TS:=fun D σ H=>te σ H fun x H1=>g x σ H1 D.nx
theorem bK {tg e:Expr}{te:TE}{g:TG} (he:PE X e te) (hg:PG X tg g) (hs:swapsWithSole [tg] e pos.line X.env=pure false:=by rfl) (hw:swappedStores [tg] e X.env=pure none:=by rfl)
  (h1:(assignEach [tg] X.env).map (·.2)=[assign tg X.env]:=by rfl):PS X (.Assign [tg] e pos) (nH te g):=by
 intro pins s σ H D I h
 refine wpAny_Assign_stores (thn (he pins s σ H _ I h) fun v s1 ⟨x,H1,I1,r1,q1⟩=>?_) hs hw
 rw[h1]
 exact thn (hg pins s1 σ H1 x v _ I1 r1 q1) fun _ s2 q=>q
theorem ax {i:Nat}{x:Str}{te:TE}{pos':Pos} (hN:X.N.Nodup) (hi:X.N[i]?=some x) (hx:Loc X.env.scope x) (he:PE X e te) (hs:swapsWith e (some (.Name x pos')) pos.line X.env=pure false:=by rfl) (hf:X.fn x=true∨X.env.scope.names.lookup x=some .local:=by first | exact .inl rfl | exact .inr rfl | assumption) :
  PS X (.Assign [.Name x pos'] e pos) (nH te (eL i)):=by
 intro pins s σ H D I h
 refine wpAny_Assign_Name (thn (he pins s σ H _ I h) fun v s1 ⟨y,H1,I1,r1,q1⟩=>?_) hs
 exact fB I1 hN hi hx r1 (fun s2 I2=>⟨_,H1,I2,q1⟩) hf
noncomputable def tAug (i:Nat) (te:TE) (ti:TIp):TS:=fun D σ H=>∃ x,σ[i]?=some (some x)/\te σ H fun y H1=>ti x y H1 fun z H2=>D.nx (σ.set i (some z)) H2
theorem qy {i:Nat}{x:Str}{te:TE}{op:Operator}{ti:TIp}{pos':Pos} (hN:X.N.Nodup) (hi:X.N[i]?=some x) (hx:Loc X.env.scope x) (he:PE X e te) (ho:PIp X op ti) (hf:X.fn x=true∨X.env.scope.names.lookup x=some .local:=by first | exact .inl rfl | exact .inr rfl | assumption) :
  PS X (.AugAssign (.Name x pos') op e pos) (tAug i te ti):=by
 intro pins s σ H D I h
 obtain⟨v,e1,h⟩:=h
 obtain⟨m,hn,hl⟩:=I.loc
 have vis:Vis X.env.scope x:=by rcases hx with k | k; exact .inl k; exact .inr (.inl k)
 obtain⟨u,r,l⟩:=hl i x v hi e1 vis
 refine wpAny_AugAssign_Name ?_
 have go:wpAny (model X.prog X.w) X.A (eval e X.env) (fun w s₂=>wpAny (model X.prog X.w) X.A (inplaceOp op u w) (fun r s₃=>wpAny (model X.prog X.w) X.A (storeName X.env x r) (fun _=>SP X pins D .next) X.xe s₃) X.xe s₂) X.xe s:=by
  refine thn (he pins s σ H _ I h) fun w s1 ⟨y,H1,I1,r1,q1⟩=>?_
  refine thn (ho pins s1 σ H1 v y u w _ I1 r r1 q1) fun z s2 ⟨zv,H2,I2,r2,q2⟩=>?_
  exact fB I2 hN hi hx r2 (fun s3 I3=>⟨_,H2,I3,q2⟩) hf
 rcases l with ⟨hk,hm⟩ | ⟨hk,c,hc,hcell⟩
 ·exact wpAny_loadName_local I.ok.kind hk hn hm go
 ·rcases hk with hk | hk
  ·exact wpAny_loadName_cell I.ok.kind hk hc hcell go
  ·rcases hx with k | k
   ·have:X.env.scope.names.lookup x=some .free:=hk
    rw[k] at this; cases this
   ·have:X.env.scope.names.lookup x=some .free:=hk
    rw[k] at this; cases this
noncomputable def ipI (f:Int->Int->Int):TIp:=fun x y H Q=>∃ i j,x=.int i/\y=.int j/\Q (.int (f i j)) H
theorem rF:PIp X .Add (ipI fun i j=>i+j):=by
 intro pins s σ H x y v u Q I r1 r2 h
 obtain⟨i,j,e1,e2,q⟩:=h
 subst e1; subst e2
 obtain⟨t,rfl⟩:=r1
 obtain⟨t',rfl⟩:=r2
 exact iadd_int ⟨.int _,H,I.tok _,⟨_,U⟩,q⟩
end
variable{tb:TS}
section
variable {X:Cx}{pos:Pos}
noncomputable def k9 (c:TT) (tb:TS):TS:=fun D σ H=>∃ W:Nat->St->Hp->Prop,(∃ m,W m σ H)/\∀ m σ H,W m σ H ->
 c σ H fun b H1=>if b=true then ∃ N:St->Hp->Prop,(∀ σ' H',N σ' H'->∃ m',m'<m/\W m' σ' H')/\tb { D with nx:=N,ct:=N,bk:=D.nx } σ H1 else D.nx σ H1
theorem dG {c:Expr}{body:List Stmt}{tc:TT} (hp:PassesOwn (model X.prog X.w) X.A X.env X.xe) (hc:PT X c tc) (hb:PSs X body tb):PS X (.While c body [] pos) (k9 tc tb):=by
 intro pins s σ H D I h
 obtain⟨W,⟨m0,w0⟩,turn⟩:=h
 refine wpAny_While (codeAny_whileLoop (fun n s'=>∃ σ' H',Inv X pins σ' H' s'/\W n σ' H') ?_ m0 ⟨σ,H,I,w0⟩)
 rintro n s1 ⟨σ1,H1,I1,w1⟩
 refine wpAny_passesOwn hp (thn (hc pins s1 σ1 H1 _ I1 (turn n σ1 H1 w1)) fun b s2 ⟨H2,I2,q2⟩=>?_)
 cases b with
 | true=>
  obtain⟨N,hN,q2⟩:=q2
  rw[if_pos rfl]
  refine wpAny_passesOwn hp (thn (hb pins s2 σ1 H2 _ I2 q2) fun f s3 q3=>?_)
  cases f with
  | next=>
   obtain⟨σ3,H3,I3,n3⟩:=q3
   obtain⟨m',hm,w3⟩:=hN σ3 H3 n3
   exact⟨m',hm,σ3,H3,I3,w3⟩
  | cont=>
   obtain⟨σ3,H3,I3,n3⟩:=q3
   obtain⟨m',hm,w3⟩:=hN σ3 H3 n3
   exact⟨m',hm,σ3,H3,I3,w3⟩
  | brk=>exact q3
  | ret v=>exact q3
 | false=>
  rw[if_neg Bool.false_ne_true]
  exact wpAny_execs_nil ⟨σ1,H2,I2,q2⟩
end
structure It where
 go:Nat->Hp->Prop
 yld:Nat->Hp->V->Hp->Prop
 stop:Nat->Hp->Prop
noncomputable def c6 (X:Cx) (pins:List (Addr×Obj)) (H:Hp) (b:Addr):Prop :=
 H b=none/\b≠X.env.locals/\b ∉ X.fs/\(b ∈ X.ex∨X.s₀.heap.objs.size<=b)/\(∀ x c,X.env.cells.lookup x=some c->c≠b)/\∀ p ∈ X.pn++pins,p.1≠b
theorem Inv.fpOk {X:Cx}{H H':Hp}{b:Addr} (I:Inv X pins σ H s) (hb:s.heap.objs.size<=b) (hn:H' b=none):c6 X pins H' b:=by
 refine⟨hn,Nat.ne_of_gt (Nat.lt_of_lt_of_le I.lt hb),I.nofs hb,.inr (Nat.le_trans I.sz hb),fun x c e z=>?_,fun p hp z=>?_⟩
 ·obtain⟨v,q⟩:=I.cell x c e
  exact absurd (Nat.lt_of_lt_of_le q.lt (by rw[z]; exact hb)) (Nat.lt_irrefl _)
 ·exact absurd (Nat.lt_of_lt_of_le (Heap.lt_size (I.pin p hp).1) (by rw[z]; exact hb)) (Nat.lt_irrefl _)
structure Turn (P:Program) (w:World) (K:PySem.W.Frag) (tg:Expr) (J:It) (fp:List Addr) (it:Addr) (tn:Nat->Heap->Prop):Prop where
 mem:it ∈ fp
 obj:∀ i h,tn i h->∀ b ∈ fp,∃ o,h.get? b=some o/\∀ v,o.data≠.cell v
 keep:∀ i h h',tn i h->(∀ b ∈ fp,∀ o,h.get? b=some o->h'.get? b=some o)->tn i h'
 item:∀ (X:Cx),X.prog=P->X.w=w->X.K=K->X.calm=true->∀ (i:Nat) (pins:List (Addr×Obj)) (s:Shared) (σ:St) (H:Hp) (E:Value->Shared->Prop),Inv X pins σ H s->(∀ b ∈ fp,c6 X pins H b)->tn i s.heap->J.go i H ->
  wpAny (model P w) X.A (pyNext (.ref it)) (fun r s1=>∃ u,r=some u /\
   wpAny (model P w) X.A (letOwnedTupleGo tg (.ref it) u) (fun _ s2=>∃ x H',Inv X pins σ H' s2/\RelV x u/\J.yld i H x H'/\tn (i+1) s2.heap/\∀ b ∈ fp,H' b=none) E s1) E s
 done:∀ (X:Cx),X.prog=P->X.w=w->X.K=K->X.calm=true->∀ (i:Nat) (pins:List (Addr×Obj)) (s:Shared) (σ:St) (H:Hp) (E:Value->Shared->Prop),Inv X pins σ H s->(∀ b ∈ fp,c6 X pins H b)->tn i s.heap->J.stop i H ->
  wpAny (model P w) X.A (pyNext (.ref it)) (fun r s1=>r=none/\Inv X pins σ H s1) E s
 self:∀ (A:Around) (i:Nat) (s:Shared) (Q:Value->Shared->Prop) (E:Value->Shared->Prop),tn i s.heap->Q (.ref it) s->wpAny (model P w) A (pyIter (.ref it)) Q E s
noncomputable abbrev TI:=St->Hp->(It->Hp->Prop)->Prop
noncomputable def PIE (X:Cx) (pins:List (Addr×Obj)) (σ:St) (tg:Expr) (R:It->Hp->Prop) (itv:Value) (s2:Shared):Prop :=
 ∃ (it:Addr) (fp:List Addr) (tn:Nat->Heap->Prop) (J:It) (H':Hp),itv=.ref it/\Inv X pins σ H' s2/\Turn X.prog X.w X.K tg J fp it tn/\tn 0 s2.heap/\(∀ b ∈ fp,c6 X pins H' b)/\R J H'
noncomputable def PI (X:Cx) (tg iter:Expr) (wi:TI):Prop :=
 ∀ (pins:List (Addr×Obj)) (s:Shared) (σ:St) (H:Hp) (R:It->Hp->Prop),Inv X pins σ H s->wi σ H R ->
  wpAny (model X.prog X.w) X.A (eval iter X.env) (fun v s1=>wpAny (model X.prog X.w) X.A (pyIter v) (PIE X pins σ tg R) X.xe s1) X.xe s
theorem jQ {M : Model}{A : Around}{E : Value->Shared->Prop}{s : Shared}{tg : Expr}{it : Addr}{u : Value}{o : Obj}{n : String}{vs : Array Value}{Q : Unit->Shared->Prop} (ho : s.heap.get? it=some o) (hc : o.cls=.type n) (hd : o.data=.fields vs)
    (hn : ["enumerate", "zip", "dict_itemiterator", "dict_reverseitemiterator", "odict_iterator", "itertools.zip_longest", "itertools.pairwise"].contains n=false) (hQ : Q () s) : wpAny M A (letOwnedTupleGo tg (.ref it) u) Q E s := by
  unfold letOwnedTupleGo
  cases tg <;> first
    | exact wpAny_pure hQ
    | (cases u <;> first
        | exact wpAny_pure hQ
        | (refine wpAny_bind (wpAny_load ho ?_)
           rw[hc, hd]
           show wpAny M A (if (["enumerate", "zip", "dict_itemiterator", "dict_reverseitemiterator", "odict_iterator", "itertools.zip_longest", "itertools.pairwise"].contains n && vs[0]? == some (rawInt _))=true then _ else _) Q E s
           rw[if_neg (by intro h; rw[hn, Bool.false_and] at h; cases h)]
           exact wpAny_pure hQ))
noncomputable def Itl (K:PySem.W.Frag) (a:Addr):It :=
 ⟨fun i H=>∃ xs x,SqL K H a xs/\xs[i]?=some x,fun i H x H'=>H'=H/\∀ xs,SqL K H a xs->xs[i]?=some x,fun i H=>∃ xs,SqL K H a xs/\xs.length<=i⟩
noncomputable def Itt (K:PySem.W.Frag) (a:Addr):It :=
 ⟨fun i H=>∃ xs x,SqT K H a xs/\xs[i]?=some x,fun i H x H'=>H'=H/\∀ xs,SqT K H a xs->xs[i]?=some x,fun i H=>∃ xs,SqT K H a xs/\xs.length<=i⟩
noncomputable def Itr (lo:Int) (n:Nat):It:=⟨fun i _=>i<n,fun i H x H'=>H'=H/\x=.int (lo+i),fun i _=>n<=i⟩
theorem j3 {w:World}{tg:Expr} (a it:Addr):Turn P w K tg (Itl K a) [it] it (fun i h=>h.IsListIter it a i) where
 mem:=by simp
 obj:=fun i h st b hb=>by
  have e:b=it:=by simpa using hb
  subst e
  obtain⟨o,e,c,d⟩:=st
  exact⟨o,e,fun v z=>by rw[d] at z; cases z⟩
 keep:=fun i h h' st k=>st.at fun o e=>k it (by simp) o e
 item:=by
  intro X hP hw hK hc i pins s σ H E I hf st hg
  subst hP hw hK
  obtain⟨xs,x,hq,hx⟩:=hg
  obtain⟨its,rv,p,hz⟩:=I.list hq
  obtain⟨u,hu,ru⟩:=rv.get hx
  obtain⟨f0,f1,f2,f3,f4,f5⟩:=hf it (by simp)
  refine wpAny_pyNext_list_item st p.isList (x:=u) (by simpa using hu) fun h' st' sb=>?_
  have I1:Inv X pins σ H { s with heap:=h' }:=I.turned (t':=s.toks) (fun b o hb e=>(sb.2 b hb).trans e) f0 f1 f3 f4 f5
  obtain⟨o,e,c,d⟩:=id st'
  exact⟨u,U,jQ (s:={ s with heap:=h' }) e c d (by decide) ⟨x,H,I1,ru,⟨U,fun ys hy=>by rw[I.list_inj hy hq]; exact hx⟩,st',fun b hb=>(hf b hb).1⟩⟩
 done:=by
  intro X hP hw hK hc i pins s σ H E I hf st hg
  subst hP hw hK
  obtain⟨xs,hq,hx⟩:=hg
  obtain⟨its,rv,p,hz⟩:=I.list hq
  obtain⟨f0,f1,f2,f3,f4,f5⟩:=hf it (by simp)
  have hl:=rv.length
  exact wpAny_pyNext_list_end (I.ok.hd hc) st p.isList (by simp; omega) fun h' eb=>⟨U,I.turned (t':=s.toks) (fun b o hb e=>eb b o hb e) f0 f1 f3 f4 f5⟩
 self:=fun _ _ _ _ _ st h=>wpAny_pyIter_listiter st h
theorem i9 {w:World}{tg:Expr} (a it:Addr):Turn P w K tg (Itt K a) [it] it (fun i h=>h.IsTupleIter it a i) where
 mem:=by simp
 obj:=fun i h st b hb=>by
  have e:b=it:=by simpa using hb
  subst e
  obtain⟨o,e,c,d⟩:=st
  exact⟨o,e,fun v z=>by rw[d] at z; cases z⟩
 keep:=fun i h h' st k=>st.at fun o e=>k it (by simp) o e
 item:=by
  intro X hP hw hK hc i pins s σ H E I hf st hg
  subst hP hw hK
  obtain⟨xs,x,hq,hx⟩:=hg
  obtain⟨its,rv,p,hz⟩:=I.tuple hq
  obtain⟨u,hu,ru⟩:=rv.get hx
  obtain⟨f0,f1,f2,f3,f4,f5⟩:=hf it (by simp)
  refine wpAny_pyNext_tuple_item st (show s.heap.IsTuple a its.toArray from p) (x:=u) (by simpa using hu) fun h' st' sb=>?_
  have I1:Inv X pins σ H { s with heap:=h' }:=I.turned (t':=s.toks) (fun b o hb e=>(sb.2 b hb).trans e) f0 f1 f3 f4 f5
  obtain⟨o,e,c,d⟩:=id st'
  exact⟨u,U,jQ (s:={ s with heap:=h' }) e c d (by decide) ⟨x,H,I1,ru,⟨U,fun ys hy=>by rw[I.tuple_inj hy hq]; exact hx⟩,st',fun b hb=>(hf b hb).1⟩⟩
 done:=by
  intro X hP hw hK hc i pins s σ H E I hf st hg
  subst hP hw hK
  obtain⟨xs,hq,hx⟩:=hg
  obtain⟨its,rv,p,hz⟩:=I.tuple hq
  obtain⟨f0,f1,f2,f3,f4,f5⟩:=hf it (by simp)
  have hl:=rv.length
  exact wpAny_pyNext_tuple_end (I.ok.hd hc) st (show s.heap.IsTuple a its.toArray from p) (by simp; omega) fun h' eb=>⟨U,I.turned (t':=s.toks) (fun b o hb e=>eb b o hb e) f0 f1 f3 f4 f5⟩
 self:=fun _ _ _ _ _ st h=>wpAny_pyIter_tupleiter st h
theorem ja {w:World}{tg:Expr} (it:Addr) (lo:Int) (n:Nat):Turn P w K tg (Itr lo n) [it] it (fun i h=>IsRangeIter h it (lo+(i:Nat)*1) ((n:Int) - (i:Nat)) 1) where
 mem:=by simp
 obj:=fun i h st b hb=>by
  have e:b=it:=by simpa using hb
  subst e
  exact⟨_,st,fun v z=>by
   have z':Data.fields _=Data.cell v:=z
   cases z'⟩
 keep:=fun i h h' st k=>k it (by simp) _ st
 item:=by
  intro X hP hw hK hc i pins s σ H E I hf st hg
  subst hP hw hK
  obtain⟨f0,f1,f2,f3,f4,f5⟩:=hf it (by simp)
  have W:=Walks.range (prog:=X.prog) (w:=X.w) (I.ok.hd hc) it lo 1 n
  refine W.item i s _ _ hg st fun v h' tk hv st' kk=>?_
  obtain⟨t,rfl⟩:=hv
  have I1:Inv X pins σ H { s with heap:=h',toks:=tk }:=I.turned (fun b o hb e=>kk b o (by simpa using hb) e) f0 f1 f3 f4 f5
  refine⟨_,U,jQ (s:={ s with heap:=h',toks:=tk }) (n := "range_iterator") st' rfl rfl (by decide) ⟨.int (lo+i),H,I1,⟨t,?_⟩,⟨U,U⟩,st',fun b hb=>(hf b hb).1⟩⟩
  rw[Int.mul_one]
 done:=by
  intro X hP hw hK hc i pins s σ H E I hf st hg
  subst hP hw hK
  obtain⟨f0,f1,f2,f3,f4,f5⟩:=hf it (by simp)
  exact wpAny_pyNext_range_end (I.ok.hd hc) st (by have:n<=i:=hg; omega) fun h' eb=>⟨U,I.turned (t':=s.toks) (fun b o hb e=>eb b o hb e) f0 f1 f3 f4 f5⟩
 self:=fun _ _ _ _ _ st h=>wpAny_pyIter_rangeiter st h
section
variable {X:Cx}{tg:Expr}
noncomputable def iList (K:PySem.W.Frag) (tl:TE):TI:=fun σ H R=>tl σ H fun x H1=>∃ a,x=.ref a/\(∃ xs,SqL K H1 a xs)/\R (Itl K a) H1
noncomputable def iTup (K:PySem.W.Frag) (tl:TE):TI:=fun σ H R=>tl σ H fun x H1=>∃ a,x=.ref a/\(∃ xs,SqT K H1 a xs)/\R (Itt K a) H1
theorem bG {l:Expr}{tl:TE} (hl:PE X l tl):PI X tg l (iList X.K tl):=by
 intro pins s σ H R I h
 refine thn (hl pins s σ H _ I h) fun v s1 ⟨x,H1,I1,r1,q1⟩=>?_
 obtain⟨a,e,⟨xs,hq⟩,q⟩:=q1
 subst e
 cases r1
 obtain⟨its,rv,p,hz⟩:=I1.list hq
 refine wpAny_pyIter_list p.isList ?_
 refine⟨s1.heap.objs.size,[s1.heap.objs.size],_,_,H1,U,I1.kept (t':=s1.toks) fun b o e=>Heap.get?_push_of_some _ e,j3 a _,⟨_,Heap.get?_push_size _ rfl,U,U⟩,fun b hb=>?_,q⟩
 have e:b=s1.heap.objs.size:=by simpa using hb
 subst e
 exact I1.fpOk (Nat.le_refl _) (I1.hok.fresh (Nat.le_refl _))
theorem qz {l:Expr}{tl:TE} (hl:PE X l tl):PI X tg l (iTup X.K tl):=by
 intro pins s σ H R I h
 refine thn (hl pins s σ H _ I h) fun v s1 ⟨x,H1,I1,r1,q1⟩=>?_
 obtain⟨a,e,⟨xs,hq⟩,q⟩:=q1
 subst e
 cases r1
 obtain⟨its,rv,p,hz⟩:=I1.tuple hq
 refine wpAny_pyIter_tuple (show s1.heap.IsTuple a its.toArray from p) ?_
 refine⟨s1.heap.objs.size,[s1.heap.objs.size],_,_,H1,U,I1.kept (t':=s1.toks) fun b o e=>Heap.get?_push_of_some _ e,i9 a _,⟨_,Heap.get?_push_size _ rfl,U,U⟩,fun b hb=>?_,q⟩
 have e:b=s1.heap.objs.size:=by simpa using hb
 subst e
 exact I1.fpOk (Nat.le_refl _) (I1.hok.fresh (Nat.le_refl _))
theorem lM {R:It->Hp->Prop}{lo hi:Int}{t u v:Tok}{tk:Nat} (I:Inv X pins σ H s) (h1:-(2 ^ 62)<=lo) (h2:lo<2 ^ 62) (h3:-(2 ^ 62)<=hi) (h4:hi<2 ^ 62)
  (q:R (Itr lo (hi - lo).toNat) H):wpAny (model X.prog X.w) X.A (pyIter (.ref s.heap.objs.size)) (PIE X pins σ tg R) E { s with heap:=s.heap.push { cls:=.type "range",data:=.fields #[.int lo t,.int hi u,.int 1 v] },toks:=tk }:=by
 refine wpAny_pyIter_range (IsRange.new ..) (small_one h1 h2 h3 h4) ?_
 have I1:Inv X pins σ H { s with heap:=s.heap.push { cls:=.type "range",data:=.fields #[.int lo t,.int hi u,.int 1 v] },toks:=tk }:=I.kept fun b o e=>Heap.get?_push_of_some _ e
 refine⟨(s.heap.push { cls:=.type "range",data:=.fields #[.int lo t,.int hi u,.int 1 v] }).objs.size,[(s.heap.push { cls:=.type "range",data:=.fields #[.int lo t,.int hi u,.int 1 v] }).objs.size],_,_,H,U,
  I1.kept (t':=tk) fun b o e=>Heap.get?_push_of_some _ e,ja _ lo (hi - lo).toNat,?_,fun b hb=>?_,q⟩
 ·have e1:lo+((0:Nat):Int)*1=lo:=by simp
  have e2:(((hi - lo).toNat:Nat):Int) - ((0:Nat):Int)=Builtin.Range.rangeSize lo hi 1:=by rw[rangeSize_one]; split <;> omega
  show IsRangeIter _ _ (lo+((0:Nat):Int)*1) ((((hi - lo).toNat:Nat):Int) - ((0:Nat):Int)) 1
  rw[e1,e2]
  exact Heap.get?_push_size _ rfl
 ·have e:b=(s.heap.push { cls:=.type "range",data:=.fields #[.int lo t,.int hi u,.int 1 v] }).objs.size:=by simpa using hb
  subst e
  exact I1.fpOk (Nat.le_refl _) (I1.hok.fresh (Nat.le_refl _))
noncomputable def iRng1 (ta:TA):TI:=fun σ H R=>ta σ H fun vs H1=>∃ j:Int,vs=[.int j]/\-(2 ^ 62)<=j/\j<2 ^ 62/\R (Itr 0 j.toNat) H1
theorem bh {a:Expr}{ta:TA}{p pos:Pos} (hg:Gl X "range") (hm:X.mg "range" = none) (ha:PA X [a] ta) (hs:starEach [a] X.env=[(false,eval a X.env)]:=by rfl):PI X tg (.Call (.Name "range" p) [a] [] pos) (iRng1 ta):=by
 intro pins s σ H R I h
 refine Call_ (cR I hg hm boot_range (PyProof.Rows.callWith_type1 (thn (ha pos pins s σ H _ I h) fun us s1 ⟨vs,H1,I1,r1,q1⟩=>?_) hs rfl))
 obtain⟨j,e,q1,q2,q⟩:=q1
 subst e
 cases r1 with
 | cons r rr=>
  cases rr
  obtain⟨t,rfl⟩:=r
  exact call_range_1 (lM I1 (by omega) (by omega) q1 q2 (by simpa using q))
noncomputable def tFor (wi:TI) (g:TG) (tb:TS):TS:=fun D σ H=>wi σ H fun J H1=>∃ W:Nat->Nat->St->Hp->Prop,(∃ m,W 0 m σ H1)/\∀ i m σ H,W i m σ H ->
 (J.stop i H/\D.nx σ H)∨(J.go i H/\∃ N:St->Hp->Prop,(∀ σ' H',N σ' H'->∃ m',m'<m/\W (i+1) m' σ' H')/\∀ x H',J.yld i H x H'->g x σ H' fun σ2 H2=>tb { D with nx:=N,ct:=N,bk:=D.nx } σ2 H2)
noncomputable def d6 (fp:List Addr) (h:Heap):List (Addr×Obj):=fp.filterMap fun b=>(h.get? b).map fun o=>(b,o)
theorem bD {fp:List Addr}{b:Addr}{o:Obj} (hb:b ∈ fp) (e:h.get? b=some o):(b,o) ∈ d6 fp h:=List.mem_filterMap.mpr ⟨b,hb,by rw[e]; rfl⟩
theorem kh {fp:List Addr}{p:Addr×Obj} (hp:p ∈ d6 fp h):p.1 ∈ fp/\h.get? p.1=some p.2:=by
 obtain⟨b,hb,e⟩:=List.mem_filterMap.mp hp
 cases q:h.get? b with
 | none=>rw[q] at e; cases e
 | some o=>
  rw[q] at e
  have e':(b,o)=p:=Option.some.inj e
  subst e'
  exact⟨hb,q⟩
theorem Inv.pinned {fp:List Addr} (I:Inv X pins σ H s) (hf:∀ b ∈ fp,c6 X pins H b) (ho:∀ b ∈ fp,∃ o,s.heap.get? b=some o/\∀ v,o.data≠.cell v):Inv X (pins++d6 fp s.heap) σ H s :=
 I.pins_of fun p hp=>(tV.mp hp).elim (fun z=>I.pin p (tL _ z)) fun z=>by
  obtain⟨hb,e⟩:=kh z
  obtain⟨f0,f1,f2,_⟩:=hf p.1 hb
  obtain⟨o,e',d⟩:=ho p.1 hb
  rw[e] at e'; cases e'
  exact⟨e,f0,f1,f2,d⟩
theorem Inv.unpinned {pins pl:List (Addr×Obj)} (I:Inv X (pins++pl) σ H s):Inv X pins σ H s:=I.pins_of fun p hp=>I.pin p (tL _ (tQ _ hp))
theorem bi {iter:Expr}{body:List Stmt}{wi:TI}{g:TG} (hp:PassesOwn (model X.prog X.w) X.A X.env X.xe) (hc:X.calm=true) (hi:PI X tg iter wi) (hg:PG X tg g) (hb:PSs X body tb)
  (hs:∀ x,foldedSetIterable iter X.env x=pure x:=by intro _; rfl):PS X (.For tg iter body [] pos) (tFor wi g tb):=by
 intro pins s σ H D I h
 refine wpAny_For (thn (hi pins s σ H _ I h) fun v s1 h1=>thn h1 fun itv s2 h2=>?_) hs
 obtain⟨it,fp,tn,J,H2,e,I2,T,st2,f2,W,⟨m0,w0⟩,turn⟩:=h2
 subst e
 have stat:∀ {H':Hp},(∀ b ∈ fp,H' b=none)->∀ b ∈ fp,c6 X pins H' b:=fun hn b hb=>⟨hn b hb,(f2 b hb).2⟩
 refine codeAny_forLoop_any (fun n s'=>∃ i σ' H',Inv X pins σ' H' s'/\tn i s'.heap/\(∀ b ∈ fp,H' b=none)/\W i n σ' H') ?_ m0 ⟨0,σ,H2,I2,st2,fun b hb=>(f2 b hb).1,w0⟩
 rintro n s3 ⟨i,σ3,H3,I3,st3,fr3,w3⟩
 rcases turn i n σ3 H3 w3 with ⟨stop,qn⟩ | ⟨go,N,hN,step⟩
 ·refine wpAny_passesOwn hp (thn (T.done X rfl rfl rfl hc i pins s3 σ3 H3 X.xe I3 (stat fr3) st3 stop) fun r s4 ⟨hr,I4⟩=>?_)
  subst hr
  exact wpAny_execs_nil ⟨σ3,H3,I4,qn⟩
 ·refine wpAny_passesOwn hp (thn (T.item X rfl rfl rfl hc i pins s3 σ3 H3 X.xe I3 (stat fr3) st3 go) fun r s4 ⟨u,hr,h4⟩=>?_)
  subst hr
  refine wpAny_passesOwn hp (thn h4 fun _ s5 ⟨x,H5,I5,r5,y5,st5,fr5⟩=>?_)
  have I5':=I5.pinned (stat fr5) (T.obj _ _ st5)
  refine wpAny_passesOwn hp (thn (hg _ s5 σ3 H5 x u _ I5' r5 (step x H5 y5)) fun _ s6 ⟨σ6,H6,I6,q6⟩=>?_)
  refine wpAny_passesOwn hp (thn (hb _ s6 σ6 H6 _ I6 q6) fun f s7 q7=>?_)
  have again:∀ {σ7:St}{H7:Hp},Inv X (pins++d6 fp s5.heap) σ7 H7 s7->N σ7 H7->∃ m,m<n/\∃ i σ' H',Inv X pins σ' H' s7/\tn i s7.heap/\(∀ b ∈ fp,H' b=none)/\W i m σ' H':=fun {σ7 H7} I7 n7=>by
   obtain⟨m',hm,w7⟩:=hN σ7 H7 n7
   refine⟨m',hm,i+1,σ7,H7,I7.unpinned,T.keep _ _ _ st5 fun b hb o e=>(I7.pin (b,o) (tL _ (tL _ (bD hb e)))).1,fun b hb=>?_,w7⟩
   obtain⟨o,e,d⟩:=T.obj _ _ st5 b hb
   exact(I7.pin (b,o) (tL _ (tL _ (bD hb e)))).2.1
  cases f with
  | next=>obtain⟨σ7,H7,I7,n7⟩:=q7; exact again I7 n7
  | cont=>obtain⟨σ7,H7,I7,n7⟩:=q7; exact again I7 n7
  | brk=>obtain⟨σ7,H7,I7,q7⟩:=q7; exact⟨σ7,H7,I7.unpinned,q7⟩
  | ret v=>obtain⟨x7,σ7,H7,I7,r7,q7⟩:=q7; exact⟨x7,σ7,H7,I7.unpinned,r7,q7⟩
end
theorem cU {K:PySem.W.Frag}{a:Addr}{xs:List V}{g:TG}{D:Ends} (Pv:Nat->St->Hp->Prop) (h0:Pv 0 σ H) (hl:∀ i σ H,i<=xs.length->Pv i σ H->SqL K H a xs)
  (hs:∀ i x σ H,xs[i]?=some x->Pv i σ H->g x σ H fun σ2 H2=>tb { D with nx:=Pv (i+1),ct:=Pv (i+1),bk:=D.nx } σ2 H2) (hd:∀ σ H,Pv xs.length σ H->D.nx σ H) :
  ∃ W:Nat->Nat->St->Hp->Prop,(∃ m,W 0 m σ H)/\∀ i m σ H,W i m σ H ->
   ((Itl K a).stop i H/\D.nx σ H)∨((Itl K a).go i H/\∃ N:St->Hp->Prop,(∀ σ' H',N σ' H'->∃ m',m'<m/\W (i+1) m' σ' H')/\∀ x H',(Itl K a).yld i H x H'->g x σ H' fun σ2 H2=>tb { D with nx:=N,ct:=N,bk:=D.nx } σ2 H2):=by
 refine⟨fun i m σ H=>m=xs.length - i/\i<=xs.length/\Pv i σ H,⟨xs.length,by simp,Nat.zero_le _,h0⟩,?_⟩
 rintro i m σ H ⟨rfl,hi,p⟩
 have q:=hl i σ H hi p
 by_cases hlt:i<xs.length
 ·refine .inr ⟨⟨xs,xs[i],q,by simp[hlt]⟩,Pv (i+1),fun σ' H' p'=>⟨xs.length - (i+1),by omega,U,hlt,p'⟩,fun x H' y=>?_⟩
  obtain⟨e,y⟩:=y
  subst e
  exact hs i x σ _ (y xs q) p
 ·have e:i=xs.length:=by omega
  subst e
  exact .inl ⟨⟨xs,q,Nat.le_refl _⟩,hd σ H p⟩
theorem og {a:Addr}{xs:List V}{g:TG}{D:Ends} (Pv:Nat->St->Hp->Prop) (h0:Pv 0 σ H) (hl:∀ i σ H,i<=xs.length->Pv i σ H->SqT K H a xs)
  (hs:∀ i x σ H,xs[i]?=some x->Pv i σ H->g x σ H fun σ2 H2=>tb { D with nx:=Pv (i+1),ct:=Pv (i+1),bk:=D.nx } σ2 H2) (hd:∀ σ H,Pv xs.length σ H->D.nx σ H) :
  ∃ W:Nat->Nat->St->Hp->Prop,(∃ m,W 0 m σ H)/\∀ i m σ H,W i m σ H ->
   ((Itt K a).stop i H/\D.nx σ H)∨((Itt K a).go i H/\∃ N:St->Hp->Prop,(∀ σ' H',N σ' H'->∃ m',m'<m/\W (i+1) m' σ' H')/\∀ x H',(Itt K a).yld i H x H'->g x σ H' fun σ2 H2=>tb { D with nx:=N,ct:=N,bk:=D.nx } σ2 H2):=by
 refine⟨fun i m σ H=>m=xs.length - i/\i<=xs.length/\Pv i σ H,⟨xs.length,by simp,Nat.zero_le _,h0⟩,?_⟩
 rintro i m σ H ⟨rfl,hi,p⟩
 have q:=hl i σ H hi p
 by_cases hlt:i<xs.length
 ·refine .inr ⟨⟨xs,xs[i],q,by simp[hlt]⟩,Pv (i+1),fun σ' H' p'=>⟨xs.length - (i+1),by omega,U,hlt,p'⟩,fun x H' y=>?_⟩
  obtain⟨e,y⟩:=y
  subst e
  exact hs i x σ _ (y xs q) p
 ·have e:i=xs.length:=by omega
  subst e
  exact .inl ⟨⟨xs,q,Nat.le_refl _⟩,hd σ H p⟩
theorem bB {lo:Int}{n:Nat}{g:TG}{D:Ends} (Pv:Nat->St->Hp->Prop) (h0:Pv 0 σ H)
  (hs:∀ i σ H,i<n->Pv i σ H->g (.int (lo+i)) σ H fun σ2 H2=>tb { D with nx:=Pv (i+1),ct:=Pv (i+1),bk:=D.nx } σ2 H2) (hd:∀ σ H,Pv n σ H->D.nx σ H) :
  ∃ W:Nat->Nat->St->Hp->Prop,(∃ m,W 0 m σ H)/\∀ i m σ H,W i m σ H ->
   ((Itr lo n).stop i H/\D.nx σ H)∨((Itr lo n).go i H/\∃ N:St->Hp->Prop,(∀ σ' H',N σ' H'->∃ m',m'<m/\W (i+1) m' σ' H')/\∀ x H',(Itr lo n).yld i H x H'->g x σ H' fun σ2 H2=>tb { D with nx:=N,ct:=N,bk:=D.nx } σ2 H2):=by
 refine⟨fun i m σ H=>m=n - i/\i<=n/\Pv i σ H,⟨n,by simp,Nat.zero_le _,h0⟩,?_⟩
 rintro i m σ H ⟨rfl,hi,p⟩
 by_cases hlt:i<n
 ·refine .inr ⟨hlt,Pv (i+1),fun σ' H' p'=>⟨n - (i+1),by omega,U,hlt,p'⟩,fun x H' y=>?_⟩
  obtain⟨e,y⟩:=y
  subst e y
  exact hs i σ _ hlt p
 ·have e:i=n:=by omega
  subst e
  exact .inl ⟨Nat.le_refl _,hd σ H p⟩
theorem kS {c:TT}{D:Ends} (Pv:St->Hp->Prop) (μ:St->Hp->Nat) (h0:Pv σ H)
  (hs:∀ σ H,Pv σ H->c σ H fun b H1=>if b=true then tb { D with nx:=fun σ' H'=>Pv σ' H'/\μ σ' H'<μ σ H,ct:=fun σ' H'=>Pv σ' H'/\μ σ' H'<μ σ H,bk:=D.nx } σ H1 else D.nx σ H1)
  (mono:∀ σ H Q Q',(∀ b H1,Q b H1->Q' b H1)->c σ H Q->c σ H Q'):k9 c tb D σ H:=by
 refine⟨fun m σ H=>m=μ σ H/\Pv σ H,⟨_,U,h0⟩,?_⟩
 rintro m σ H ⟨rfl,p⟩
 refine mono σ H _ _ (fun b H1 q=>?_) (hs σ H p)
 cases b with
 | true=>exact⟨_,fun σ' H' ⟨p',l⟩=>⟨_,l,U,p'⟩,q⟩
 | false=>exact q
noncomputable abbrev R2:=V->V->Hp->VK->Prop
noncomputable def OpR (X:Cx) (f:Value->Value->Sem Value) (r:R2):Prop :=
 ∀ (pins:List (Addr×Obj)) (s:Shared) (σ:St) (H:Hp) (x y:V) (v u:Value) (Q:VK),Inv X pins σ H s->RelV x v->RelV y u->r x y H Q ->
  wpAny (model X.prog X.w) X.A (f v u) (EP X pins σ Q) X.xe s
noncomputable def UnR (X:Cx) (f:Value->Sem Value) (r:V->Hp->VK->Prop):Prop :=
 ∀ (pins:List (Addr×Obj)) (s:Shared) (σ:St) (H:Hp) (x:V) (v:Value) (Q:VK),Inv X pins σ H s->RelV x v->r x H Q ->
  wpAny (model X.prog X.w) X.A (f v) (EP X pins σ Q) X.xe s
noncomputable def c7 (X:Cx) (f:Value) (r:List V->Hp->VK->Prop):Prop :=
 ∀ (pins:List (Addr×Obj)) (s:Shared) (σ:St) (H:Hp) (xs:List V) (us:List Value) (Q:VK),Inv X pins σ H s->Vals xs us->r xs H Q ->
  wpAny (model X.prog X.w) X.A (call f us) (EP X pins σ Q) X.xe s
noncomputable def TruR (X:Cx) (r:V->Hp->(Bool->Hp->Prop)->Prop):Prop :=
 ∀ (pins:List (Addr×Obj)) (s:Shared) (σ:St) (H:Hp) (x:V) (v:Value) (Q:Bool->Hp->Prop),Inv X pins σ H s->RelV x v->r x H Q ->
  wpAny (model X.prog X.w) X.A (truthy v) (TP X pins σ Q) X.xe s
noncomputable def tOp (r:R2) (ta tb:TE):TE:=fun σ H Q=>ta σ H fun x H1=>tb σ H1 fun y H2=>r x y H2 Q
noncomputable def tUn (r:V->Hp->VK->Prop) (ta:TE):TE:=fun σ H Q=>ta σ H fun x H1=>r x H1 Q
inductive RI_ (C:Int->Int->Prop) (g:Int->Int->V) (x y:V) (H:Hp) (Q:VK):Prop
 | mk (i j:Int) (h1:x=.int i) (h2:y=.int j) (c:C i j) (q:Q (g i j) H):RI_ C g x y H Q
noncomputable def rI (C:Int->Int->Prop) (g:Int->Int->V):R2:=fun x y H Q=>RI_ C g x y H Q
inductive RJ_ (g:Int->Int->V) (x y:V) (H:Hp) (Q:VK):Prop
 | mk (i j:Int) (h1:x=.int i) (h2:y=.int j) (q:Q (g i j) H):RJ_ g x y H Q
noncomputable def rI0 (g:Int->Int->V):R2:=fun x y H Q=>RJ_ g x y H Q
noncomputable def rU (g:Int->V):V->Hp->VK->Prop:=fun x H Q=>∃ i,x=.int i/\Q (g i) H
variable{f:Value->Value->Sem Value}
section
variable {X:Cx}{a b c:Expr}{ta tb tc:TE}{pos:Pos}
theorem rM (ha:PE X a ta) (hb:PE X b tb) {R:V->V->Hp->Prop} (I:Inv X pins σ H s)
  (h:ta σ H fun x H1=>tb σ H1 fun y H2=>R x y H2) {Q:Value->Shared->Prop}{f:Value->Value->Sem Value}
  (hf:∀ v u s2 x y H2,Inv X pins σ H2 s2->RelV x v->RelV y u->R x y H2->wpAny (model X.prog X.w) X.A (f v u) Q X.xe s2) :
  wpAny (model X.prog X.w) X.A (eval a X.env) (fun v s₁=>wpAny (model X.prog X.w) X.A (eval b X.env) (fun u s₂=>wpAny (model X.prog X.w) X.A (f v u) Q X.xe s₂) X.xe s₁) X.xe s:=by
 refine thn (ha pins s σ H _ I h) fun v s1 ⟨x,H1,I1,r1,q1⟩=>?_
 refine thn (hb pins s1 σ H1 _ I1 q1) fun u s2 ⟨y,H2,I2,r2,q2⟩=>?_
 exact hf v u s2 x y H2 I2 r1 r2 q2
theorem aw {op:Operator}{r:R2} (ho:OpR X (binaryOp op) r) (ha:PE X a ta) (hb:PE X b tb):PE X (.BinOp a op b pos) (tOp r ta tb):=by
 intro pins s σ H Q I h
 exact wpAny_BinOp (rM ha hb I h fun v u s2 x y H2 I2 rx ry q=>ho pins s2 σ H2 x y v u Q I2 rx ry q)
theorem lV {op:UnaryOp}{r:V->Hp->VK->Prop} (ho:UnR X (unaryOp op) r) (ha:PE X a ta):PE X (.UnaryOp op a pos) (tUn r ta):=by
 intro pins s σ H Q I h
 exact UnaryOp_ (thn (ha pins s σ H _ I h) fun v s1 ⟨x,H1,I1,r1,q1⟩=>ho pins s1 σ H1 x v Q I1 r1 q1)
theorem opI {C:Int->Int->Prop}{g:Int->Int->Int}
  (rule:∀ (i j:Int) (t u:Tok) (s:Shared) (Q:Value->Shared->Prop) (E:Value->Shared->Prop),C i j->Q (.int (g i j) s.toks) { s with toks:=s.toks+1 }->wpAny (model X.prog X.w) X.A (f (.int i t) (.int j u)) Q E s) :
  OpR X f (rI C fun i j=>.int (g i j)):=by
 intro pins s σ H x y v u Q I rx ry h
 obtain⟨i,j,rfl,rfl,hc,q⟩:=h
 obtain⟨t,rfl⟩:=rx
 obtain⟨t',rfl⟩:=ry
 exact rule i j t t' s _ _ hc ⟨.int (g i j),H,I.tok _,⟨_,U⟩,q⟩
theorem sU {g:Int->Int->Int}
  (rule:∀ (i j:Int) (t u:Tok) (s:Shared) (Q:Value->Shared->Prop) (E:Value->Shared->Prop),Q (.int (g i j) s.toks) { s with toks:=s.toks+1 }->wpAny (model X.prog X.w) X.A (f (.int i t) (.int j u)) Q E s) :
  OpR X f (rI0 fun i j=>.int (g i j)):=by
 intro pins s σ H x y v u Q I rx ry h
 obtain⟨i,j,rfl,rfl,q⟩:=h
 obtain⟨t,rfl⟩:=rx
 obtain⟨t',rfl⟩:=ry
 exact rule i j t t' s _ _ ⟨.int (g i j),H,I.tok _,⟨_,U⟩,q⟩
theorem qH {g:Int->Int->Bool}
  (rule:∀ (i j:Int) (t u:Tok) (s:Shared) (Q:Value->Shared->Prop) (E:Value->Shared->Prop),Q (.bool (g i j)) s->wpAny (model X.prog X.w) X.A (f (.int i t) (.int j u)) Q E s) :
  OpR X f (rI0 fun i j=>.bl (g i j)):=by
 intro pins s σ H x y v u Q I rx ry h
 obtain⟨i,j,rfl,rfl,q⟩:=h
 obtain⟨t,rfl⟩:=rx
 obtain⟨t',rfl⟩:=ry
 exact rule i j t t' s _ _ ⟨.bl (g i j),H,I,U,q⟩
noncomputable def CDiv (i j:Int):Prop:=0<j/\j<1073741824
noncomputable def CPow (i j:Int):Prop:=0<=j/\j<=1000000/\i.natAbs<2 ^ 64
noncomputable def CMul (i j:Int):Prop:=(-(2 ^ 64)<i/\i<2 ^ 64)∨(-(2 ^ 64)<j/\j<2 ^ 64)
theorem CMul.ok {i j:Int} (h:CMul i j):IntMulOk i j:=by
 rcases h with ⟨h1,h2⟩ | ⟨h1,h2⟩
 ·exact .of_left (intBits_le_64 h1 h2)
 ·exact .of_right (intBits_le_64 h1 h2)
theorem aQ:OpR X (binaryOp .Add) (rI0 fun i j=>.int (i+j)):=sU fun _ _ _ _ _ _ _ q=>add_int q
theorem fK:OpR X (binaryOp .Sub) (rI0 fun i j=>.int (i - j)):=sU fun _ _ _ _ _ _ _ q=>sub_int q
theorem cD:OpR X (binaryOp .Mult) (rI CMul fun i j=>.int (i*j)):=opI fun _ _ _ _ _ _ _ hc q=>mul_int q hc.ok
theorem bV:OpR X (binaryOp .FloorDiv) (rI CDiv fun i j=>.int (i / j)):=opI fun i j _ _ _ _ _ hc q=>by
 have h1:(0:Int)<j:=hc.1
 have h2:j<1073741824:=hc.2
 exact floordiv_int (by omega) (by rw[Int.fdiv_eq_ediv_of_nonneg i (by omega)]; exact q) (.inl (PyProof.noPylong_small (by omega)))
theorem aR:OpR X (binaryOp .Mod) (rI (fun _ j=>0<j) fun i j=>.int (i % j)):=opI fun i j _ _ _ _ _ hc q=>by
 have h1:(0:Int)<j:=hc
 exact mod_int' (by omega) (by rw[Int.fmod_eq_emod_of_nonneg i (by omega)]; exact q)
theorem qF:OpR X (binaryOp .Pow) (rI CPow fun i j=>.int (i ^ j.toNat)):=opI fun _ _ _ _ _ _ _ hc q=>pow_int_small hc.1 hc.2.1 hc.2.2 q
theorem unI {f:Value->Sem Value}{g:Int->Int}
  (rule:∀ (i:Int) (t:Tok) (s:Shared) (Q:Value->Shared->Prop) (E:Value->Shared->Prop),Q (.int (g i) s.toks) { s with toks:=s.toks+1 }->wpAny (model X.prog X.w) X.A (f (.int i t)) Q E s) :
  UnR X f (rU fun i=>.int (g i)):=by
 intro pins s σ H x v Q I rx h
 obtain⟨i,rfl,q⟩:=h
 obtain⟨t,rfl⟩:=rx
 exact rule i t s _ _ ⟨.int (g i),H,I.tok _,⟨_,U⟩,q⟩
theorem i6:UnR X (unaryOp .USub) (rU fun i=>.int (-i)):=unI fun _ _ _ _ _ q=>neg_int q
end
noncomputable def rY:V->V->Bool
 | .non,.non=>true | .non,.int _=>true | .int _,.non=>true | .non,.bl _=>true | .bl _,.non=>true | .non,.str _=>true | .str _,.non=>true
 | .int _,.int _=>true | .bl _,.bl _=>true | .str _,.str _=>true | .byt _,.byt _=>true
 | .int _,.str _=>true | .str _,.int _=>true | .bl _,.str _=>true | .str _,.bl _=>true
 | _,_=>false
inductive RE_ (x y:V) (H:Hp) (Q:VK):Prop
 | mk (h:rY x y=true) (q:Q (.bl (decide (x=y))) H):RE_ x y H Q
inductive RN_ (x y:V) (H:Hp) (Q:VK):Prop
 | mk (h:rY x y=true) (q:Q (.bl (!decide (x=y))) H):RN_ x y H Q
noncomputable def rEq:R2:=fun x y H Q=>RE_ x y H Q
noncomputable def rNe:R2:=fun x y H Q=>RN_ x y H Q
theorem jU {i j:Int}:decide (V.int i=V.int j)=(i == j):=by
 rw[Bool.eq_iff_iff]
 simp
theorem m7 {i j:Bool}:decide (V.bl i=V.bl j)=(i == j):=by
 rw[Bool.eq_iff_iff]
 simp
theorem sne (a b:Str) (h:¬ (V.str a=V.str b):=by decide +kernel):decide (V.str a=V.str b)=false:=decide_eq_false h
theorem jT {i j:Str}:decide (V.str i=V.str j)=(i == j):=by
 rw[Bool.eq_iff_iff]
 simp
theorem jV {i j:Array UInt8}:decide (V.byt i=V.byt j)=(i.toList == j.toList):=by
 rw[Bool.eq_iff_iff]
 cases i
 cases j
 simp
section
variable {X:Cx}{a b c:Expr}{ta tb tc:TE}{pos:Pos}
theorem aT {Q:VK}{k k':Bool} (I:Inv X pins σ H s) (q:Q (.bl k) H) (e:k=k'):EP X pins σ Q (.bool k') s:=by
 subst e
 exact⟨.bl k,H,I,U,q⟩
theorem aW:OpR X (compareOp .Eq) rEq:=by
 intro pins s σ H x y v u Q I rx ry h
 obtain⟨hs,q⟩:=h
 cases x with
 | non=>
  cases rx
  cases y with
  | non=>cases ry; exact PySem.EqNone.eq_none_none (aT I q (by simp))
  | bl j=>cases ry; exact PySem.EqNone.eq_none_bool (aT I q (by simp))
  | int j=>obtain⟨t',rfl⟩:=ry; exact PySem.EqNone.eq_none_int (aT I q (by simp))
  | str j=>obtain⟨t',rfl⟩:=ry; exact PySem.EqNone.eq_none_str (aT I q (by simp))
  | _=>exact absurd (show false=true from hs) Bool.false_ne_true
 | bl i=>
  cases rx
  cases y with
  | non=>cases ry; exact PySem.EqNone.eq_bool_none (aT I q (by simp))
  | bl j=>cases ry; exact eq_bool (aT I q m7)
  | str j=>obtain⟨t',rfl⟩:=ry; exact PySem.EqMixed.eq_bool_str (aT I q (by simp))
  | _=>exact absurd (show false=true from hs) Bool.false_ne_true
 | int i=>
  obtain⟨t,rfl⟩:=rx
  cases y with
  | non=>cases ry; exact PySem.EqNone.eq_int_none (aT I q (by simp))
  | int j=>obtain⟨t',rfl⟩:=ry; exact eq_int (aT I q jU)
  | str j=>obtain⟨t',rfl⟩:=ry; exact PySem.EqMixed.eq_int_str (aT I q (by simp))
  | _=>exact absurd (show false=true from hs) Bool.false_ne_true
 | str i=>
  obtain⟨t,rfl⟩:=rx
  cases y with
  | non=>cases ry; exact PySem.EqNone.eq_str_none (aT I q (by simp))
  | bl j=>cases ry; exact PySem.EqMixed.eq_str_bool (aT I q (by simp))
  | int j=>obtain⟨t',rfl⟩:=ry; exact PySem.EqMixed.eq_str_int (aT I q (by simp))
  | str j=>obtain⟨t',rfl⟩:=ry; exact eq_str (aT I q jT)
  | _=>exact absurd (show false=true from hs) Bool.false_ne_true
 | byt i=>
  obtain⟨t,rfl⟩:=rx
  cases y with
  | byt j=>obtain⟨t',rfl⟩:=ry; exact PySem.W.eq_bytes (aT I q jV)
  | _=>exact absurd (show false=true from hs) Bool.false_ne_true
 | _=>cases y <;> exact absurd (show false=true from hs) Bool.false_ne_true
theorem iI:OpR X (compareOp .NotEq) rNe:=by
 intro pins s σ H x y v u Q I rx ry h
 obtain⟨hs,q⟩:=h
 cases x with
 | non=>
  cases rx
  cases y with
  | non=>cases ry; exact PySem.EqNone.ne_none_none (aT I q (by simp))
  | bl j=>cases ry; exact PySem.EqNone.ne_none_bool (aT I q (by simp))
  | int j=>obtain⟨t',rfl⟩:=ry; exact PySem.EqNone.ne_none_int (aT I q (by simp))
  | str j=>obtain⟨t',rfl⟩:=ry; exact PySem.EqNone.ne_none_str (aT I q (by simp))
  | _=>exact absurd (show false=true from hs) Bool.false_ne_true
 | bl i=>
  cases rx
  cases y with
  | non=>cases ry; exact PySem.EqNone.ne_bool_none (aT I q (by simp))
  | bl j=>cases ry; exact ne_bool (aT I q (congrArg not m7))
  | str j=>obtain⟨t',rfl⟩:=ry; exact PySem.EqMixed.ne_bool_str (aT I q (by simp))
  | _=>exact absurd (show false=true from hs) Bool.false_ne_true
 | int i=>
  obtain⟨t,rfl⟩:=rx
  cases y with
  | non=>cases ry; exact PySem.EqNone.ne_int_none (aT I q (by simp))
  | int j=>obtain⟨t',rfl⟩:=ry; exact ne_int (aT I q (congrArg not jU))
  | str j=>obtain⟨t',rfl⟩:=ry; exact PySem.EqMixed.ne_int_str (aT I q (by simp))
  | _=>exact absurd (show false=true from hs) Bool.false_ne_true
 | str i=>
  obtain⟨t,rfl⟩:=rx
  cases y with
  | non=>cases ry; exact PySem.EqNone.ne_str_none (aT I q (by simp))
  | bl j=>cases ry; exact PySem.EqMixed.ne_str_bool (aT I q (by simp))
  | int j=>obtain⟨t',rfl⟩:=ry; exact PySem.EqMixed.ne_str_int (aT I q (by simp))
  | str j=>obtain⟨t',rfl⟩:=ry; exact ne_str (aT I q (congrArg not jT))
  | _=>exact absurd (show false=true from hs) Bool.false_ne_true
 | byt i=>
  obtain⟨t,rfl⟩:=rx
  cases y with
  | byt j=>obtain⟨t',rfl⟩:=ry; exact PySem.W.ne_bytes (aT I q (congrArg not jV))
  | _=>exact absurd (show false=true from hs) Bool.false_ne_true
 | _=>cases y <;> exact absurd (show false=true from hs) Bool.false_ne_true
theorem b8:OpR X (compareOp .Lt) (rI0 fun i j=>.bl (decide (i<j))):=qH fun _ _ _ _ _ _ _ q=>lt_int q
theorem cP:OpR X (compareOp .Gt) (rI0 fun i j=>.bl (decide (j<i))):=qH fun _ _ _ _ _ _ _ q=>gt_int q
theorem gG:OpR X (compareOp .GtE) (rI0 fun i j=>.bl (decide (j<=i))):=qH fun _ _ _ _ _ _ _ q=>ge_int q
theorem bP : OpR X (compareOp .Is) (fun x y H Q=>y=.non/\Q (.bl (decide (x=.non))) H) := by
  intro pins s σ H x y v u Q I rx ry h
  obtain⟨rfl, q⟩ := h
  cases ry
  refine is_none_gen (aT I q ?_)
  cases x <;> first
    | (cases rx; rfl)
    | (obtain ⟨t, rfl⟩ := rx; rfl)
theorem cf : OpR X (compareOp .IsNot) (fun x y H Q=>y=.non/\Q (.bl (!decide (x=.non))) H) := by
  intro pins s σ H x y v u Q I rx ry h
  obtain⟨rfl, q⟩ := h
  cases ry
  refine isnot_none_gen (aT I q ?_)
  cases x <;> first
    | (cases rx; rfl)
    | (obtain ⟨t, rfl⟩ := rx; rfl)
theorem ao (b:Expr) {op:CmpOp} (h:op≠.In:=by decide) (h2:op≠.NotIn:=by decide):behindInMarks op b=false:=by
 have e1:(op == CmpOp.In)=false:=by cases op <;> first | rfl | exact absurd rfl h
 have e2:(op == CmpOp.NotIn)=false:=by cases op <;> first | rfl | exact absurd rfl h2
 cases b <;> simp[behindInMarks,e1,e2]
theorem bU {op:CmpOp}{r:R2} (ho:OpR X (compareOp op) r) (ha:PE X a ta) (hb:PE X b tb) (hm:behindInMarks op b=false):PE X (.Compare a [op] [b] pos) (tOp r ta tb):=by
 intro pins s σ H Q I h
 exact wpAny_Compare1 (rM ha hb I h fun v u s2 x y H2 I2 rx ry q=>ho pins s2 σ H2 x y v u Q I2 rx ry q) hm
noncomputable def tTest (t:TE):TT:=fun σ H Q=>t σ H (TB_ Q)
theorem ak {op:CmpOp}{r:R2} (ho:OpR X (compareOp op) r) (ha:PE X a ta) (hb:PE X b tb) (hm:behindInMarks op b=false):PT X (.Compare a [op] [b] pos) (tTest (tOp r ta tb)):=by
 intro pins s σ H Q I h
 refine wpAny_isTrue_Compare1 (thn (ha pins s σ H _ I h) fun v s1 ⟨x,H1,I1,r1,q1⟩=>thn (hb pins s1 σ H1 _ I1 q1) fun u s2 ⟨y,H2,I2,r2,q2⟩=>
  thn (ho pins s2 σ H2 x y v u _ I2 r1 r2 q2) fun c s3 ⟨z,H3,I3,r3,k,e,q3⟩=>?_) hm
 subst e
 cases r3
 exact wpAny_truthy_bool ⟨H3,I3,q3⟩
noncomputable def tH (K:PySem.W.Frag) (x:V) (H:Hp) (k:Bool):Prop :=
 match x with
 | .non=>k=false
 | .bl b=>k=b
 | .int i=>k=(i != 0)
 | .str y=>y.length<=sizeLine/\k=((y.length:Int) != 0)
 | .byt y=>y.size<=sizeLine/\k=((y.size:Int) != 0)
 | .ref p=>(∃ xs,SqL K H p xs/\k = !xs.isEmpty)∨(∃ xs,SqT K H p xs/\k = !xs.isEmpty)∨∃ kvs,H p=some (.dK kvs)/\k = !kvs.isEmpty
 | _=>False
theorem jn {κ:Type}{kvs:List (κ×V)}{vs:List (κ×Value)} (r:KV kvs vs):(!vs.isEmpty) = !kvs.isEmpty:=by
 cases r <;> rfl
theorem fQ {xs:List V}{its:List Value} (r:Vals xs its):(!its.toArray.isEmpty) = !xs.isEmpty:=by
 cases r <;> simp
theorem fO:(sizeLine:Nat)<2 ^ 63:=by rw[sizeLine_eq]; decide
theorem qc:TruR X (fun x H Q=>∃ k,tH X.K x H k/\Q k H):=by
 intro pins s σ H x v Q I rx h
 obtain⟨k,e,q⟩:=h
 have hl:=fO
 have hs:sizeLine=16777216:=sizeLine_eq
 cases x with
 | non=>
  cases rx
  have e':k=false:=e
  subst e'
  exact truthy_none ⟨H,I,q⟩
 | bl b=>
  cases rx
  have e':k=b:=e
  subst e'
  exact wpAny_truthy_bool ⟨H,I,q⟩
 | int i=>
  obtain⟨t,rfl⟩:=rx
  have e':k=(i != 0):=e
  subst e'
  exact PySem.P.truthy_int ⟨H,I,q⟩
 | str y=>
  obtain⟨t,rfl⟩:=rx
  obtain⟨hy,e'⟩:y.length<=sizeLine/\k=((y.length:Int) != 0):=e
  subst e'
  exact PySem.P.truthy_str (by omega) ⟨H,I.tok _,q⟩
 | byt y=>
  obtain⟨t,rfl⟩:=rx
  obtain⟨hy,e'⟩:y.size<=sizeLine/\k=((y.size:Int) != 0):=e
  subst e'
  exact PySem.W.truthy_bytes (by omega) ⟨H,I.tok _,q⟩
 | ref p=>
  cases rx
  have e':(∃ xs,SqL X.K H p xs/\k = !xs.isEmpty)∨(∃ xs,SqT X.K H p xs/\k = !xs.isEmpty)∨∃ kvs,H p=some (.dK kvs)/\k = !kvs.isEmpty:=e
  rcases e' with ⟨xs,hx,e'⟩ | ⟨xs,hx,e'⟩ | ⟨kvs,hx,e'⟩
  ·subst e'
   obtain⟨its,r,pl,hz⟩:=I.list hx
   have hlen:=r.length
   exact wpAny_truthy_list pl.isList (by simp only[t0]; omega) ⟨H,I.tok _,by rw[fQ r]; exact q⟩
  ·subst e'
   obtain⟨its,r,pl,hz⟩:=I.tuple hx
   have hlen:=r.length
   exact truthy_tuple pl (by simp only[t0]; omega) ⟨H,I.tok _,by rw[fQ r]; exact q⟩
  ·subst e'
   obtain⟨hz,hS,vs,r,m⟩:kvs.length<=sizeLine/\(p == sysModules)=false/\∃ vs,KV kvs vs/\s.heap.DictOf (bp X.prog X.w) p vs:=I.hok p _ hx
   have hlen:kvs.length=vs.length:=Paired.length r
   exact wpAny_truthy_dict hS m (by omega) ⟨H,I.tok _,by rw[jn r]; exact q⟩
 | _=>exact(show False from e).elim
theorem dD (ha:PE X a ta) (he:∀ whole,isTrue a X.env whole=(do let v <- whole; standAt a.pos; holding [v] (truthy v))) :
  PT X a (fun σ H Q=>ta σ H fun x H'=>∃ k,tH X.K x H' k/\Q k H'):=by
 intro pins s σ H Q I h
 exact isTrue_plain (thn (ha pins s σ H _ I h) fun v s1 ⟨x,H1,I1,r1,q1⟩=>qc pins s1 σ H1 x v Q I1 r1 q1) (he _)
theorem du {x:V} (r:Vals [x] us):∃ u,us=[u]/\RelV x u:=by
 cases r with
 | cons r1 r2=>cases r2; exact⟨_,U,r1⟩
theorem jw {x y:V} (r:Vals [x,y] us):∃ u w',us=[u,w']/\RelV x u/\RelV y w':=by
 cases r with
 | cons r1 r2=>
  cases r2 with
  | cons r3 r4=>cases r4; exact⟨_,_,U,r1,r3⟩
theorem m9:c7 X (.builtin "abs") (fun xs H Q=>∃ i,xs=[.int i]/\Q (.int (if i<0 then -i else i)) H):=by
 intro pins s σ H xs us Q I r h
 obtain⟨i,rfl,q⟩:=h
 obtain⟨u,rfl,t,rfl⟩:=du r
 exact call_abs_int fun u tk=>⟨.int (if i<0 then -i else i),H,I.tok _,⟨_,U⟩,q⟩
theorem gP:c7 X (.type "int") (fun xs H Q=>(∃ i,xs=[.int i]/\Q (.int i) H)∨∃ k,xs=[.bl k]/\Q (.int (if k then 1 else 0)) H):=by
 intro pins s σ H xs us Q I r h
 rcases h with ⟨i,rfl,q⟩ | ⟨k,rfl,q⟩
 ·obtain⟨u,rfl,t,rfl⟩:=du r
  exact call_int_int ⟨.int i,H,I,⟨_,U⟩,q⟩
 ·obtain⟨u,rfl,r1⟩:=du r
  cases r1
  exact call_int_bool ⟨.int (if k then 1 else 0),H,I.tok _,⟨_,U⟩,q⟩
end
structure ObjM (h:Heap) (x dx C:Addr) (mA:Str->Option Value):Prop where
 obj:h.get? x=some (PySem.W.instObj C dx)
 ns:h.Ns1 dx mA
 ne:dx≠x
theorem ki {dx:Addr}{mA:Str->Option Value} (n:h.Ns1 dx mA):∃ od,h.get? dx=some od/\∀ name,PySem.W.lookIn name od=some (mA name):=by
 obtain⟨o,es,ep,ho,hd,hk,_,hm⟩:=n
 refine⟨o,ho,fun name=>?_⟩
 have e:=hm name
 unfold nsFind findBy at e
 rw[<- Array.find?_toList] at e
 unfold PySem.W.lookIn
 rw[hd]
 dsimp only
 split
 ·rename_i y q
  rw[q] at e
  exact congrArg some e
 ·rename_i q
  rw[q] at e
  have a:es.toList.any (·.refKey)=false:=by
   rw[List.any_eq_false]
   intro y hy
   obtain⟨z,t,hkey⟩:=hk y (Array.mem_toList_iff.mp hy)
   simp[DictEntry.refKey,hkey]
  have a':¬ es.toList.any (·.refKey)=true:=by rw[a]; exact Bool.false_ne_true
  rw[if_neg a']
  exact congrArg some e
theorem ObjM.look {x dx C:Addr}{mA:Str->Option Value} (I:ObjM h x dx C mA):∃ od,PySem.W.InstAt h x (PySem.W.instObj C dx) C (some od)/\∀ name,PySem.W.lookIn name od=some (mA name) :=
 let ⟨od,ho,hl⟩:=ki I.ns
 ⟨od,⟨I.obj,U,U,ho⟩,hl⟩
variable{kw:List (Str×Value)}
section
variable {prog:Program}{w:World}{A:Around}{E:Value->Shared->Prop}{s:Shared}{K:PySem.W.Frag}{x dx C f:Addr}{mA:Str->Option Value}{name:Str}{v:Value}
theorem n9 {expr:Bool} (X:K.In s.heap) (I:ObjM s.heap x dx C mA) (hg:W.plainGet K C name=true) (hh:W.hasDictIn K C=true)
  (ha:W.findIn K (.ref C) name=some none) (hv:mA name=some v) (hv':PySem.W.handedIn v=true) (h:Q v { s with toks:=s.toks+1 }) :
  wpAny (model prog w) A (getAttr (.ref x) name expr) Q E s:=by
 obtain⟨od,J,hl⟩:=I.look
 exact PySem.W.get_value X J (PySem.W.plainGet_of hg).1 (PySem.W.findObj_own hh ha rfl (by rw[hl,hv])) hv' h
theorem mQ {pl:Sem Bool}{Q:Value×List Value->Shared->Prop} (X:K.In s.heap) (I:ObjM s.heap x dx C mA) (hg:W.plainGet K C name=true)
  (hf:W.findIn K (.ref C) name=some (some (.ref f))) (ht:W.isFn K (.ref f)=true) (hv:mA name=none) (h:Q (.ref f,[.ref x]) s) :
  wpAny (model prog w) A (getMethod (.ref x) name pl) Q E s:=by
 obtain⟨od,J,hl⟩:=I.look
 exact PySem.W.method_fn X J (PySem.W.plainGet_of hg).1 (PySem.W.plainGet_of hg).2 hf (beq_iff_eq.mp ht) (by show(PySem.W.lookIn name od).map (·.isSome)=some false; rw[hl,hv]; rfl) h
theorem nI {ns:List Str}{Q:Unit->Shared->Prop} (X:K.In s.heap) (I:ObjM s.heap x dx C mA)
  (hs:W.findIn K (.ref C) "__setattr__" = some (some (.builtin "object.__setattr__"))) (hp:W.plainOver K C=true) (ht:PySem.W.takerIn K C name=some none) (hh:W.hasDictIn K C=true)
  (hw:PySem.Within mA ns) (hsz:ns.length<=sizeLine)
  (h:∀ h',ObjM h' x dx C (fun y=>if y=name then some v else mA y)->Heap.SameBut dx s.heap h'->Q () { s with heap:=h',toks:=s.toks+2 }) :
  wpAny (model prog w) A (setAttr (.ref x) name v) Q E s:=by
 obtain⟨od,J,hl⟩:=I.look
 refine PySem.W.set_plain X J hs (PySem.W.osa_open (s:={ s with toks:=s.toks+1 }) (r:=none) X J hp ht fun b=>?_)
 obtain⟨cd,hc,hd'⟩:=PySem.W.any_some hh
 have hx:s.heap.get? x=some ⟨.ref C,some dx,.plain,#[]⟩:=I.obj
 refine wpAny_bind (wpAny_pure (wpAny_bind (wpAny_bind (wpAny_loadPart hx (wpAny_bind (PySem.W.Looks.here (s:={ s with toks:=s.toks+1 }) (PySem.W.looks_clsIn X hc) ?_))))))
 rw[hd']
 refine wpAny_pure (a:=some dx) (wpAny_bind (wpAny_pure (wpAny_bind ?_)))
 refine wpAny_nsSet1 (s:={ s with toks:=s.toks+1 }) I.ns fun h' hn2 hs2=>?_
 obtain⟨oD,esD,epD,hoD,hdD,hcD⟩:=hn2.count (PySem.Within.cons name v hw)
 refine wpAny_bind (wpAny_lookBehind hoD (by rw[hdD]; exact pastItsLine_dict (Nat.le_trans hcD (by rw[t6]; omega))) ?_)
 exact wpAny_pure (h _ ⟨(hs2.2 _ (Ne.symm I.ne)).trans I.obj,hn2,I.ne⟩ hs2)
theorem mH {R:Result->Shared->Prop}{vs:List Value} (X:K.In s.heap) (hm:W.makesIn K C=true)
  (hi:W.findIn K (.ref C) "__init__" = some (some (.ref f))) (hf:PySem.W.typeIn K (.ref f)=some (.type "function"))
  (h:codeAny (model prog w) (A.under (.builtin "type.__call__" ⟨.ref C::vs,kw⟩)) (.call (.ref f) ⟨.ref (s.heap.objs.size+1)::vs,kw⟩) (PySem.W.InitBack (s.heap.objs.size+1) R)
   { s with heap:=(s.heap.push PySem.W.emptyDict).push (PySem.W.instObj C s.heap.objs.size) }) :
  codeAny (model prog w) A (.call (.ref C) ⟨vs,kw⟩) R s:=by
 obtain⟨hh,g,d,t,os⟩:=s
 exact PySem.W.make_core (PySem.W.makes_of X hm) (PySem.W.looks_findIn X hi) (fun self=>PySem.W.bind_fn X self hf) (.inl rfl) h
end
noncomputable def bg (f : Str) (v : V) : List (Str×V)->List (Str×V)
  | []=>[(f, v)]
  | (g, x) :: r => if g = f then (g, v) :: r else (g, x) :: bg f v r
theorem eI (f g : Str) (v : V) : ∀ fs : List (Str×V), (bg f v fs).lookup g=if g=f then some v else fs.lookup g
  | []=>by
    show List.lookup g [(f, v)]=_
    by_cases h : g=f
    · have hb : (g == f)=true := beq_iff_eq.mpr h
      simp only[List.lookup, hb, if_pos h]
    · have hb : (g == f)=false := beq_eq_false_iff_ne.mpr h
      simp only[List.lookup, hb, if_neg h]
  | (k, x) :: r => by
    have ih := eI f g v r
    rw[show bg f v ((k, x)::r)=(if k=f then(k, v)::r else(k, x)::bg f v r) from rfl]
    by_cases hk : k=f
    · rw[if_pos hk]
      by_cases h : g=k
      · have hb : (g == k)=true := beq_iff_eq.mpr h
        simp only[List.lookup, hb, if_pos (h.trans hk)]
      · have hb : (g == k)=false := beq_eq_false_iff_ne.mpr h
        simp only[List.lookup, hb, if_neg (fun e : g=f=>h (e.trans hk.symm))]
    · rw[if_neg hk]
      by_cases h : g=k
      · have hb : (g == k)=true := beq_iff_eq.mpr h
        simp only[List.lookup, hb, if_neg (fun e : g=f=>hk (h.symm.trans e))]
      · have hb : (g == k)=false := beq_eq_false_iff_ne.mpr h
        simp only[List.lookup, hb]
        exact ih
theorem d9 (f : Str) (v : V) : ∀ fs : List (Str×V), f ∈ (bg f v fs).map (·.1)/\∀ g, g ∈ fs.map (·.1)->g ∈ (bg f v fs).map (·.1)
  | []=>⟨by simp[bg], fun g h=>by simp at h⟩
  | (k, x) :: r => by
    obtain⟨i1, i2⟩ := d9 f v r
    rw[show bg f v ((k, x)::r)=(if k=f then(k, v)::r else(k, x)::bg f v r) from rfl]
    by_cases hk : k=f
    · rw[if_pos hk]
      subst hk
      exact⟨by simp, fun g h=>by simpa using h⟩
    · rw[if_neg hk]
      refine⟨?_, fun g h=>?_⟩
      · rw[t5]
        exact tK _ i1
      · rw[t5] at h ⊢
        rcases tX.mp h with e | e
        · exact tX.mpr (.inl e)
        · exact tK _ (i2 g e)
theorem eK (f : Str) (v : V) : ∀ fs : List (Str×V), (bg f v fs).length<=fs.length+1
  | []=>by simp[bg]
  | (k, x) :: r => by
    have ih := eK f v r
    rw[show bg f v ((k, x)::r)=(if k=f then(k, v)::r else(k, x)::bg f v r) from rfl]
    by_cases hk : k=f
    · rw[if_pos hk, t6, t6]; omega
    · rw[if_neg hk, t6, t6]; omega
theorem RelO.some_of {v:V}{o:Option Value} (r:RelO (some v) o):∃ u,o=some u/\RelV v u:=by
 cases o with
 | none=>exact(show False from r).elim
 | some u=>exact⟨u,U,r⟩
theorem RelO.none_of {o:Option Value} (r:RelO none o):o=none:=by
 cases o with
 | none=>rfl
 | some u=>exact(show False from r).elim
theorem kD {v:V}{u:Value} (r:RelV v u):PySem.W.handedIn u=true:=by
 cases v with
 | non=>cases (show u=Value.none from r); rfl
 | bl b=>cases (show u=Value.bool b from r); rfl
 | int i=>obtain⟨t,e⟩:=(show ∃ t,u=Value.int i t from r); cases e; rfl
 | str x=>obtain⟨t,e⟩:=(show ∃ t,u=Value.str x t from r); cases e; rfl
 | byt b=>obtain⟨t,e⟩:=(show ∃ t,u=Value.bytes b t from r); cases e; rfl
 | flt b=>obtain⟨t,e⟩:=(show ∃ t,u=Value.float b t from r); cases e; rfl
 | ref a=>cases (show u=Value.ref a from r); rfl
 | ty n=>cases (show u=Value.type n from r); rfl
section
variable {P:Program}{w:World}{H H':Hp}{h h':Heap}{a C dx:Addr}{fs fs':List (Str×V)}
theorem fm (hok:HOk P w H h) (e:H a=some (.ins C dx fs)):∃ mA,ObjM h a dx C mA/\(∀ f,RelO (fs.lookup f) (mA f))/\PySem.Within mA (fs.map (·.1))/\fs.length<=1000/\H dx=some (.own a):=by
 obtain⟨d,z,ne,ob,mA,n,r,q⟩:=(show ObjOk P w H h a (.ins C dx fs) from hok a _ e)
 exact⟨mA,⟨ob,n,ne⟩,r,q,z,d⟩
end
structure Cls (K:PySem.W.Frag) (C:Addr):Prop where
 pg:W.plainGet K C Str.empty=true
 hd:W.hasDictIn K C=true
 po:W.plainOver K C=true
 sa:W.findIn K (.ref C) "__setattr__" = some (some (.builtin "object.__setattr__"))
theorem Cls.get {C:Addr} (c:Cls K C) (f:Str):W.plainGet K C f=true:=c.pg
noncomputable def NoAttr (K:PySem.W.Frag) (C:Addr) (f:Str):Prop:=W.findIn K (.ref C) f=some none
theorem NoAttr.taker {C:Addr}{f:Str} (n:NoAttr K C f):PySem.W.takerIn K C f=some none:=by
 unfold PySem.W.takerIn
 rw[show W.findIn K (.ref C) f=some none from n]
 rfl
structure Con (K:PySem.W.Frag) (C:Addr) (f:Str) (v:V) (u:Value):Prop where
 at_:W.findIn K (.ref C) f=some (some u)
 rel:RelV v u
 get:PySem.W.specialIn K u "__get__" = some none
 cp:PySem.W.copiedNames.contains f=false
structure Meth (K:PySem.W.Frag) (C:Addr) (m:Str) (f:Addr):Prop where
 at_:W.findIn K (.ref C) m=some (some (.ref f))
 fn:W.isFn K (.ref f)=true
 kp:W.keepIn K (.ref f)=true
section
variable {X:Cx}{pins:List (Addr×Obj)}{σ:St}{H:Hp}{s:Shared}{a C dx:Addr}{fs:List (Str×V)}{f:Str}{v:V}{A:Around}{E:Value->Shared->Prop}
theorem fT {b:Bool} (I:Inv X pins σ H s) (e:H a=some (.ins C dx fs)) (c:Cls X.K C) (n:NoAttr X.K C f) (l:fs.lookup f=some v)
  (h:∀ u s',Inv X pins σ H s'->RelV v u->Q u s'):wpAny (model X.prog X.w) A (getAttr (.ref a) f b) Q E s:=by
 obtain⟨mA,O,r,_,_,_⟩:=fm I.hok e
 obtain⟨u,hu,ru⟩:=RelO.some_of (v:=v) (o:=mA f) (by rw[<- l]; exact r f)
 exact n9 I.kIn O (c.get f) c.hd n hu (kD ru) (h u _ (I.tok _) ru)
theorem dr {m:Str}{g:Addr}{pl:Sem Bool}{Q:Value×List Value->Shared->Prop} (I:Inv X pins σ H s) (e:H a=some (.ins C dx fs)) (c:Cls X.K C) (k:Meth X.K C m g) (l:fs.lookup m=none)
  (h:Q (.ref g,[.ref a]) s):wpAny (model X.prog X.w) A (getMethod (.ref a) m pl) Q E s:=by
 obtain⟨mA,O,r,_,_,_⟩:=fm I.hok e
 have hn:mA m=none:=RelO.none_of (by rw[<- l]; exact r m)
 exact mQ I.kIn O (c.get m) k.at_ k.fn hn h
theorem fE {y:V}{u:Value}{Q:Unit->Shared->Prop} (I:Inv X pins σ H s) (e:H a=some (.ins C dx fs)) (c:Cls X.K C) (n:NoAttr X.K C f) (hl:fs.length<1000) (ry:RelV y u)
  (h:∀ s',Inv X pins σ (upd H a (.ins C dx (bg f y fs))) s'->Q () s'):wpAny (model X.prog X.w) A (setAttr (.ref a) f u) Q E s:=by
 obtain⟨mA,O,r,wi,_,ho⟩:=fm I.hok e
 have hz:(fs.map (·.1)).length<=sizeLine:=by rw[tP,sizeLine_eq]; omega
 refine nI I.kIn O c.sa c.po n.taker c.hd wi hz fun h' O' sb=>h _ ?_
 have hd:∃ o,h'.get? dx=some o:=let ⟨o,_,_,e',_⟩:=O'.ns; ⟨o,e'⟩
 refine I.write (x:=a) (e:=dx) (by rw[e]; exact True.intro) (.inr ho) (fun b q hb z=>(sb.2 b hb).trans z) hd ?_
 refine⟨by rw[aH O.ne]; exact ho,?_,O.ne,O'.obj,_,O'.ns,fun g=>?_,fun g hg=>?_⟩
 ·have:=eK f y fs; omega
 ·show RelO ((bg f y fs).lookup g) (if g=f then some u else mA g)
  rw[eI]
  by_cases q:g=f
  ·rw[if_pos q,if_pos q]; exact ry
  ·rw[if_neg q,if_neg q]; exact r g
 ·by_cases q:g=f
  ·rw[q]; exact(d9 f y fs).1
  ·refine(d9 f y fs).2 g (wi g fun z=>hg ?_)
   show(if g=f then some u else mA g)=none
   rw[if_neg q]; exact z
theorem Inv.made (I:Inv X pins σ H s):Inv X pins σ (upd (upd H s.heap.objs.size (.own (s.heap.objs.size+1))) (s.heap.objs.size+1) (.ins C s.heap.objs.size []))
  { s with heap:=(s.heap.push PySem.W.emptyDict).push (PySem.W.instObj C s.heap.objs.size) }:=by
 have e1:(s.heap.push PySem.W.emptyDict).get? s.heap.objs.size=some PySem.W.emptyDict:=Heap.get?_push_size s.heap rfl
 have e2:((s.heap.push PySem.W.emptyDict).push (PySem.W.instObj C s.heap.objs.size)).get? (s.heap.objs.size+1)=some (PySem.W.instObj C s.heap.objs.size):=by
  have:=Heap.get?_push_size (s.heap.push PySem.W.emptyDict) (o:=PySem.W.instObj C s.heap.objs.size) rfl
  rwa [Heap.size_push] at this
 have e3:(s.heap.push PySem.W.emptyDict).Ns s.heap.objs.size (fun _=>none):=⟨PySem.W.emptyDict,#[],_,e1,U,(fun e he=>absurd he (by simp)),fun _=>rfl⟩
 have I1:=I.laid (a:=s.heap.objs.size) (o:=.own (s.heap.objs.size+1)) (h':=s.heap.push PySem.W.emptyDict) (t':=s.toks) (fun b u q=>Heap.get?_push_of_some _ q) (Nat.le_refl _) ⟨_,e1⟩
 refine I1.laid (a:=s.heap.objs.size+1) (o:=.ins C s.heap.objs.size []) (t':=s.toks) (fun b u q=>Heap.get?_push_of_some _ q) (Nat.le_of_eq (Heap.size_push _ _)) ?_
 have ne:s.heap.objs.size≠s.heap.objs.size+1:=Nat.ne_of_lt (Nat.lt_succ_self _)
 refine⟨by rw[aH ne,bF],Nat.zero_le _,ne,e2,fun _=>none,(Heap.Ns1.of_empty e3).at fun o q=>Heap.get?_push_of_some _ q,fun _=>True.intro,fun y hy=>absurd rfl hy⟩
theorem oz {prog:Program}{w:World}{env:Env}{f:Str}{s:Shared} (hb:attributeBase e f env (eval e env)=eval e env)
  (h:wpAny (model prog w) A (eval e env) (fun o s₁=>wpAny (model prog w) A (getAttr o f true) Q E s₁) E s):wpAny (model prog w) A (eval (.Attribute e f pos) env) Q E s :=
 Attribute_any_ h (by rw[arm_eval_Attribute,hb])
end
inductive TF_ (K:PySem.W.Frag) (f:Str) (Q:VK) (x:V) (H:Hp):Prop
 | mk (a C dx:Addr) (fs:List (Str×V)) (v:V) (h1:x=.ref a) (h2:H a=some (.ins C dx fs)) (h3:Cls K C) (h4:NoAttr K C f) (h5:fs.lookup f=some v) (q:Q v H):TF_ K f Q x H
noncomputable def tFld (K:PySem.W.Frag) (ta:TE) (f:Str):TE:=fun σ H Q=>ta σ H (TF_ K f Q)
noncomputable def sFld (K:PySem.W.Frag) (ta tv:TE) (f:Str):TS:=fun D σ H=>tv σ H fun y H1=>ta σ H1 fun x H2=>∃ a C dx fs,x=.ref a/\H2 a=some (.ins C dx fs)/\Cls K C/\NoAttr K C f/\fs.length<1000 /\
 D.nx σ (upd H2 a (.ins C dx (bg f y fs)))
noncomputable def tJ (X:Cx) (op:Operator) (rd:V->V->Hp->VK->Prop):Prop :=
 ∀ (pins:List (Addr×Obj)) (s:Shared) (σ:St) (H:Hp) (x y:V) (u v:Value) (Q:VK),Inv X pins σ H s->RelV x u->RelV y v->rd x y H Q->wpAny (model X.prog X.w) X.A (inplaceOp op u v) (EP X pins σ Q) X.xe s
noncomputable def nK (K:PySem.W.Frag) (ta tv:TE) (rd:V->V->Hp->VK->Prop) (f:Str):TS:=fun D σ H=>ta σ H fun x H1=>∃ a C dx fs v,x=.ref a/\H1 a=some (.ins C dx fs)/\Cls K C/\NoAttr K C f/\fs.lookup f=some v /\
 tv σ H1 fun y H2=>rd v y H2 fun z H3=>∃ dx' fs',H3 a=some (.ins C dx' fs')/\fs'.length<1000/\D.nx σ (upd H3 a (.ins C dx' (bg f z fs')))
section
variable {X:Cx}{o e value:Expr}{f:Str}{pos pos' tpos:Pos}{ta tv:TE}
theorem aA (he:PE X e ta) (hb:attributeBase e f X.env (eval e X.env)=eval e X.env):PE X (.Attribute e f pos) (tFld X.K ta f):=by
 intro pins s σ H Q I h
 refine oz hb (thn (he pins s σ H _ I h) fun u s1 ⟨x,H1,I1,rx,a,C,dx,fs,v,ex,ea,c,n,l,q⟩=>?_)
 subst ex
 obtain rfl:u=Value.ref a:=rx
 exact fT I1 ea c n l fun u' s2 I2 ru=>⟨v,H1,I2,ru,q⟩
theorem bj (ha:PE X o ta) (hv:PE X value tv) (hs:swapsWith value (some (.Attribute o f pos')) pos.line X.env=pure false):PS X (.Assign [.Attribute o f pos'] value pos) (sFld X.K ta tv f):=by
 intro pins s σ H D I h
 refine plainObj_wpAny_Assign_Attribute (thn (hv pins s σ H _ I h) fun u s1 ⟨y,H1,I1,ry,q⟩=>thn (ha pins s1 σ H1 _ I1 q) fun ov s2 ⟨x,H2,I2,rx,a,C,dx,fs,ex,ea,c,n,l,q2⟩=>?_) hs
 subst ex
 obtain rfl:ov=Value.ref a:=rx
 exact fE I2 ea c n l ry fun s3 I3=>⟨σ,_,I3,q2⟩
theorem j9 {op:Operator}{rd:V->V->Hp->VK->Prop} (ha:PE X o ta) (hv:PE X value tv) (hop:tJ X op rd):PS X (.AugAssign (.Attribute o f tpos) op value pos) (nK X.K ta tv rd f):=by
 intro pins s σ H D I h
 refine wpAny_AugAssign_AttributeAny (thn (ha pins s σ H _ I h) fun ov s1 ⟨x,H1,I1,rx,a,C,dx,fs,v,ex,ea,c,n,l,q⟩=>?_)
 subst ex
 obtain rfl:ov=Value.ref a:=rx
 refine fT I1 ea c n l fun u s2 I2 ru=>thn (hv pins s2 σ H1 _ I2 q) fun w3 s3 ⟨y,H2,I3,ry,q3⟩=>thn (hop pins s3 σ H2 v y u w3 _ I3 ru ry q3) fun w4 s4 ⟨z,H3,I4,rz,dx',fs',ea',l',q4⟩=>?_
 exact fE I4 ea' c n l' rz fun s5 I5=>⟨σ,_,I5,q4⟩
noncomputable def rAdd:V->V->Hp->VK->Prop:=fun x y H Q=>∃ i j,x=.int i/\y=.int j/\Q (.int (i+j)) H
theorem rG:tJ X .Add rAdd:=by
 rintro pins s σ H x y u v Q I rx ry ⟨i,j,rfl,rfl,q⟩
 obtain⟨t,rfl⟩:=(show ∃ t,u=Value.int i t from rx)
 obtain⟨t',rfl⟩:=(show ∃ t',v=Value.int j t' from ry)
 exact PyProof.Rows.iadd_int ⟨.int (i+j),H,I.tok _,⟨_,U⟩,q⟩
end
section
variable {X:Cx}{pins:List (Addr×Obj)}{σ:St}{H:Hp}{s:Shared}{A:Around}{E:Value->Shared->Prop}{Q:Value->Shared->Prop}{c:Value}{b:Bool}
inductive TyOf (K:PySem.W.Frag) (H:Hp):V->Value->Prop where
 | non:TyOf K H .non (.type "NoneType")
 | bl (x:Bool):TyOf K H (.bl x) (.type "bool")
 | int (i:Int):TyOf K H (.int i) (.type "int")
 | str (x:Str):TyOf K H (.str x) (.type "str")
 | flt (x:UInt64):TyOf K H (.flt x) (.type "float")
 | lst {a:Addr}{xs:List V} (e:H a=some (.lst xs)):TyOf K H (.ref a) (.type "list")
 | frz {a:Addr}{o:Obj}{xs:List V} (e:H a=some (.frz o (.lst xs))):TyOf K H (.ref a) (.type "list")
 | tup {a:Addr}{xs:List V} (e:H a=some (.tup xs)):TyOf K H (.ref a) (.type "tuple")
 | dK {a:Addr}{kvs:List (Key×V)} (e:H a=some (.dK kvs)):TyOf K H (.ref a) (.type "dict")
 | dT {a:Addr}{kvs:List (List Key×V)} (e:H a=some (.dT kvs)):TyOf K H (.ref a) (.type "dict")
 | ins {a C dx:Addr}{fs:List (Str×V)} (e:H a=some (.ins C dx fs)) (cl:Cls K C) (ha:W.findIn K (.ref C) "__class__" = some (some (.builtin "object.__class__")))
   (hn:PySem.W.specialIn K (.builtin "object.__class__") "__get__" = some (some (.builtin "getset_descriptor.__get__"))) (htk:PySem.W.takesIn K (.builtin "object.__class__")=some true)
   (hm:PySem.W.mroIn K C (.type "object")=some true):TyOf K H (.ref a) (.ref C)
theorem kt {x:V}{u t:Value} (I:Inv X pins σ H s) (rx:RelV x u) (ty:TyOf X.K H x t) (e:PySem.W.kitOne X.K t c=some b) (h:∀ tk,Q (.bool b) { s with toks:=tk }) :
  wpAny (model X.prog X.w) A (call (.builtin "isinstance") [u,c]) Q E s:=by
 cases ty with
 | non=>cases (show u=Value.none from rx); exact PySem.W.kia_one PySem.W.kitx_none I.kIn True.intro e (fun z=>nomatch z) h
 | bl y=>cases (show u=Value.bool y from rx); exact PySem.W.kia_one PySem.W.kitx_bool I.kIn True.intro e (fun z=>nomatch z) h
 | int i=>obtain⟨t,q⟩:=(show ∃ t,u=Value.int i t from rx); cases q; exact PySem.W.kia_one PySem.W.kitx_int I.kIn True.intro e (fun z=>nomatch z) h
 | str y=>obtain⟨t,q⟩:=(show ∃ t,u=Value.str y t from rx); cases q; exact PySem.W.kia_one PySem.W.kitx_str I.kIn True.intro e (fun z=>nomatch z) h
 | flt y=>obtain⟨t,q⟩:=(show ∃ t,u=Value.float y t from rx); cases q; exact PySem.W.kia_one PySem.W.kitx_float I.kIn True.intro e (fun z=>nomatch z) h
 | @lst a xs ea=>
  cases (show u=Value.ref a from rx)
  obtain⟨_,_,n,_,h1⟩:=(show ObjOk X.prog X.w H s.heap a (.lst xs) from I.hok a _ ea)
  exact PySem.W.kia_one PySem.W.kitx_list I.kIn ⟨_,h1,U⟩ e (fun z=>nomatch z) h
 | @frz a ob xs ea=>
  cases (show u=Value.ref a from rx)
  obtain⟨_,_,_,n,_,h1⟩:=(show ObjOk X.prog X.w H s.heap a (.frz ob (.lst xs)) from I.hok a _ ea)
  exact PySem.W.kia_one PySem.W.kitx_list I.kIn ⟨_,h1,U⟩ e (fun z=>nomatch z) h
 | @tup a xs ea=>
  cases (show u=Value.ref a from rx)
  obtain⟨_,_,_,p⟩:=(show ObjOk X.prog X.w H s.heap a (.tup xs) from I.hok a _ ea)
  obtain⟨o,h1,h2,_⟩:=p
  exact PySem.W.kia_one PySem.W.kitx_tuple I.kIn ⟨o,h1,h2⟩ e (fun z=>nomatch z) h
 | @dK a kvs ea=>
  cases (show u=Value.ref a from rx)
  obtain⟨_,_,vs,_,p⟩:=(show ObjOk X.prog X.w H s.heap a (.dK kvs) from I.hok a _ ea)
  obtain⟨o,es,ep,h1,h2,_⟩:=p
  exact PySem.W.kia_one PySem.W.kitx_dict I.kIn ⟨o,h1,h2.1⟩ e (fun z=>nomatch z) h
 | @dT a kvs ea=>
  cases (show u=Value.ref a from rx)
  obtain⟨_,_,xs,_,o,es,ep,h1,h2,_⟩:=(show ObjOk X.prog X.w H s.heap a (.dT kvs) from I.hok a _ ea)
  exact PySem.W.kia_one PySem.W.kitx_dict I.kIn ⟨o,h1,h2.1⟩ e (fun z=>nomatch z) h
 | @ins a C dx fs ea cl ha hn htk hm=>
  cases (show u=Value.ref a from rx)
  obtain⟨mA,O,_⟩:=fm I.hok ea
  obtain⟨od,J,_⟩:=O.look
  exact PySem.W.kia_one (PySem.W.kitx_own (cl.get _) cl.hd ha hn htk hm) I.kIn J e (fun z=>nomatch z) h
end
structure Room (k:Nat) (A:Around):Prop where
 hd:A.handled=none
 dp:A.depth+3*k+5<recursionLimit
 un:A.units+16*k+200<cLine
 gd:A.guards=some []
theorem Room.mono {j k:Nat} (r:Room k A) (h:j<=k):Room j A:=⟨r.hd,by have:=r.dp; omega,by have:=r.un; omega,r.gd⟩
theorem Room.deeper {k:Nat} (r:Room (k+1) A) (env:Env):Room k (A.deeper env) :=
 ⟨r.hd,by have:=r.dp; show A.depth+1+3*k+5<_; omega,by have:=r.un; show A.units+3+16*k+200<_; omega,r.gd⟩
theorem jm {C:Addr}:(A.under (.builtin "type.__call__" ⟨.ref C::us,kw⟩)).depth=A.depth+1:=by
 first | rfl | simp[Around.under,Code.weight,Code.isCreation,Code.isGuard,Code.isCaller,Code.frames,Code.isFrame,guardIds]
theorem jl {C:Addr}:(A.under (.builtin "type.__call__" ⟨.ref C::us,kw⟩)).units=A.units+1:=by
 first | rfl | simp[Around.under,Code.cUnits,Code.frames,Code.isFrame]
theorem iP {C:Addr}:(A.under (.builtin "type.__call__" ⟨.ref C::us,kw⟩)).guards=A.guards:=by
 cases h:A.guards with
 | none=>simp[Around.under,Code.guards,Code.isGuard,guardIds,pushGuards,h]
 | some l=>simp[Around.under,Code.guards,Code.isGuard,guardIds,pushGuards,h]
theorem Room.make {k:Nat} (r:Room (k+1) A) (C:Addr) (us:List Value) (kw:List (Str×Value)):Room k (A.under (.builtin "type.__call__" ⟨.ref C::us,kw⟩)) :=
 ⟨r.hd,by have:=r.dp; rw[jm]; omega,by have:=r.un; rw[jl]; omega,by rw[iP]; exact r.gd⟩
theorem Room.depth {k:Nat} (r:Room k A):A.depth<recursionLimit:=by have:=r.dp; omega
theorem Room.units {k:Nat} (r:Room k A):A.units+64<cLine:=by have:=r.un; omega
noncomputable def iu:TA:=fun _ H Q=>Q [] H
noncomputable def iw (ta:TE) (tr:TA):TA:=fun σ H Q=>ta σ H fun x H1=>tr σ H1 fun xs H2=>Q (x::xs) H2
section
variable {X:Cx}{e:Expr}{es:List Expr}{te:TE}{t:TA}{pos:Pos}
theorem ag:PA X [] iu:=fun _ _ _ _ H Q I h=>Calls.spliced_nil ⟨[],H,I,.nil,h⟩
theorem aa (ha:PE X e te) (hr:PA X es t) (hs:starEach (e::es) X.env=(false,eval e X.env)::starEach es X.env:=by rfl):PA X (e::es) (iw te t):=by
 intro pos pins s σ H Q I h
 rw[hs]
 show wpAny _ _ (spliced ((false,eval e X.env)::backTo pos (starEach es X.env))) _ _ s
 refine Calls.spliced_cons (thn (ha pins s σ H _ I h) fun u s1 ⟨x,H1,I1,r1,q1⟩=>?_)
 exact thn (hr pos pins s1 σ H1 _ I1 q1) fun us s2 ⟨xs,H2,I2,r2,q2⟩=>⟨x::xs,H2,I2,.cons r1 r2,q2⟩
noncomputable def tTup (t:TA):TE:=fun σ H Q=>t σ H fun xs H1=>xs.length<=sizeLine/\∀ p,H1 p=none->Q (.ref p) (upd H1 p (.tup xs))
noncomputable def tLst (t:TA):TE:=fun σ H Q=>t σ H fun xs H1=>xs.length<=sizeLine/\∀ p,H1 p=none->Q (.ref p) (upd H1 p (.lst xs))
theorem az {x1} (h:PA X es t):PE X (.Tuple es x1 pos) (tTup t):=by
 intro pins s σ H Q I hq
 refine wpAny_Tuple_spliced (thn (h pos pins s σ H _ I hq) fun us s1 ⟨xs,H1,I1,r,z,q⟩=>⟨by rw[<- r.length]; exact z,?_⟩)
 have hf:H1 s1.heap.objs.size=none:=I1.hok.fresh (Nat.le_refl _)
 refine⟨.ref s1.heap.objs.size,upd H1 s1.heap.objs.size (.tup xs),I1.laid (t':=s1.toks) (fun b u e=>Heap.get?_push_of_some _ e) (Nat.le_refl _) ?_,U,q _ hf⟩
 exact⟨z,us,r,⟨_,Heap.get?_push_size _ rfl,U,_,U⟩⟩
theorem aX (h:PA X es t):PE X (.List es pos) (tLst t):=by
 intro pins s σ H Q I hq
 refine wpAny_List_spliced (thn (h pos pins s σ H _ I hq) fun us s1 ⟨xs,H1,I1,r,z,q⟩=>⟨by rw[<- r.length]; exact z,?_⟩)
 have hf:H1 s1.heap.objs.size=none:=I1.hok.fresh (Nat.le_refl _)
 refine⟨.ref s1.heap.objs.size,upd H1 s1.heap.objs.size (.lst xs),I1.laid (t':=s1.toks) (fun b u e=>Heap.get?_push_of_some _ e) (Nat.le_refl _) ?_,U,q _ hf⟩
 exact⟨z,us,0,r,Heap.get?_push_size _ rfl⟩
end
noncomputable abbrev Sp:=List V->Hp->VK->XK->Prop
noncomputable abbrev CXT:=List Env->Hp->Shared->XK->Value->Shared->Prop
structure Env0 (P:Program) (w:World) (K:PySem.W.Frag) (mg:Str->Option Value) (base:Heap) (A:Around) (outer:List Env) (s:Shared) (H:Hp):Prop where
 frames:A.frames=some outer
 mod:Mod K mg base
 bs:∀ b o,base.get? b=some o->s.heap.get? b=some o/\H b=none
 bsz:base.objs.size<=s.heap.objs.size
 funs:s.heap.FunFrames base outer
 frf:∀ b ∈ frs outer,H b=none
 hok:HOk P w H s.heap
 bare:AllBare s.gens
noncomputable def CE (outer:List Env) (P:Program) (w:World) (H:Hp) (s:Shared) (Q:VK) (u:Value) (s':Shared):Prop :=
 ∃ v H',s'.os=s.os/\AllBare s'.gens/\Un (frs outer) [] H H' s.heap s'.heap/\HOk P w H' s'.heap/\RelV v u/\Q v H'
noncomputable def CR (CX:CXT) (outer:List Env) (P:Program) (w:World) (H:Hp) (s:Shared) (Q:VK) (E:XK) (r:Result) (s':Shared):Prop :=
 match r with
 | .ok (.ret u)=>CE outer P w H s Q u s'
 | .ok _=>False
 | .error e=>CX outer H s E e s'
structure FnOk (P:Program) (w:World) (K:PySem.W.Frag) (mg:Str->Option Value) (base:Heap) (CX:CXT) (k:Nat) (f:Addr) (fd:FuncData) (ps:List Str) (sp:Sp):Prop where
 len:∀ vs H Q E,sp vs H Q E->vs.length=ps.length
 run:∀ (A:Around) (outer:List Env) (s:Shared) (H:Hp) (args:Args) (us:List Value) (vs:List V) (Q:VK) (E:XK),Room k A->Env0 P w K mg base A outer s H->BindsTo s fd args (ps.zip us)->Vals vs us->sp vs H Q E ->
  codeAny (model P w) A (.call (.ref f) args) (CR CX outer P w H s Q E) s
variable{mg:Str->Option Value}
theorem Env0.make {w:World}{base:Heap}{outer:List Env} (e:Env0 P w K mg base A outer s H) (C:Addr) (us:List Value) (kw:List (Str×Value)) :
  Env0 P w K mg base (A.under (.builtin "type.__call__" ⟨.ref C :: us,kw⟩)) outer s H:=⟨by first | exact e.frames | (simpa [Around.under,Code.envs,Code.isFrame,pushEnvs] using e.frames),e.mod,e.bs,e.bsz,e.funs,e.frf,e.hok,e.bare⟩
section
variable {X:Cx}{pins:List (Addr×Obj)}{σ:St}{H:Hp}{s s':Shared}
theorem Inv.env0 (I:Inv X pins σ H s):Env0 X.prog X.w X.K X.mg X.base X.A X.stack s H :=
 ⟨I.ok.frames,I.ok.mod,I.bs,Nat.le_trans I.ok.bsz I.sz,I.stack,I.stkFree,I.hok,I.bare⟩
theorem Inv.after {Q:VK}{u:Value} (I:Inv X pins σ H s) (h:CE X.stack X.prog X.w H s Q u s'):EP X pins σ Q u s':=by
 obtain⟨v,H',os,bare,un,hok,r,q⟩:=h
 obtain⟨hh,g,d,t,os'⟩:=s'
 obtain rfl:os'=s.os:=os
 exact⟨v,H',I.call (h':=hh) (g':=g) (d':=d) (t':=t) (ch:=[]) un hok bare (fun b z=>absurd z (by simp)),r,q⟩
end
noncomputable def oO (sp:Sp) (dvs:List V) (E:XK) (t:TA):TE:=fun σ H Q=>t σ H fun vs H1=>sp (vs++dvs) H1 Q E
inductive TM_ (C:Addr) (m:Str) (x:V) (H:Hp) (R:Prop):Prop
 | mk (a dx:Addr) (fs:List (Str×V)) (h1:x=.ref a) (h2:H a=some (.ins C dx fs)) (h3:fs.lookup m=none) (q:R):TM_ C m x H R
noncomputable def lf (C:Addr) (m:Str) (sp:Sp) (dvs:List V) (E:XK) (ta:TE) (t:TA):TE:=fun σ H Q=>ta σ H fun x H1=>TM_ C m x H1 (t σ H1 fun vs H2=>sp (x::(vs++dvs)) H2 Q E)
noncomputable def oM (C:Addr) (sp:Sp) (dvs:List V) (E:XK) (t:TA):TE:=fun σ H Q=>t σ H fun vs H1=>∀ x dx,H1 x=none->H1 dx=none->dx≠x ->
 sp (.ref x::(vs++dvs)) (upd (upd H1 dx (.own x)) x (.ins C dx [])) (fun v H2=>v=.non/\Q (.ref x) H2) E
noncomputable def Binds (K:PySem.W.Frag) (fd:FuncData) (ps:List Str) (ds:List Value):Prop :=
 ∀ (s:Shared) (us:List Value),K.In s.heap->(us++ds).length=ps.length->BindsTo s fd ⟨us,[]⟩ (ps.zip (us++ds))
theorem Binds.all {fd:FuncData}{ps:List Str} (h:∀ us:List Value,us.length=ps.length->bindArgs fd ⟨us,[]⟩=pure (ps.zip us)):Binds K fd ps []:=fun s us _ hl=>by
 rw[ue] at hl ⊢
 exact .of_eq (h us hl)
noncomputable def cv (CX:CXT) (X:Cx) (E:XK):Prop:=∀ (pins:List (Addr×Obj)) (σ:St) (H:Hp) (s:Shared) (e:Value) (s':Shared),Inv X pins σ H s->CX X.stack H s E e s'->X.xe e s'
section
variable {X:Cx}{CX:CXT}{k:Nat}{f C:Addr}{fd:FuncData}{ps:List Str}{sp:Sp}{dvs:List V}{ds:List Value}{E:XK}{x m:Str}{p pos apos:Pos}{e o:Expr}{es:List Expr}{ta:TE}{t:TA}
theorem jd {Q:VK}{us:List Value}{vs:List V} (F:FnOk X.prog X.w X.K X.mg X.base CX k f fd ps sp) (hr:Room k X.A) (hb:Binds X.K fd ps ds) (hd:Vals dvs ds) (hx:cv CX X E)
  (I:Inv X pins σ H s) (r:Vals vs us) (h:sp (vs++dvs) H Q E):wpAny (model X.prog X.w) X.A (call (.ref f) us) (EP X pins σ Q) X.xe s:=by
 have r2:Vals (vs++dvs) (us++ds):=r.append hd
 have hl:(us++ds).length=ps.length:=by rw[<- r2.length]; exact F.len _ _ _ _ h
 refine wpAny_call (codeAny_mono (F.run X.A X.stack s H ⟨us,[]⟩ (us++ds) (vs++dvs) Q E hr I.env0 (hb s us I.kIn hl) r2 h) fun r s' hq=>?_)
 cases r with
 | error e=>exact hx pins σ H s e s' I hq
 | ok fl=>
  cases fl with
  | ret u=>exact I.after hq
  | next=>exact False.elim hq
  | brk=>exact False.elim hq
  | cont=>exact False.elim hq
theorem nQ (F:FnOk X.prog X.w X.K X.mg X.base CX k f fd ps sp) (hr:Room k X.A) (hg:Gl X x) (hm:X.mg x=some (.ref f)) (hk:W.keepIn X.K (.ref f)=true) (hb:Binds X.K fd ps ds) (hd:Vals dvs ds) (hx:cv CX X E)
  (ha:PA X (e::es) t) (hdb:(x == ("__debug__" : Str))=false:=by decide) (he:starEach (e::es) X.env=(false,eval e X.env)::starEach es X.env:=by rfl) (hpl:(backTo pos (starEach es X.env)).any (·.1)=false:=by rfl) :
  PE X (.Call (.Name x p) (e::es) [] pos) (oO sp dvs E t):=by
 intro pins s σ H Q I h
 refine wpAny_Call_Name_kw (fj I hg hm ?_ hdb)
 refine PySem.W.callWith_K (h₀:=X.base) I.ok.mod.kin hk (thn (ha pos pins s σ H _ I h) fun us s1 ⟨vs,H1,I1,r,q⟩=>⟨I1.kIn,?_⟩) he hpl
 exact jd F hr hb hd hx I1 r q
theorem aC {pl:Sem Bool}{nr:Nat} (he:PE X o ta) (c:Cls X.K C) (hm:Meth X.K C m f) (F:FnOk X.prog X.w X.K X.mg X.base CX k f fd ps sp) (hr:Room nr X.A) (hb:Binds X.K fd ps ds) (hd:Vals dvs ds) (hx:cv CX X E) (ha:PA X (e::es) t)
  (hst:starEach (e::es) X.env=(false,eval e X.env)::starEach es X.env:=by rfl) (hpl:(backTo pos (starEach es X.env)).any (·.1)=false:=by rfl)
  (ht:eval (.Call (.Attribute o m apos) (e::es) [] pos) X.env=(do
   let ov <- eval o X.env
   standAt apos.atName
   let (f,first) <- holding [ov] (getMethod ov m pl)
   callWith pos f first (backTo pos (starEach (e::es) X.env)) (backToKw pos (keywordEach [] X.env))):=by rfl) (hj:k<=nr:=by decide) :
  PE X (.Call (.Attribute o m apos) (e::es) [] pos) (lf C m sp dvs E ta t):=by
 intro pins s σ H Q I h
 refine PySem.W.methodCall_KW (pl:=pl) (thn (he pins s σ H _ I h) fun u s1 ⟨x,H1,I1,rx,a,dx,fs,ex,ea,l,q⟩=>?_) ht
 subst ex
 obtain rfl:u=Value.ref a:=rx
 refine dr I1 ea c hm l ?_
 refine PySem.W.callWith_K (first:=[.ref a]) (h₀:=X.base) I.ok.mod.kin hm.kp (thn (ha pos pins s1 σ H1 _ I1 q) fun us s2 ⟨vs,H2,I2,r,q2⟩=>⟨I2.kIn,?_⟩) hst hpl
 exact jd (us:=.ref a::us) (vs:=.ref a::vs) F (hr.mono hj) hb hd hx I2 (.cons rfl r) q2
theorem aV {pl:Sem Bool}{nr:Nat} (he:PE X o ta) (c:Cls X.K C) (hm:Meth X.K C m f) (F:FnOk X.prog X.w X.K X.mg X.base CX k f fd ps sp) (hr:Room nr X.A) (hb:Binds X.K fd ps ds) (hd:Vals dvs ds) (hx:cv CX X E)
  (ht:eval (.Call (.Attribute o m apos) [] [] pos) X.env=(do
   let ov <- eval o X.env
   standAt apos.atName
   let (f,first) <- holding [ov] (getMethod ov m pl)
   callWith pos f first (backTo pos (starEach [] X.env)) (backToKw pos (keywordEach [] X.env))):=by rfl) (hj:k<=nr:=by decide) :
  PE X (.Call (.Attribute o m apos) [] [] pos) (lf C m sp dvs E ta iu):=by
 intro pins s σ H Q I h
 refine PySem.W.methodCall_KW (pl:=pl) (thn (he pins s σ H _ I h) fun u s1 ⟨x,H1,I1,rx,a,dx,fs,ex,ea,l,q⟩=>?_) ht
 subst ex
 obtain rfl:u=Value.ref a:=rx
 refine dr I1 ea c hm l ?_
 exact PySem.W.callWith_K0 (first:=[.ref a]) I1.kIn hm.kp (jd (us:=[.ref a]) (vs:=[.ref a]) F (hr.mono hj) hb hd hx I1 (.cons rfl .nil) q)
structure Mk (K:PySem.W.Frag) (C f:Addr):Prop where
 makes:W.makesIn K C=true
 init:W.findIn K (.ref C) "__init__" = some (some (.ref f))
 fn:W.isFn K (.ref f)=true
 kp:W.keepIn K (.ref C)=true
theorem iC {Q:VK}{us:List Value}{vs:List V} (M:Mk X.K C f) (F:FnOk X.prog X.w X.K X.mg X.base CX k f fd ps sp) (hr:Room (k+1) X.A) (hb:Binds X.K fd ps ds) (hd:Vals dvs ds)
  (hx:cv CX X E) (I:Inv X pins σ H s) (r:Vals vs us)
  (h:∀ x dx,H x=none->H dx=none->dx≠x->sp (.ref x::(vs++dvs)) (upd (upd H dx (.own x)) x (.ins C dx [])) (fun v H2=>v=.non/\Q (.ref x) H2) E) :
  wpAny (model X.prog X.w) X.A (call (.ref C) us) (EP X pins σ Q) X.xe s:=by
 have hq:=h (s.heap.objs.size+1) s.heap.objs.size (I.hok.fresh (Nat.le_succ _)) (I.hok.fresh (Nat.le_refl _)) (Nat.ne_of_lt (Nat.lt_succ_self _))
 have I2:=Inv.made (C:=C) I
 have r2:Vals (V.ref (s.heap.objs.size+1)::(vs++dvs)) (Value.ref (s.heap.objs.size+1)::(us++ds)):=.cons rfl (r.append hd)
 have hl:(Value.ref (s.heap.objs.size+1)::us++ds).length=ps.length:=by
  have e:=r2.length
  rw[F.len _ _ _ _ hq] at e
  exact e.symm
 refine wpAny_call (mH (f:=f) I.kIn M.makes M.init (beq_iff_eq.mp M.fn) (codeAny_mono (F.run _ X.stack _ _ ⟨Value.ref (s.heap.objs.size+1)::us,[]⟩ (Value.ref (s.heap.objs.size+1)::(us++ds)) _ _ E (hr.make C us [])
  (I2.env0.make C us []) (hb _ (Value.ref (s.heap.objs.size+1)::us) I2.kIn hl) r2 hq) fun r s' hq'=>?_))
 cases r with
 | error e=>exact hx pins σ _ _ e s' I2 hq'
 | ok fl=>
  cases fl with
  | ret u=>
   obtain⟨v,H',I3,rv,ev,q3⟩:=I2.after hq'
   subst ev
   exact⟨rv,⟨V.ref (s.heap.objs.size+1),H',I3,U,q3⟩⟩
  | next=>exact False.elim hq'
  | brk=>exact False.elim hq'
  | cont=>exact False.elim hq'
theorem hU (M:Mk X.K C f) (F:FnOk X.prog X.w X.K X.mg X.base CX k f fd ps sp) (hr:Room (k+1) X.A) (hg:Gl X x) (hm:X.mg x=some (.ref C)) (hb:Binds X.K fd ps ds) (hd:Vals dvs ds) (hx:cv CX X E)
  (ha:PA X (e::es) t) (hdb:(x == ("__debug__" : Str))=false:=by decide) (he:starEach (e::es) X.env=(false,eval e X.env)::starEach es X.env:=by rfl) (hpl:(backTo pos (starEach es X.env)).any (·.1)=false:=by rfl) :
  PE X (.Call (.Name x p) (e::es) [] pos) (oM C sp dvs E t):=by
 intro pins s σ H Q I h
 refine wpAny_Call_Name_kw (fj I hg hm ?_ hdb)
 refine PySem.W.callWith_K (h₀:=X.base) I.ok.mod.kin M.kp (thn (ha pos pins s σ H _ I h) fun us s1 ⟨vs,H1,I1,r,q⟩=>⟨I1.kIn,?_⟩) he hpl
 exact iC M F hr hb hd hx I1 r q
theorem lW (M:Mk X.K C f) (F:FnOk X.prog X.w X.K X.mg X.base CX k f fd ps sp) (hr:Room (k+1) X.A) (hg:Gl X x) (hm:X.mg x=some (.ref C)) (hb:Binds X.K fd ps ds) (hd:Vals dvs ds) (hx:cv CX X E)
  (hdb:(x == ("__debug__" : Str))=false:=by decide):PE X (.Call (.Name x p) [] [] pos) (oM C sp dvs E iu):=by
 intro pins s σ H Q I h
 refine wpAny_Call_Name_kw (fj I hg hm ?_ hdb)
 exact PySem.W.callWith_K0 I.kIn M.kp (iC (us:=[]) M F hr hb hd hx I .nil h)
end
noncomputable def PK (X:Cx) (kws:List Keyword) (t:TA):Prop :=
 ∀ (pos:Pos) (pins:List (Addr×Obj)) (s:Shared) (σ:St) (H:Hp) (Q:List V->Hp->Prop),Inv X pins σ H s->t σ H Q->wpAny (model X.prog X.w) X.A (evalAll ((backToKw pos (keywordEach kws X.env)).map (·.2))) (AP X pins σ Q) X.xe s
section
variable {X:Cx}{CX:CXT}{k:Nat}{f C:Addr}{fd:FuncData}{ps ks:List Str}{sp:Sp}{E:XK}{x m:Str}{p pos apos kpos:Pos}{e o:Expr}{es:List Expr}{kws:List Keyword}{te ta:TE}{t tk:TA}{nm:Option Str}
theorem jf:PK X [] iu:=fun _ _ _ _ H Q I h=>wpAny_evalAll_nil ⟨[],H,I,.nil,h⟩
theorem g9 (ha:PE X e te) (hr:PK X kws t):PK X (⟨nm,e,kpos⟩::kws) (iw te t):=by
 intro pos pins s σ H Q I h
 show wpAny _ _ (evalAll ((do let v <- eval e X.env; standAt pos; pure v)::(backToKw pos (keywordEach kws X.env)).map (·.2))) _ _ s
 refine wpAny_evalAll_cons (wpAny_bind (thn (ha pins s σ H _ I h) fun u s1 ⟨x,H1,I1,r1,q1⟩=>wpAny_bind (wpAny_standAt (wpAny_pure ?_))))
 exact thn (hr pos pins s1 σ H1 _ I1 q1) fun us s2 ⟨xs,H2,I2,r2,q2⟩=>⟨x::xs,H2,I2,.cons r1 r2,q2⟩
structure KBinds (K:PySem.W.Frag) (fd:FuncData) (ps ks:List Str) (g:List Value->List Value->List Value) (gV:List V->List V->List V):Prop where
 to:∀ (s:Shared) (us ws:List Value),K.In s.heap->(g us ws).length=ps.length->BindsTo s fd ⟨us,ks.zip ws⟩ (ps.zip (g us ws))
 rel:∀ {vs:List V}{us:List Value}{zs:List V}{ws:List Value},Vals vs us->Vals zs ws->Vals (gV vs zs) (g us ws)
variable {g:List Value->List Value->List Value}{gV:List V->List V->List V}
theorem nL {Q:VK}{us ws:List Value}{vs zs:List V} (F:FnOk X.prog X.w X.K X.mg X.base CX k f fd ps sp) (hr:Room k X.A) (hb:KBinds X.K fd ps ks g gV) (hx:cv CX X E)
  (I:Inv X pins σ H s) (r:Vals vs us) (rz:Vals zs ws) (h:sp (gV vs zs) H Q E):wpAny (model X.prog X.w) X.A (call (.ref f) us (ks.zip ws)) (EP X pins σ Q) X.xe s:=by
 have r2:=hb.rel r rz
 have hl:(g us ws).length=ps.length:=by rw[<- r2.length]; exact F.len _ _ _ _ h
 refine wpAny_call (codeAny_mono (F.run X.A X.stack s H ⟨us,ks.zip ws⟩ (g us ws) (gV vs zs) Q E hr I.env0 (hb.to s us ws I.kIn hl) r2 h) fun r s' hq=>?_)
 cases r with
 | error e=>exact hx pins σ H s e s' I hq
 | ok fl=>
  cases fl with
  | ret u=>exact I.after hq
  | next=>exact False.elim hq
  | brk=>exact False.elim hq
  | cont=>exact False.elim hq
end
structure FnScope (N P:List Str) (sc:Scope):Prop where
 kind:sc.kind=.function:=by rfl
 co:sc.isCoroutine=false:=by rfl
 gen:sc.isGenerator=false:=by rfl
 nd:N.Nodup:=by decide +kernel
 pre:N.take P.length=P:=by rfl
 par:∀ x ∈ P,sc.names.lookup x=some .local∨sc.names.lookup x=some .cell:=by decide +kernel
 nofree:∀ y ∈ sc.names,y.2≠.free:=by decide +kernel
theorem gQ {kindOf : Str->Option NameKind}{x : Str} : ∀ {binds : List (Str×Value)}{m : Str->Option Value}, (∀ v, (x, v) ∉ binds)->bindL kindOf binds m x=m x
  | [], _, _=>rfl
  | (n, v) :: r, m, h => by
    unfold bindL
    rw[gQ fun w hw=>h w (tK _ hw)]
    split
    · have : x≠n := by rintro rfl; exact h v tM
      simp[this]
    · rfl
theorem gT {kindOf : Str->Option NameKind}{x : Str} : ∀ {binds : List (Str×Value)}{m : Str->Option Value}, (∀ v, (x, v) ∉ binds)->bindC kindOf binds m x=m x
  | [], _, _=>rfl
  | (n, v) :: r, m, h => by
    unfold bindC
    rw[gT fun w hw=>h w (tK _ hw)]
    split
    · rfl
    · have : x≠n := by rintro rfl; exact h v tM
      simp[this]
theorem gR {kindOf:Str->Option NameKind}{x:Str}{v:Value}:∀ {P:List Str}{vs:List Value}{i:Nat}{m:Str->Option Value},P.Nodup->P[i]?=some x->vs[i]?=some v->kindOf x=some .local ->
  bindL kindOf (P.zip vs) m x=some v
 | [],_,_,_,_,h,_,_=>by simp at h
 | _::_,[],_,_,_,_,h,_=>by simp at h
 | p::P,w::vs,0,m,nd,h1,h2,hk=>by
  simp at h1 h2; subst h1; subst h2
  show bindL kindOf ((p,w)::P.zip vs) m p=_
  unfold bindL
  rw[gQ fun v hv=>(List.nodup_cons.mp nd).1 (List.of_mem_zip hv).1,if_pos hk]
  simp
 | p::P,w::vs,i+1,m,nd,h1,h2,hk=>by
  show bindL kindOf ((p,w)::P.zip vs) m x=_
  unfold bindL
  exact gR (i:=i) (List.nodup_cons.mp nd).2 (by simpa using h1) (by simpa using h2) hk
theorem gU {kindOf:Str->Option NameKind}{x:Str}{v:Value}:∀ {P:List Str}{vs:List Value}{i:Nat}{m:Str->Option Value},P.Nodup->P[i]?=some x->vs[i]?=some v->kindOf x≠some .local ->
  bindC kindOf (P.zip vs) m x=some v
 | [],_,_,_,_,h,_,_=>by simp at h
 | _::_,[],_,_,_,_,h,_=>by simp at h
 | p::P,w::vs,0,m,nd,h1,h2,hk=>by
  simp at h1 h2; subst h1; subst h2
  show bindC kindOf ((p,w)::P.zip vs) m p=_
  unfold bindC
  rw[gT fun v hv=>(List.nodup_cons.mp nd).1 (List.of_mem_zip hv).1,if_neg hk]
  simp
 | p::P,w::vs,i+1,m,nd,h1,h2,hk=>by
  show bindC kindOf ((p,w)::P.zip vs) m x=_
  unfold bindC
  exact gU (i:=i) (List.nodup_cons.mp nd).2 (by simpa using h1) (by simpa using h2) hk
noncomputable def start (N:List Str) (vs:List V):St:=vs.map some++List.replicate (N.length - vs.length) none
noncomputable def kK (CX:CXT) (P:Program) (w:World) (K:PySem.W.Frag) (mg:Str->Option Value) (base:Heap) (N:List Str) (qual:Str) (scope:Scope) (f:Addr) (cd:Value) (A:Around) (outer:List Env) (s:Shared) (H:Hp) (E:XK):Cx where
 prog:=P
 w:=w
 K:=K
 mg:=mg
 base:=base
 A:=A.deeper (envOfC qual scope s.heap.objs.size f cd)
 N:=N
 s₀:=s
 H₀:=H
 env:=envOfC qual scope s.heap.objs.size f cd
 outer:=outer
 stack:=envOfC qual scope s.heap.objs.size f cd::outer
 ex:=[]
 calm:=true
 fn:=fun _=>true
 pn:=[]
 xe:=fun e s'=>wpAny (model P w) (A.deeper (envOfC qual scope s.heap.objs.size f cd)) (leaving (envOfC qual scope s.heap.objs.size f cd) e) (fun _ s''=>CX outer H s E e s'') (fun e' s''=>CX outer H s E e' s'') s'
theorem iV {sc:Scope}{n:Nat}{x:Str} (h:sc.names.lookup x=some .cell):∃ c,(cellsFrom n sc.names []).lookup x=some c:=by
 have q:=PySem.W.cellsFrom_some sc.names n [] (.inl h)
 exact Option.isSome_iff_exists.mp q
theorem ku {CX:CXT}{w:World}{base:Heap}{N ps:List Str}{qual:Str}{scope:Scope}{f:Addr}{cd:Value}{outer:List Env}{s s1:Shared}{E:XK}{vs:List V}
  (S:FnScope N ps scope) (hd:A.handled=none) (e0:Env0 P w K mg base A outer s H) (hl:vs.length=ps.length) (r:Vals vs us)
  (x:InCallC s s.heap.objs.size (bindL (envOfC qual scope s.heap.objs.size f cd).kindOf (ps.zip us) fun _=>none) (cellsFrom (s.heap.objs.size+1) scope.names []) (bindC (envOfC qual scope s.heap.objs.size f cd).kindOf (ps.zip us) fun _=>none) s1) :
  Inv (kK CX P w K mg base N qual scope f cd A outer s H E) [] (start N vs) H s1:=by
 have hpl:ps.length<=N.length:=by have:=congrArg List.length S.pre; rw[ub] at this; omega
 obtain⟨h1,tk,rfl,hk⟩:=x.done
 have noA:∀ b:Addr,b ∉ (kK CX P w K mg base N qual scope f cd A outer s H E).ex:=fun b z=>absurd (show b ∈ ([]:List Addr) from z) (by simp)
 refine⟨⟨e0.mod,S.kind,U,U,Nat.le_refl _,fun y z c h1 h2=>?_,fun y hy=>?_,fun y c _ h=>?_,fun _=>hd,Around.frames_deeper e0.frames,.inr ⟨U,U⟩,fun b z=>absurd z (noA b),e0.bs,e0.bsz,fun b _ _=>noA b,fun b z=>absurd z (noA b),e0.funs,e0.frf⟩,
  rfl,e0.bare,Un.kept hk,⟨_,x.toInCall.ns,fun i y v h1 h2 h3=>?_⟩,fun y c h=>⟨_,x.cell y c h⟩,e0.hok.fresh (Nat.le_refl _),fun y c h=>?_,fun p hp=>absurd (show p ∈ ([]:List (Addr×Obj)) from hp) (by simp),e0.hok.kept hk,?_⟩
 ·exact name_of_addr x.apart (PySem.mem_of_lookup h1) (PySem.mem_of_lookup h2)
 ·have hy:scope.names.lookup y=some .cell∨scope.names.lookup y=some .free:=hy
  rcases hy with hy | hy
  ·exact iV hy
  ·exact absurd rfl (S.nofree _ (PySem.mem_of_lookup hy))
 ·exact Nat.le_of_lt (x.above y c (PySem.mem_of_lookup h))
 ·have hi:i<vs.length:=by
   unfold start at h2
   by_cases hi:i<vs.length
   ·exact hi
   ·rw[t8 (by simpa using hi)] at h2
    rw[List.getElem?_replicate] at h2
    split at h2 <;> cases h2
  have ha:vs[i]?=some v:=by
   unfold start at h2
   rw[t9 (by simpa using hi),tS] at h2
   cases e:vs[i]? with
   | none=>rw[e] at h2; cases h2
   | some a=>rw[e] at h2; cases h2; rfl
  obtain⟨u,hu,rv⟩:=r.get ha
  have hp:ps[i]?=some y:=by
   rw[<- S.pre,List.getElem?_take_of_lt (by omega)]; exact h1
  have ndP:ps.Nodup:=by rw[<- S.pre]; exact S.nd.sublist (List.take_sublist _ _)
  refine⟨u,rv,?_⟩
  rcases S.par y (tO hp) with k | k
  ·exact .inl ⟨k,gR ndP hp hu k⟩
  ·obtain⟨c,e⟩:=iV (n:=s.heap.objs.size+1) k
   refine .inr ⟨.inl k,c,e,?_⟩
   have q:=x.cell y c e
   rw[gU ndP hp hu (by show scope.names.lookup y≠_; rw[k]; decide)] at q
   exact q
 ·exact e0.hok.fresh (Nat.le_of_lt (x.above y c (PySem.mem_of_lookup h)))
 ·unfold start
  show _=N.length
  rw[tW,tP,tZ]
  omega
theorem fn_of {CX:CXT}{w:World}{base:Heap}{k:Nat}{f:Addr}{name qual:Str}{params:Arguments}{body:List Stmt}{scope:Scope}{dV kV doc pm cdv ct oc:Value}{an od:Option Addr}
  {osl:Array (Option Value)}{N ps:List Str}{sp:Sp} (lk:K.lookup f=some ⟨oc,od,.func (W.fnOf name qual params body scope dV kV doc pm an cdv ct),osl⟩) (hcd:W.codeIn K cdv qual=true) (S:FnScope N ps scope)
  (len:∀ vs H Q E,sp vs H Q E->vs.length=ps.length)
  (hbody:∀ (A:Around) (outer:List Env) (s:Shared) (H:Hp) (vs:List V) (Q:VK) (E:XK),Room k (A.deeper (envOfC qual scope s.heap.objs.size f cdv))->sp vs H Q E ->
   ∃ t,PSs (kK CX P w K mg base N qual scope f cdv A outer s H E) body t/\t { nx:=fun _ H'=>Q .non H',rt:=Q } (start N vs) H) :
  FnOk P w K mg base CX (k+1) f (W.fnOf name qual params body scope dV kV doc pm an cdv ct) ps sp:=by
 refine⟨len,fun A outer s H args us vs Q E hr e0 hb r hsp=>?_⟩
 have hl:=len _ _ _ _ hsp
 have KX:K.In s.heap:=e0.mod.kin.keeps fun b o e=>(e0.bs b o e).1
 have lim:s.heap.NoLimit:=e0.mod.nolimit.keeps fun b o e=>(e0.bs b o e).1
 have hkind:∀ y ∈ ps.zip us,scope.names.lookup y.1=some .local∨(scope.names.lookup y.1=some .cell/\((cellsFrom (s.heap.objs.size+1) scope.names []).lookup y.1).isSome=true):=fun⟨n,v⟩ hy=>by
  rcases S.par n (List.of_mem_zip hy).1 with q | q
  ·exact .inl q
  ·exact .inr ⟨q,PySem.W.cellsFrom_some _ _ _ (.inl q)⟩
 refine codeAny_call_function hr.depth (KX _ _ lk) rfl S.co S.gen rfl (PySem.W.codeRec_of KX hcd) (hb _ _ _ _ ?_)
 refine wpAny_newFunctionEnv_cells S.kind hkind fun env he s1 x=>?_
 subst he
 refine⟨lim.keeps x.toInCall.keep,codeAny_func ?_⟩
 obtain⟨t,ht,hq⟩:=hbody A outer s H vs Q E (hr.deeper _) hsp
 have I:Inv (kK CX P w K mg base N qual scope f cdv A outer s H E) [] (start N vs) H s1:=ku S hr.hd e0 hl r x
 refine wpAny_mono (ht [] s1 (start N vs) H _ I hq) (fun fl s' hs=>?_) fun e s' hs=>hs
 have fin:∀ {σ':St}{H':Hp}{v:V}{u:Value},Inv (kK CX P w K mg base N qual scope f cdv A outer s H E) [] σ' H' s'->RelV v u->Q v H'->CE outer P w H s Q u s' :=
  fun {σ' H' v u} J rv q=>⟨v,H',J.os,J.bare,J.base,J.hok,rv,q⟩
 cases fl with
 | ret u=>
  obtain⟨v,σ',H',J,rv,q⟩:=hs
  exact fin J rv q
 | next=>
  obtain⟨σ',H',J,q⟩:=hs
  exact fin (v:=V.non) (u:=Value.none) J rfl q
 | brk=>
  obtain⟨_,_,_,q⟩:=hs
  exact False.elim q
 | cont=>
  obtain⟨_,_,_,q⟩:=hs
  exact False.elim q
section
variable {X:Cx}{x:Str}{p pos:Pos}{e:Expr}{es:List Expr}{t:TA}{id T:String}{r:List V->Hp->VK->Prop}
noncomputable def tCB (r:List V->Hp->VK->Prop) (t:TA):TE:=fun σ H Q=>t σ H fun vs H1=>r vs H1 Q
theorem aN (hc:c7 X (.builtin id) r) (hg:Gl X x) (hm:X.mg x=none) (hv:bootBuiltins x=some (.builtin id)) (ha:PA X (e::es) t) (hn:x ≠ "__name__":=by decide) (hdb:(x == ("__debug__" : Str))=false:=by decide)
  (he:starEach (e::es) X.env=(false,eval e X.env)::starEach es X.env:=by rfl) (hpl:(backTo pos (starEach es X.env)).any (·.1)=false:=by rfl):PE X (.Call (.Name x p) (e::es) [] pos) (tCB r t):=by
 intro pins s σ H Q I h
 refine wpAny_Call_Name_kw (cR I hg hm hv ?_ hn hdb)
 exact PyProof.Rows.callWith_builtin1 (thn (ha pos pins s σ H _ I h) fun us s1 ⟨vs,H1,I1,r1,q1⟩=>hc pins s1 σ H1 vs us Q I1 r1 q1) he hpl
theorem a9 (hc:c7 X (.type T) r) (hg:Gl X x) (hm:X.mg x=none) (hv:bootBuiltins x=some (.type T)) (ha:PA X (e::es) t) (hn:x ≠ "__name__":=by decide) (hdb:(x == ("__debug__" : Str))=false:=by decide)
  (he:starEach (e::es) X.env=(false,eval e X.env)::starEach es X.env:=by rfl) (hpl:(backTo pos (starEach es X.env)).any (·.1)=false:=by rfl):PE X (.Call (.Name x p) (e::es) [] pos) (tCB r t):=by
 intro pins s σ H Q I h
 refine wpAny_Call_Name_kw (cR I hg hm hv ?_ hn hdb)
 exact PyProof.Rows.callWith_type1 (thn (ha pos pins s σ H _ I h) fun us s1 ⟨vs,H1,I1,r1,q1⟩=>hc pins s1 σ H1 vs us Q I1 r1 q1) he hpl
end
end L2
namespace L2
open PySem PySem.Spec PyProof.Rows
section
variable {κ:Type} [DecidableEq κ]
noncomputable def aG (kvs:List (κ×V)) (k:κ):Option V:=(kvs.find? fun kv=>decide (kv.1=k)).map (·.2)
noncomputable def aM (kvs:List (κ×V)) (k:κ) (v:V):List (κ×V) :=
 if (kvs.any fun kv=>decide (kv.1=k))=true then kvs.map (fun kv=>if kv.1=k then(kv.1,v) else kv) else kvs++[(k,v)]
noncomputable def pU (kvs:List (κ×V)) (k:κ):List (κ×V):=kvs.filter fun kv=>decide (kv.1≠k)
theorem bu {p:κ×V}{r:List (κ×V)}{k:κ} (e:p.1=k):aG (p::r) k=some p.2:=by simp[aG,uf,e]
theorem bv {p:κ×V}{r:List (κ×V)}{k:κ} (e:¬ p.1=k):aG (p::r) k=aG r k:=by simp[aG,uf,e]
theorem cJ (k:κ):∀ kvs:List (κ×V),(kvs.any fun kv=>decide (kv.1=k))=(aG kvs k).isSome
 | []=>rfl
 | p::r=>by
  rw[List.any_cons]
  by_cases e:p.1=k
  ·simp only[bu e,decide_eq_true e,Bool.true_or,Option.isSome_some]
  ·rw[bv e,decide_eq_false e,Bool.false_or]; exact cJ k r
theorem ik (k j:κ) (y:V):∀ kvs:List (κ×V),aG (kvs.map fun kv=>if kv.1=k then(kv.1,y) else kv) j=(aG kvs j).map fun x=>if j=k then y else x
 | []=>rfl
 | p::r=>by
  have ih:=ik k j y r
  rw[t5]
  by_cases h:p.1=k
  ·rw[if_pos h]
   by_cases e:p.1=j
   ·rw[bu (p:=(p.1,y)) e,bu e,Option.map_some,if_pos (e.symm.trans h)]
   ·rw[bv (p:=(p.1,y)) e,bv e,ih]
  ·rw[if_neg h]
   by_cases e:p.1=j
   ·rw[bu (p:=p) e,bu e,Option.map_some,if_neg (fun z=>h (e.trans z))]
   ·rw[bv (p:=p) e,bv e,ih]
theorem gx (k j:κ) (y:V):∀ kvs:List (κ×V),aG kvs k=none->aG (kvs++[(k,y)]) j=if j=k then some y else aG kvs j
 | [],_=>by
  by_cases e:k=j
  ·rw[if_pos e.symm]; exact bu (p:=(k,y)) e
  ·rw[if_neg (fun z=>e z.symm)]; exact bv (p:=(k,y)) e
 | p::r,hn=>by
  rw[List.cons_append]
  have hk:¬ p.1=k:=fun z=>by rw[bu z] at hn; cases hn
  rw[bv hk] at hn
  have ih:=gx k j y r hn
  by_cases e:p.1=j
  ·rw[bu e,bu e,if_neg (fun z=>hk (e.trans z))]
  ·rw[bv e,bv e,ih]
theorem aL (kvs:List (κ×V)) (k j:κ) (y:V):aG (aM kvs k y) j=if j=k then some y else aG kvs j:=by
 unfold aM
 by_cases a:(kvs.any fun kv=>decide (kv.1=k))=true
 ·rw[if_pos a,ik]
  rw[cJ] at a
  by_cases e:j=k
  ·obtain⟨x,hx⟩:=Option.isSome_iff_exists.mp a
   rw[if_pos e,e,hx,Option.map_some,if_pos rfl]
  ·rw[if_neg e]
   cases aG kvs j with
   | none=>rfl
   | some x=>rw[Option.map_some,if_neg e]
 ·rw[if_neg a]
  refine gx k j y kvs ?_
  rw[cJ] at a
  cases q:aG kvs k with
  | none=>rfl
  | some x=>rw[q] at a; exact(a rfl).elim
theorem bq (kvs:List (κ×V)) (k:κ) (v:V):(aM kvs k v).length<=kvs.length+1:=by
 unfold aM
 split
 ·rw[tP]; omega
 ·rw[tW,t6,List.length_nil]; omega
theorem putK_new {kvs:List (κ×V)}{k:κ} (v:V) (h:aG kvs k=none):aM kvs k v=kvs++[(k,v)]:=by
 unfold aM
 rw[cJ,h]
 exact if_neg (by decide)
theorem RelO.isSome_eq {o:Option V}{u:Option Value} (r:RelO o u):o.isSome=u.isSome:=by
 cases o with
 | none=>cases u with
  | none=>rfl
  | some _=>exact(show False from r).elim
 | some _=>cases u with
  | none=>exact(show False from r).elim
  | some _=>rfl
theorem RelO.getD {o:Option V}{u:Option Value}{d:V}{d':Value} (r:RelO o u) (rd:RelV d d'):RelV (o.getD d) (u.getD d'):=by
 cases o with
 | none=>cases u with
  | none=>exact rd
  | some _=>exact(show False from r).elim
 | some _=>cases u with
  | none=>exact(show False from r).elim
  | some _=>exact r
theorem KV.val {kvs:List (κ×V)}{vs:List (κ×Value)} (r:KV kvs vs) (k:κ):RelO (aG kvs k) (valueAt vs k):=by
 unfold KV at r
 induction r with
 | nil=>exact True.intro
 | @cons p q ps qs h t ih=>
  obtain⟨h1,h2⟩:=h
  by_cases e:p.1=k
  ·have e':q.1=k:=h1.symm.trans e
   have b:valueAt (q::qs) k=some q.2:=by simp[valueAt,uf,e']
   rw[bu e,b]; exact h2
  ·have e':¬ q.1=k:=fun z=>e (h1.trans z)
   have b:valueAt (q::qs) k=valueAt qs k:=by simp[valueAt,uf,e']
   rw[bv e,b]; exact ih
theorem KV.any {kvs:List (κ×V)}{vs:List (κ×Value)} (r:KV kvs vs) (k:κ):(kvs.any fun kv=>decide (kv.1=k))=vs.any fun kv=>decide (kv.1=k):=by
 unfold KV at r
 induction r with
 | nil=>rfl
 | cons h t ih=>rw[List.any_cons,List.any_cons,ih,h.1]
theorem KV.repl {kvs:List (κ×V)}{vs:List (κ×Value)} (r:KV kvs vs) (k:κ) {y:V}{u:Value} (ry:RelV y u) :
  KV (kvs.map fun kv=>if kv.1=k then(kv.1,y) else kv) (vs.map fun kv=>if kv.1=k then(kv.1,u) else kv):=by
 unfold KV at r ⊢
 induction r with
 | nil=>exact .nil
 | @cons p q ps qs h t ih=>
  rw[t5,t5]
  refine .cons ?_ ih
  obtain⟨h1,h2⟩:=h
  by_cases e:p.1=k
  ·rw[if_pos e,if_pos (h1.symm.trans e)]; exact⟨h1,ry⟩
  ·rw[if_neg e,if_neg (fun z=>e (h1.trans z))]; exact⟨h1,h2⟩
theorem KV.put {kvs:List (κ×V)}{vs:List (κ×Value)} (r:KV kvs vs) (k:κ) {y:V}{u:Value} (ry:RelV y u):KV (aM kvs k y) (stored vs k u):=by
 unfold aM stored
 rw[r.any k]
 by_cases e:(vs.any fun kv=>decide (kv.1=k))=true
 ·rw[if_pos e,if_pos e]; exact r.repl k ry
 ·rw[if_neg e,if_neg e]; exact Paired.snoc r ⟨U,ry⟩
theorem KV.length {kvs:List (κ×V)}{vs:List (κ×Value)} (r:KV kvs vs):kvs.length=vs.length:=Paired.length r
end
variable{P:Program}
theorem gK {w:World}{k:Key}{u:Value} (r:RelV (kV k) u):(bp P w).is k u=true:=by
 cases k with
 | inl i=>obtain⟨t,e⟩:=(show ∃ t,u=Value.int i t from r); subst e; exact iN P w i t
 | inr x=>obtain⟨t,e⟩:=(show ∃ t,u=Value.str x t from r); subst e; exact iM P w x t
theorem gL {w:World}:∀ {ks:List Key}{us:List Value},Vals (ks.map kV) us->ItemsAre (bp P w) ks us
 | [],_,r=>by rw[List.map_nil] at r; cases r; exact .nil
 | k::ks,_,r=>by
  rw[t5] at r
  cases r with
  | cons h t=>exact .cons (gK h) (gL t)
noncomputable abbrev KT (H:Hp):List (List Key×V)->List (List Key×Addr×Value)->Prop:=Paired fun p q=>p.1=q.1/\H q.2.1=some (.tup (p.1.map kV))/\RelV p.2 q.2.2
variable{kvs:List (List Key×V)}{xs:List (List Key×Addr×Value)}{H:Hp}
theorem KT.val (r:KT H kvs xs) (k:List Key):RelO (aG kvs k) ((atKey xs k).map (·.2)):=by
 induction r with
 | nil=>exact True.intro
 | @cons p q ps qs h t ih=>
  obtain⟨h1,_,h2⟩:=h
  by_cases e:p.1=k
  ·have e':q.1=k:=h1.symm.trans e
   have b:atKey (q::qs) k=some q.2:=by simp[atKey,uf,e']
   rw[bu e,b]; exact h2
  ·have e':¬ q.1=k:=fun z=>e (h1.trans z)
   have b:atKey (q::qs) k=atKey qs k:=by simp[atKey,uf,e']
   rw[bv e,b]; exact ih
theorem KT.repl (r:KT H kvs xs) (k:List Key) {y:V}{u:Value} (ry:RelV y u) :
  KT H (kvs.map fun kv=>if kv.1=k then(kv.1,y) else kv) (xs.map (putAt k u)):=by
 induction r with
 | nil=>exact .nil
 | @cons p q ps qs h t ih=>
  rw[t5,t5]
  refine .cons ?_ ih
  obtain⟨h1,h2,h3⟩:=h
  unfold putAt
  by_cases e:p.1=k
  ·rw[if_pos e,if_pos (h1.symm.trans e)]; exact⟨h1,h2,ry⟩
  ·rw[if_neg e,if_neg (fun z=>e (h1.trans z))]; exact⟨h1,h2,h3⟩
theorem KT.put (r:KT H kvs xs) (k:List Key) {b:Addr}{y:V}{u:Value} (hb:H b=some (.tup (k.map kV))) (ry:RelV y u) :
  KT H (aM kvs k y) (storedH xs k b u):=by
 have e:(kvs.any fun kv=>decide (kv.1=k))=(atKey xs k).isSome:=by
  rw[cJ,(r.val k).isSome_eq,Option.isSome_map]
 unfold aM storedH
 rw[e]
 by_cases q:(atKey xs k).isSome=true
 ·rw[if_pos q,if_pos q]; exact r.repl k ry
 ·rw[if_neg q,if_neg q]; exact Paired.snoc r ⟨U,hb,ry⟩
theorem KT.keeps {H H':Hp} (r:KT H kvs xs) (ht:∀ b ys,H b=some (.tup ys)->H' b=some (.tup ys)):KT H' kvs xs :=
 Paired.mapP r fun _ _ z=>⟨z.1,ht _ _ z.2.1,z.2.2⟩
section
variable {P:Program}{w:World}{H:Hp}{h:Heap}{a:Addr}
theorem pA {u:HO} (ok:HOk P w H h) (e:Rd H a u):ObjOk P w H h a u:=e.ok ok
theorem fY {kvs:List (Key×V)} (ok:HOk P w H h) (e:Rd H a (.dK kvs)):kvs.length<=sizeLine/\(a == sysModules)=false/\∃ vs,KV kvs vs/\h.DictOf (bp P w) a vs :=
 show ObjOk P w H h a (.dK kvs) from pA ok e
theorem dk_of {kvs:List (Key×V)} (ok:HOk P w H h) (e:H a=some (.dK kvs)):kvs.length<=sizeLine/\(a == sysModules)=false/\∃ vs,KV kvs vs/\h.DictOf (bp P w) a vs:=fY ok (.inl e)
theorem dq {ks:List Key} (ok:HOk P w H h) (e:H a=some (.tup (ks.map kV))):(tupleKind (bp P w)).is h ks a:=by
 obtain⟨_,its,r,o,h1,h2,n,h3⟩:=(show ObjOk P w H h a (.tup (ks.map kV)) from ok a _ e)
 exact⟨o,its.toArray,n,h1,h2,h3,by simpa using gL r⟩
theorem fX (ok:HOk P w H h) (e:Rd H a (.dT kvs)):kvs.length<=sizeLine/\(a == sysModules)=false /\
  ∃ xs,KT H kvs xs/\h.DictOfH (tupleKind (bp P w)) a xs:=by
 obtain⟨z,y,xs,r,o,es,ep,h1,h2,h3,h4,h5⟩:=(show ObjOk P w H h a (.dT kvs) from pA ok e)
 refine⟨z,y,xs,r,o,es,ep,h1,h2,h3,h4,fun x hx=>?_,h5⟩
 have all:∀ {l:List (List Key×V)}{m:List (List Key×Addr×Value)},KT H l m->∀ x ∈ m,(tupleKind (bp P w)).is h x.1 x.2.1:=by
  intro l m q
  induction q with
  | nil=>intro x hx; exact nomatch hx
  | @cons p q ps qs hq t ih=>
   intro x hx
   rcases tX.mp hx with e | hx
   ·subst e
    exact dq ok (by rw[<- hq.1]; exact hq.2.1)
   ·exact ih x hx
 exact all r x hx
theorem pT (ok:HOk P w H h) (e:H a=some (.dT kvs)):kvs.length<=sizeLine/\(a == sysModules)=false /\
  ∃ xs,KT H kvs xs/\h.DictOfH (tupleKind (bp P w)) a xs:=fX ok (.inl e)
end
noncomputable def DGet (H:Hp) (a:Addr) (y:V) (r:Option V):Prop :=
 (∃ kvs k,Rd H a (.dK kvs)/\y=kV k/\r=aG kvs k)∨∃ kvs k b,Rd H a (.dT kvs)/\y=.ref b/\H b=some (.tup (k.map kV))/\r=aG kvs k
noncomputable def DPut (H:Hp) (a:Addr) (y v:V) (H':Hp):Prop :=
 (∃ kvs k,H a=some (.dK kvs)/\y=kV k/\kvs.length<sizeLine/\H'=upd H a (.dK (aM kvs k v))) ∨
 ∃ kvs k b,H a=some (.dT kvs)/\y=.ref b/\H b=some (.tup (k.map kV))/\kvs.length<sizeLine/\H'=upd H a (.dT (aM kvs k v))
theorem DGet.k {a:Addr}{kvs:List (Key×V)}{k:Key} (e:H a=some (.dK kvs)):DGet H a (kV k) (aG kvs k):=.inl ⟨kvs,k,.inl e,U,U⟩
theorem DGet.t {a b:Addr}{k:List Key} (e:H a=some (.dT kvs)) (eb:H b=some (.tup (k.map kV))):DGet H a (.ref b) (aG kvs k):=.inr ⟨kvs,k,b,.inl e,U,eb,U⟩
theorem DPut.k {a:Addr}{kvs:List (Key×V)}{k:Key}{v:V} (e:H a=some (.dK kvs)) (hl:kvs.length<sizeLine):DPut H a (kV k) v (upd H a (.dK (aM kvs k v))):=.inl ⟨kvs,k,e,U,hl,U⟩
theorem DPut.t {a b:Addr}{k:List Key}{v:V} (e:H a=some (.dT kvs)) (eb:H b=some (.tup (k.map kV))) (hl:kvs.length<sizeLine) :
  DPut H a (.ref b) v (upd H a (.dT (aM kvs k v))):=.inr ⟨kvs,k,b,e,U,eb,hl,U⟩
variable{Q:Value->Shared->Prop}
section
variable {X:Cx}{pins:List (Addr×Obj)}{σ:St}{H:Hp}{s:Shared}{a:Addr}{y v:V}{u r:Value}{o:Option V}{A:Around}{E:Value->Shared->Prop}
theorem Inv.big (I:Inv X pins σ H s):sysModules<s.heap.objs.size:=by
 have h:mainGlobals<s.heap.objs.size:=(I.mod.glob.keeps I.bk).lt
 exact Nat.lt_trans (by decide) h
theorem kJ (hu:A.units+1<cLine) (I:Inv X pins σ H s) (g:DGet H a y (some v)) (ry:RelV y u) (h:∀ w' s',Inv X pins σ H s'->RelV v w'->Q w' s') :
  wpAny (model X.prog X.w) A (getItem (.ref a) u) Q E s:=by
 rcases g with ⟨kvs,k,e,ey,l⟩ | ⟨kvs,k,b,e,ey,eb,l⟩
 ·subst ey
  obtain⟨z,hd,vs,rel,dd⟩:=fY I.hok e
  obtain⟨w',hw,rw'⟩:=RelO.some_of (v:=v) (o:=valueAt vs k) (by rw[l]; exact rel.val k)
  exact wpAny_getItem_of (gK ry) dd.mapOf hw (h w' _ (I.tok _) rw')
 ·subst ey
  cases (show u=Value.ref b from ry)
  obtain⟨z,hd,xs,rel,dd⟩:=fX I.hok e
  obtain⟨w',hw,rw'⟩:=RelO.some_of (v:=v) (o:=(atKey xs k).map (·.2)) (by rw[l]; exact rel.val k)
  obtain⟨p,hp,hp2⟩:=Option.map_eq_some_iff.mp hw
  refine wpAny_getItem_heap (tupleKind_room_in1 hu) (dq I.hok eb) dd hp ?_
  rw[hp2]
  exact h w' _ (I.tok _) rw'
theorem d_in (hu:A.units+1<cLine) (I:Inv X pins σ H s) (g:DGet H a y o) (ry:RelV y u) (h:∀ s',Inv X pins σ H s'->Q (.bool o.isSome) s') :
  wpAny (model X.prog X.w) A (compareOp .In u (.ref a)) Q E s:=by
 rcases g with ⟨kvs,k,e,ey,l⟩ | ⟨kvs,k,b,e,ey,eb,l⟩
 ·subst ey
  obtain⟨z,hd,vs,rel,dd⟩:=fY I.hok e
  refine wpAny_in_of (gK ry) hd dd.mapOf ?_
  rw[<- (rel.val k).isSome_eq,<- l]
  exact h _ (I.tok _)
 ·subst ey
  cases (show u=Value.ref b from ry)
  obtain⟨z,hd,xs,rel,dd⟩:=fX I.hok e
  refine wpAny_in_heap (tupleKind_room_in1 hu) (dq I.hok eb) hd dd ?_
  have q:=(rel.val k).isSome_eq
  rw[Option.isSome_map] at q
  rw[<- q,<- l]
  exact h _ (I.tok _)
theorem oj (hu:A.units+1<cLine) (I:Inv X pins σ H s) (g:DGet H a y o) (ry:RelV y u) (h:∀ s',Inv X pins σ H s'->Q (.bool (!o.isSome)) s') :
  wpAny (model X.prog X.w) A (compareOp .NotIn u (.ref a)) Q E s:=by
 rcases g with ⟨kvs,k,e,ey,l⟩ | ⟨kvs,k,b,e,ey,eb,l⟩
 ·subst ey
  obtain⟨z,hd,vs,rel,dd⟩:=fY I.hok e
  refine wpAny_notIn_of (gK ry) hd dd.mapOf ?_
  rw[<- (rel.val k).isSome_eq,<- l]
  exact h _ (I.tok _)
 ·subst ey
  cases (show u=Value.ref b from ry)
  obtain⟨z,hd,xs,rel,dd⟩:=fX I.hok e
  refine wpAny_notIn_heap (tupleKind_room_in1 hu) (dq I.hok eb) hd dd ?_
  have q:=(rel.val k).isSome_eq
  rw[Option.isSome_map] at q
  rw[<- q,<- l]
  exact h _ (I.tok _)
theorem ig {h':Heap}{t':Nat}{ob:HO} (I:Inv X pins σ H s) (mu:Mut (H a)) (hs:Heap.SameBut a s.heap h') (he:∃ q,h'.get? a=some q) (new:ObjOk X.prog X.w (upd H a ob) h' a ob) :
  Inv X pins σ (upd H a ob) { s with heap:=h',toks:=t' } :=
 I.write (x:=a) (e:=a) mu (.inl rfl) (fun b q hb z=>(hs.2 b hb).trans z) he new
theorem rK {w:World}{H':Hp}{h':Heap}{kvs:List (Key×V)}{vs:List (Key×Value)} (z:kvs.length<=sizeLine) (hd:(a == sysModules)=false) (rel:KV kvs vs) (dd:h'.DictOf (bp P w) a vs) :
  ObjOk P w H' h' a (.dK kvs):=⟨z,hd,vs,rel,dd⟩
theorem kI {H':Hp}{Q:Unit->Shared->Prop} (hu:A.units+1<cLine) (I:Inv X pins σ H s) (g:DPut H a y v H') (ry:RelV y u) (rv:RelV v r) (h:∀ s',Inv X pins σ H' s'->Q () s') :
  wpAny (model X.prog X.w) A (setItem (.ref a) u r) Q E s:=by
 rcases g with ⟨kvs,k,e,ey,l,eH⟩ | ⟨kvs,k,b,e,ey,eb,l,eH⟩
 ·subst ey eH
  obtain⟨z,hd,vs,rel,dd⟩:=dk_of I.hok e
  have hz:vs.length<=sizeLine:=by rw[<- rel.length]; exact z
  have hl:(aM kvs k v).length<=sizeLine:=by have:=bq kvs k v; omega
  refine wpAny_setItem_pairs (hsz:=hz) (gK ry) dd fun h' dd' hs=>h _ ?_
  have he:∃ q,h'.get? a=some q:=let ⟨q,_,_,hq,_⟩:=dd'; ⟨q,hq⟩
  exact ig I (by rw[e]; exact True.intro) hs he (rK hl hd (rel.put k rv) dd')
 ·subst ey eH
  cases (show u=Value.ref b from ry)
  obtain⟨z,hd,xs,rel,dd⟩:=pT I.hok e
  have hz:xs.length<=sizeLine:=by rw[<- Paired.length rel]; exact z
  have hl:(aM kvs k v).length<=sizeLine:=by have:=bq kvs k v; omega
  refine wpAny_setItem_heap (hsz:=hz) (tupleKind_room_in1 hu) (dq I.hok eb) dd fun h' dd' hs=>h _ ?_
  obtain⟨q,es,ep,hq,h2,h3,h4,_,h5⟩:=dd'
  refine ig I (by rw[e]; exact True.intro) hs ⟨q,hq⟩ ⟨hl,hd,_,(rel.put k eb rv).keeps fun c ys ec=>?_,q,es,ep,hq,h2,h3,h4,h5⟩
  rw[aH (mG ec e (fun z=>nomatch z))]
  exact ec
end
noncomputable def rT (i:Expr):Prop:=∀ ov iv,subscripted i false ov iv=operate [ov,iv] (getItem ov iv)
theorem jy {prog:Program}{w:World}{A:Around}{E:Value->Shared->Prop}{s:Shared}{env:Env}{value slice:Expr}{pos:Pos}{T id:String}
  (hl:typeLookup (.type T) "__getitem__" = pure (some (.builtin id))) (hs:rT slice)
  (h:wpAny (model prog w) A (eval value env) (fun o s₁=>wpAny (model prog w) A (eval slice env) (fun i s₂=>s₂.TypeIs o T/\wpAny (model prog w) A (getItem o i) Q E s₂) E s₁) E s) :
  wpAny (model prog w) A (eval (.Subscript value slice pos) env) Q E s:=by
 refine Subscript_ (wpAny_mono h (fun o s₁ h₁=>wpAny_mono h₁ (fun i s₂ h₂=>?_) fun _ _ x=>x) fun _ _ x=>x)
 obtain⟨hT,h₂⟩:=h₂
 unfold subscriptTail
 refine wpAny_bind ?_
 rw[getitemInPython_of_ne hT.not_modules]
 refine wpAny_bind (wpAny_specialOf hT hl ?_)
 have fin:wpAny (model prog w) A (subscripted slice false o i) (fun r s₃=>wpAny (model prog w) A (letTemporaryGo value o r >>= fun _=>pure r) Q E s₃) E s₂:=by
  rw[hs o i]
  exact wpAny_operating (wpAny_mono h₂ (fun r s₃ h₃=>wpAny_bind (wpAny_letTemporaryGo (wpAny_pure h₃))) fun _ _ x=>x)
 first
  | exact wpAny_pure (wpAny_bind fin)
  | exact wpAny_bind (wpAny_pure (wpAny_bind fin))
  | exact wpAny_bind fin
theorem iU {X:Cx}{pins:List (Addr×Obj)}{σ:St}{s:Shared}{a:Addr}{y:V}{o:Option V} (I:Inv X pins σ H s) (g:DGet H a y o):s.TypeIs (.ref a) "dict":=by
 rcases g with ⟨kvs,k,e,_,_⟩ | ⟨kvs,k,b,e,_,_,_⟩
 ·obtain⟨_,_,vs,_,dd⟩:=fY I.hok e
  exact dd.typeIs
 ·obtain⟨_,_,xs,_,dd⟩:=fX I.hok e
  exact dd.typeIs
inductive TD_ (x y:V) (H:Hp) (Q:VK):Prop
 | mk (a:Addr) (v:V) (h1:x=.ref a) (h2:DGet H a y (some v)) (q:Q v H):TD_ x y H Q
noncomputable def tDGet (td ty:TE):TE:=fun σ H Q=>td σ H fun x H1=>ty σ H1 fun y H2=>TD_ x y H2 Q
noncomputable def tDIn (ty td:TE):TE:=fun σ H Q=>ty σ H fun y H1=>td σ H1 fun x H2=>∃ a o,x=.ref a/\DGet H2 a y o/\Q (.bl o.isSome) H2
noncomputable def nG (ty td:TE):TE:=fun σ H Q=>ty σ H fun y H1=>td σ H1 fun x H2=>∃ a o,x=.ref a/\DGet H2 a y o/\Q (.bl (!o.isSome)) H2
noncomputable def sDPut (td ty tv:TE):TS:=fun D σ H=>tv σ H fun v H1=>td σ H1 fun x H2=>ty σ H2 fun y H3=>∃ a H4,x=.ref a/\DPut H3 a y v H4/\D.nx σ H4
section
variable {X:Cx}{o i e value:Expr}{pos pos' tpos:Pos}{td ty tv:TE}
theorem fg (hu:X.A.units+1<cLine) (ho:PE X o td) (hi:PE X i ty) (hs:rT i:=by exact fun _ _=>rfl):PE X (.Subscript o i pos) (tDGet td ty):=by
 intro pins s σ H Q I h
 refine jy PySem.F.slot_dict_getitem.lookup hs (thn (ho pins s σ H _ I h) fun u s1 ⟨x,H1,I1,rx,q1⟩=>thn (hi pins s1 σ H1 _ I1 q1) fun iv s2 ⟨y,H2,I2,ry,a,v,ex,g,q2⟩=>?_)
 subst ex
 obtain rfl:u=Value.ref a:=rx
 exact⟨iU I2 g,kJ hu I2 g ry fun w' s3 I3 rw'=>⟨v,H2,I3,rw',q2⟩⟩
theorem lY (hu:X.A.units+1<cLine) (hi:PE X i ty) (ho:PE X o td):PC X .In i o (tDIn ty td):=by
 intro pins s σ H Q I h
 refine thn (hi pins s σ H _ I h) fun iv s1 ⟨y,H1,I1,ry,q1⟩=>thn (ho pins s1 σ H1 _ I1 q1) fun u s2 ⟨x,H2,I2,rx,a,ov,ex,g,q2⟩=>?_
 subst ex
 obtain rfl:u=Value.ref a:=rx
 exact d_in hu I2 g ry fun s3 I3=>⟨.bl ov.isSome,H2,I3,U,q2⟩
theorem gE (hu:X.A.units+1<cLine) (hi:PE X i ty) (ho:PE X o td):PC X .NotIn i o (nG ty td):=by
 intro pins s σ H Q I h
 refine thn (hi pins s σ H _ I h) fun iv s1 ⟨y,H1,I1,ry,q1⟩=>thn (ho pins s1 σ H1 _ I1 q1) fun u s2 ⟨x,H2,I2,rx,a,ov,ex,g,q2⟩=>?_
 subst ex
 obtain rfl:u=Value.ref a:=rx
 exact oj hu I2 g ry fun s3 I3=>⟨.bl (!ov.isSome),H2,I3,U,q2⟩
theorem db (hu:X.A.units+1<cLine) (ho:PE X o td) (hi:PE X i ty) (hv:PE X value tv) (hs:swapsWith value (some (.Subscript o i pos')) pos.line X.env=pure false) :
  PS X (.Assign [.Subscript o i pos'] value pos) (sDPut td ty tv):=by
 intro pins s σ H D I h
 refine wpAny_Assign_Subscript (thn (hv pins s σ H _ I h) fun r s1 ⟨v,H1,I1,rv,q1⟩=>thn (ho pins s1 σ H1 _ I1 q1) fun u s2 ⟨x,H2,I2,rx,q2⟩=>thn (hi pins s2 σ H2 _ I2 q2) fun iv s3 ⟨y,H3,I3,ry,a,H4,ex,g,q3⟩=>?_) hs
 subst ex
 obtain rfl:u=Value.ref a:=rx
 exact kI hu I3 g ry rv fun s4 I4=>⟨σ,H4,I4,q3⟩
end
theorem m5 {w:World} (h:Heap) (hb:sysModules<h.objs.size):ObjOk P w H (h.push { cls:=.type "dict",data:=.dict #[] }) h.objs.size (.dK []) :=
 ⟨Nat.zero_le _,beq_eq_false_iff_ne.mpr (Ne.symm (Nat.ne_of_lt hb)),[],.nil,Heap.DictOf.new h⟩
theorem mZ {w:World} (h:Heap) (hb:sysModules<h.objs.size):ObjOk P w H (h.push { cls:=.type "dict",data:=.dict #[] }) h.objs.size (.dT []) :=
 ⟨Nat.zero_le _,beq_eq_false_iff_ne.mpr (Ne.symm (Nat.ne_of_lt hb)),[],.nil,_,#[],0,Heap.get?_push_size _ rfl,⟨U,U,U⟩,U,U,List.nodup_nil⟩
noncomputable def qj:TE:=fun _ H Q=>∀ p,H p=none->Q (.ref p) (upd H p (.dK []))
noncomputable def qi:TE:=fun _ H Q=>∀ p,H p=none->Q (.ref p) (upd H p (.dT []))
section
variable {X:Cx}{pos:Pos}
theorem fI:PE X (.Dict [] [] pos) qj:=fun pins s σ H Q I h=>
 wpAny_Dict_empty ⟨.ref s.heap.objs.size,_,I.laid (a:=s.heap.objs.size) (o:=.dK []) (t':=s.toks) (fun _ _ q=>Heap.get?_push_of_some _ q) (Nat.le_refl _) (m5 s.heap I.big),U,h _ (I.hok.fresh (Nat.le_refl _))⟩
theorem fH:PE X (.Dict [] [] pos) qi:=fun pins s σ H Q I h=>
 wpAny_Dict_empty ⟨.ref s.heap.objs.size,_,I.laid (a:=s.heap.objs.size) (o:=.dT []) (t':=s.toks) (fun _ _ q=>Heap.get?_push_of_some _ q) (Nat.le_refl _) (mZ s.heap I.big),U,h _ (I.hok.fresh (Nat.le_refl _))⟩
end
noncomputable def mergeK (kvs more:List (Key×V)):List (Key×V):=more.foldl (fun acc kv=>aM acc kv.1 kv.2) kvs
structure M1 (X:Cx) (o:Expr) (m:Str) (apos:Pos) (e:Expr) (cpos:Pos):Prop where
 base:attributeBase o m X.env (eval o X.env)=eval o X.env
 few:((backTo cpos (starEach [e] X.env)).all (fun x=>!x.1) && (backToKw cpos (keywordEach [] X.env)).all (fun x=>x.1.isSome)
  && decide (([e]:List Expr).length+([]:List Keyword).length+(if ([]:List Keyword).isEmpty then 0 else 1)<30))=true
 line:(apos.endLine == cpos.line)=true
 trees:backTo cpos (starEach [e] X.env)=[(false,eval e X.env)]
structure M2 (X:Cx) (o:Expr) (m:Str) (apos:Pos) (e f:Expr) (cpos:Pos):Prop where
 base:attributeBase o m X.env (eval o X.env)=eval o X.env
 few:((backTo cpos (starEach [e,f] X.env)).all (fun x=>!x.1) && (backToKw cpos (keywordEach [] X.env)).all (fun x=>x.1.isSome)
  && decide (([e,f]:List Expr).length+([]:List Keyword).length+(if ([]:List Keyword).isEmpty then 0 else 1)<30))=true
 line:(apos.endLine == cpos.line)=true
 trees:backTo cpos (starEach [e,f] X.env)=[(false,eval e X.env),(false,eval f X.env)]
noncomputable def IsD (H:Hp) (a:Addr):Prop:=(∃ kvs,Rd H a (.dK kvs))∨∃ kvs,Rd H a (.dT kvs)
theorem jo {X:Cx}{pins:List (Addr×Obj)}{σ:St}{s:Shared}{a:Addr} (I:Inv X pins σ H s) (d:IsD H a) :
  s.TypeIs (.ref a) "dict" /\ (∀ b,Value.ref a=.ref b->∃ ob,s.heap.get? b=some ob/\ob.dict=none)/\(a == sysModules)=false:=by
 rcases d with ⟨kvs,e⟩ | ⟨kvs,e⟩
 ·obtain⟨_,hd,vs,_,dd⟩:=fY I.hok e
  refine⟨dd.typeIs,fun b q=>?_,hd⟩
  cases q
  obtain⟨ob,_,_,h1,h2,_⟩:=dd
  exact⟨ob,h1,h2.2.1⟩
 ·obtain⟨_,hd,xs,_,dd⟩:=fX I.hok e
  refine⟨dd.typeIs,fun b q=>?_,hd⟩
  cases q
  obtain⟨ob,_,_,h1,h2,_⟩:=dd
  exact⟨ob,h1,h2.2.1⟩
section
variable {X:Cx}{pins:List (Addr×Obj)}{σ:St}{H:Hp}{s:Shared}{a:Addr}{y d:V}{u r:Value}{o:Option V}{A:Around}{E:Value->Shared->Prop}
theorem rL (hu:A.units+1<cLine) (I:Inv X pins σ H s) (g:DGet H a y o) (ry:RelV y u) (h:∀ w' s',Inv X pins σ H s'->RelV (o.getD .non) w'->Q w' s') :
  wpAny (model X.prog X.w) A (call (.builtin "dict.get") [.ref a,u]) Q E s:=by
 rcases g with ⟨kvs,k,e,ey,l⟩ | ⟨kvs,k,b,e,ey,eb,l⟩
 ·subst ey
  obtain⟨z,hd,vs,rel,dd⟩:=fY I.hok e
  refine call_meetsIn PySem.F.slot_dict_get dd.typeIs PySem.F.entry_dict_get (PySem.F.args_dict_get_2 _ _) (meets_dict_get (bp X.prog X.w) a (gK ry) hd) ⟨_,dd.mapOf,h _ _ (I.tok _) ?_⟩
  rw[l]
  exact(rel.val k).getD rfl
 ·subst ey
  cases (show u=Value.ref b from ry)
  obtain⟨z,hd,xs,rel,dd⟩:=fX I.hok e
  refine call_meetsIn PySem.F.slot_dict_get dd.typeIs PySem.F.entry_dict_get (PySem.F.args_dict_get_2 _ _) (meetsH_dict_get (tupleKind (bp X.prog X.w)) a b hd) ⟨tupleKind_room_in1 hu,k,xs,dq I.hok eb,dd,h _ _ (I.tok _) ?_⟩
  rw[l]
  exact(rel.val k).getD rfl
end
noncomputable def qk (td ty:TE):TE:=fun σ H Q=>td σ H fun x H1=>∃ a,x=.ref a/\IsD H1 a/\ty σ H1 fun y H2=>∃ o,DGet H2 a y o/\Q (o.getD .non) H2
section
variable {X:Cx}{o e f:Expr}{apos cpos:Pos}{td ty tx:TE}
theorem fJ (hu:X.A.units+1<cLine) (ho:PE X o td) (he:PE X e ty) (m:M1 X o "get" apos e cpos):PE X (.Call (.Attribute o "get" apos) [e] [] cpos) (qk td ty):=by
 intro pins s σ H Q I h
 refine wpAny_Call_method m.base m.few m.line PySem.F.plainAttrs_dict PySem.F.slot_dict_get PySem.F.type_dict_get (thn (ho pins s σ H _ I h) fun u s1 ⟨x,H1,I1,rx,a,ex,d,q1⟩=>?_)
 subst ex
 obtain rfl:u=Value.ref a:=rx
 obtain⟨t1,t2,_⟩:=jo I1 d
 refine⟨t1,t2,?_⟩
 rw[m.trees]
 refine Calls.callWith_builtin rfl (Calls.evalArgs_plain (Calls.spliced_cons (thn (he pins s1 σ H1 _ I1 q1) fun iv s2 ⟨y,H2,I2,ry,ov,g,q2⟩=>Calls.spliced_nil ?_)))
 exact rL hu I2 g ry fun w' s3 I3 rw'=>⟨_,H2,I3,rw',q2⟩
end
end L2
namespace HT
open PySem PyProof.Rows
section
open PySem.SeqAt
open PySem.AutoSeq1 (wpAny_loadPart')
open PySem.MeetsSeq PySem.MeetsSeq2 PySem.MeetsSeq3
end
section
variable {prog:Program}{w:World}{A:Around}{E:Value->Shared->Prop}{s:Shared}
noncomputable def sIx (n d:Nat):Option Int->Nat
 | none=>d
 | some v=>if v<0 then(v+(n:Int)).toNat else min v.toNat n
theorem qu (n d:Nat) (hd:d<=n) (o:Option Int):sIx n d o<=n:=by
 cases o with
 | none=>exact hd
 | some v=>
  show(if v<0 then(v+(n:Int)).toNat else min v.toNat n)<=n
  by_cases hv:v<0
  ·rw[if_pos hv]; omega
  ·rw[if_neg hv]; exact Nat.min_le_right _ _
theorem jW (v:Int) (n d:Nat):(if v<0 then max (v+(n:Int)) 0 else min v (n:Int))=((sIx n d (some v):Nat):Int):=by
 show(if v<0 then max (v+(n:Int)) 0 else min v (n:Int))=(((if v<0 then(v+(n:Int)).toNat else min v.toNat n):Nat):Int)
 by_cases hv:v<0
 ·simp only[if_pos hv]; omega
 ·simp only[if_neg hv]; omega
theorem jv (lo hi:Option Int) (n:Nat):Builtin.Slice.sliceAdjust lo hi 1 (n:Int)=(((sIx n 0 lo:Nat):Int),((sIx n n hi:Nat):Int)):=by
 have h1:¬ ((1:Int)<0):=by omega
 unfold Builtin.Slice.sliceAdjust
 simp only[h1,if_false]
 refine Prod.ext ?_ ?_
 ·cases lo with
  | none=>rfl
  | some v=>exact jW v n 0
 ·cases hi with
  | none=>rfl
  | some v=>exact jW v n n
theorem je (i j:Nat):Builtin.Slice.slicePlaces (i:Int) (j:Int) 1=j - i:=by
 unfold Builtin.Slice.slicePlaces
 have h1:(1:Int) > 0:=by omega
 simp only[h1,if_true,Int.ediv_one]
 split <;> omega
theorem fC {v:Value}{o:Option Int}{Q:Option Int->Shared->Prop} (p:IsPart v o) (h:Q o s):wpAny (model prog w) A (Builtin.Slice.slicePartIndex v) Q E s:=by
 cases p with
 | none=>exact slicePart_none h
 | int i t=>exact slicePart_int h
theorem d3 {sl:Addr}{vl vu:Value}{lo hi:Option Int}{n:Nat}{Q:Int×Int×Nat->Shared->Prop} (hs:s.heap.IsSliceOf sl vl vu .none) (pl:IsPart vl lo) (pu:IsPart vu hi)
  (h:Q (((sIx n 0 lo:Nat):Int),1,sIx n n hi - sIx n 0 lo) s):wpAny (model prog w) A (Builtin.Slice.sliceApplied (.ref sl) (pure (n:Int))) Q E s:=by
 obtain⟨os,hos,hcs,hds⟩:=id hs
 unfold Builtin.Slice.sliceApplied Builtin.Slice.sliceFields
 refine wpAny_bind (wpAny_bind (wpAny_field hos hds (x:=vl) rfl (wpAny_bind (wpAny_field hos hds (x:=vu) rfl (wpAny_bind (wpAny_field hos hds (x:=.none) rfl (wpAny_pure ?_)))))))
 refine wpAny_bind (slicePart_none ?_)
 show wpAny _ _ (if ((1:Int) == 0)=true then _ else _) _ _ s
 rw[if_neg (by decide)]
 refine wpAny_bind (fC pl (wpAny_bind (fC pu (wpAny_bind (wpAny_pure ?_)))))
 show wpAny _ _ (match Builtin.Slice.sliceAdjust lo hi 1 (n:Int) with | (lo,hi) => pure (lo,(1:Int),Builtin.Slice.slicePlaces lo hi 1)) _ _ s
 rw[jv lo hi n]
 show wpAny _ _ (pure (((sIx n 0 lo:Nat):Int),(1:Int),Builtin.Slice.slicePlaces ((sIx n 0 lo:Nat):Int) ((sIx n n hi:Nat):Int) 1)) _ _ s
 rw[je]
 exact wpAny_pure h
theorem lP (xs:Array Value) (i k:Nat):((List.range k).filterMap fun(m:Nat)=>xs[((i:Int)+(m:Int)*1).toNat]?).toArray=((xs.toList.drop i).take k).toArray:=by
 have e:(fun(m:Nat)=>xs[((i:Int)+(m:Int)*1).toNat]?)=fun m=>xs[i+m]?:=by
  funext m
  have:((i:Int)+(m:Int)*1).toNat=i+m:=by omega
  rw[this]
 rw[e]
 have:=pick_run xs i k
 rw[List.filterMap_map] at this
 have e2:((fun x=>xs[x]?) ∘ fun x=>i+x)=fun m=>xs[i+m]?:=rfl
 rw[e2] at this
 rw[this]
theorem getItem_tuple_cut {t sl:Addr}{items:Array Value}{vl vu:Value}{lo hi:Option Int}{Q:Value->Shared->Prop} (ht:IsTup s.heap t items) (hs:s.heap.IsSliceOf sl vl vu .none) (pl:IsPart vl lo) (pu:IsPart vu hi)
  (hw:¬ (sIx items.size 0 lo=0/\sIx items.size items.size hi=items.size))
  (h:Q (.ref s.heap.objs.size) { s with heap:=s.heap.push { cls:=.type "tuple",data:=.seq ((items.toList.drop (sIx items.size 0 lo)).take (sIx items.size items.size hi - sIx items.size 0 lo)).toArray } })
  (hsz:items.size<=sizeLine):wpAny (model prog w) A (getItem (.ref t) (.ref sl)) Q E s:=by
 have htake:sizeOk (.seq ((items.toList.drop (sIx items.size 0 lo)).take (sIx items.size items.size hi - sIx items.size 0 lo)).toArray):=by
  show((items.toList.drop (sIx items.size 0 lo)).take (sIx items.size items.size hi - sIx items.size 0 lo)).toArray.size<=sizeLine
  rw[t0,ub,List.length_drop,Array.length_toList]
  omega
 have hj:sIx items.size items.size hi<=items.size:=qu _ _ (Nat.le_refl _) hi
 obtain⟨os,hos,hcs,hds⟩:=id hs
 have hTs:s.TypeIs (.ref sl) "slice":=⟨os,hos,hcs⟩
 unfold getItem
 try with_reducible refine wpAny_holding ?_
 first | refine wpAny_bind (wpAny_pure ?_) | skip
 refine wpAny_bind (wpAny_sequenceKey ht.typeIs (by decide) ?_)
 refine wpAny_bind (wpAny_callSpecial?_slot (name:=Str.ofString "__getitem__") ht.typeIs PyProof.Rows.slot_tuple_getitem
  (wpAny_call_entry PyProof.Rows.slot_tuple_getitem ht.typeIs entry_tuple_getitem ?_ (args_tuple_getitem _ _)))
 show wpAny _ _ (Builtin.Tuple.tupleItemsOf (.ref t) >>= _) _ _ s
 refine wpAny_bind (tupleItemsOf_ ht ?_)
 refine wpAny_bind (wpAny_typeOf hTs ?_)
 rw[if_pos (by decide)]
 refine wpAny_bind (d3 hs pl pu ?_)
 have hno:¬ ((((sIx items.size 0 lo:Nat):Int) == 0 && (1:Int) == 1 && (sIx items.size items.size hi - sIx items.size 0 lo) == items.size)=true):=by
  intro q
  rw[Bool.and_eq_true,Bool.and_eq_true] at q
  have q1:((sIx items.size 0 lo:Nat):Int)=0:=eq_of_beq q.1.1
  have q2:sIx items.size items.size hi - sIx items.size 0 lo=items.size:=eq_of_beq q.2
  exact hw ⟨by omega,by omega⟩
 show wpAny _ _ (if (((sIx items.size 0 lo:Nat):Int) == 0 && (1:Int) == 1 && (sIx items.size items.size hi - sIx items.size 0 lo) == items.size)=true then _ else _) _ _ s
 rw[if_neg hno,lP]
 first
  | exact wpAny_bind (m:=Builtin.Tuple.tupleExact _) (wpAny_newObj_type (wpAny_pure ⟨_,rfl,wpAny_pure h⟩) htake)
  | exact wpAny_bind (m:=Builtin.Tuple.tupleExact _) (wpAny_newObj_type (wpAny_bind (wpAny_pure (wpAny_pure ⟨_,rfl,wpAny_pure h⟩))) htake)
  | exact wpAny_bind (wpAny_bind (m:=Builtin.Tuple.tupleExact _) (wpAny_newObj_type (wpAny_pure (wpAny_pure ⟨_,rfl,wpAny_pure h⟩)) htake))
  | exact wpAny_bind (wpAny_bind (m:=Builtin.Tuple.tupleExact _) (wpAny_newObj_type (wpAny_pure ⟨_,rfl,wpAny_pure h⟩) htake))
end
end HT
namespace L2
open PySem PySem.Spec PyProof.Rows
noncomputable abbrev TO:=St->Hp->(Option Int->Hp->Prop)->Prop
noncomputable def PO (X:Cx) (e:Option Expr) (t:TO):Prop :=
 ∀ (pins:List (Addr×Obj)) (s:Shared) (σ:St) (H:Hp) (Q:Option Int->Hp->Prop),Inv X pins σ H s->t σ H Q ->
  wpAny (model X.prog X.w) X.A (evalPart e X.env) (fun u s'=>∃ o H',Inv X pins σ H' s'/\IsPart u o/\Q o H') X.xe s
noncomputable def nF:TO:=fun _ H Q=>Q none H
noncomputable def tPart (t:TE):TO:=fun σ H Q=>t σ H fun x H1=>∃ i,x=.int i/\Q (some i) H1
section
variable {X:Cx}{e:Expr}{te:TE}{lo hi:Option Expr}{tl th:TO}{pos p2:Pos}
theorem dH:PO X none nF:=by
 intro pins s σ H Q I h
 rw[evalPart_none]
 exact wpAny_pure ⟨none,H,I,.none,h⟩
theorem cC (h:PE X e te):PO X (some e) (tPart te):=by
 intro pins s σ H Q I hw
 rw[evalPart_some]
 refine thn (h pins s σ H _ I hw) fun u s1 ⟨x,H1,I1,r1,q1⟩=>?_
 obtain⟨i,rfl,q⟩:=q1
 obtain⟨t,rfl⟩:=r1
 exact⟨some i,H1,I1,.int i t,q⟩
noncomputable def SlR (X:Cx) (r:V->Option Int->Option Int->Hp->VK->Prop):Prop :=
 ∀ (pins:List (Addr×Obj)) (s:Shared) (σ:St) (H:Hp) (x:V) (v vl vu:Value) (lo hi:Option Int) (sl:Addr) (Q:VK),Inv X pins σ H s->RelV x v->s.heap.IsSliceOf sl vl vu .none->IsPart vl lo->IsPart vu hi->r x lo hi H Q ->
  ∃ T id,typeLookup (.type T) "__getitem__" = pure (some (.builtin id))/\s.TypeIs v T/\wpAny (model X.prog X.w) X.A (getItem v (.ref sl)) (EP X pins σ Q) X.xe s
noncomputable def tSl (r:V->Option Int->Option Int->Hp->VK->Prop) (te:TE) (tl th:TO):TE:=fun σ H Q=>te σ H fun x H1=>tl σ H1 fun l H2=>th σ H2 fun u H3=>r x l u H3 Q
theorem cx {r:V->Option Int->Option Int->Hp->VK->Prop} (hr:SlR X r) (he:PE X e te) (hl:PO X lo tl) (hu:PO X hi th):PE X (.Subscript e (.Slice lo hi none p2) pos) (tSl r te tl th):=by
 intro pins s σ H Q I h
 refine Subscript_ (thn (he pins s σ H _ I h) fun v s1 ⟨x,H1,I1,r1,q1⟩=>?_)
 refine wpAny_Slice (thn (hl pins s1 σ H1 _ I1 q1) fun vl s2 ⟨l,H2,I2,pl,q2⟩=>thn (hu pins s2 σ H2 _ I2 q2) fun vu s3 ⟨u,H3,I3,pu,q3⟩=>?_)
 rw[evalPart_none]
 refine wpAny_pure ?_
 have I4:Inv X pins σ H3 { s3 with heap:=s3.heap.push { cls:=.type "slice",data:=.fields #[vl,vu,.none] } }:=I3.kept (t':=s3.toks) fun b ob q=>Heap.get?_push_of_some _ q
 obtain⟨T,id,hT,ht,hg⟩:=hr pins { s3 with heap:=s3.heap.push { cls:=.type "slice",data:=.fields #[vl,vu,.none] } } σ H3 x v vl vu l u s3.heap.objs.size Q I4 r1 (Heap.IsSliceOf.new ..) pl pu q3
 show wpAny (model X.prog X.w) X.A (subscriptTail e (.Slice lo hi none p2) v (.ref s3.heap.objs.size)) (EP X pins σ Q) X.xe { s3 with heap:=s3.heap.push { cls:=.type "slice",data:=.fields #[vl,vu,.none] } }
 exact tail_any (ops:=[.ref s3.heap.objs.size,v]) ht hT hg (by with_unfolding_all rfl)
noncomputable def bX (xs:List V) (lo hi:Option Int):List V:=(xs.drop (HT.sIx xs.length 0 lo)).take (HT.sIx xs.length xs.length hi - HT.sIx xs.length 0 lo)
theorem eQ (xs:List V) (lo hi:Option Int):(bX xs lo hi).length<=xs.length:=by
 unfold bX
 rw[ub,List.length_drop]
 omega
noncomputable def rSlT (K:PySem.W.Frag):V->Option Int->Option Int->Hp->VK->Prop:=fun x lo hi H Q=>∃ a xs,x=.ref a/\SqT K H a xs /\
 ¬ (HT.sIx xs.length 0 lo=0/\HT.sIx xs.length xs.length hi=xs.length)/\∀ p,H p=none->Q (.ref p) (upd H p (.tup (bX xs lo hi)))
theorem qr:SlR X (rSlT X.K):=by
 intro pins s σ H x v vl vu lo hi sl Q I rx hs pl pu h
 obtain⟨a,xs,rfl,hx,hw,q⟩:=h
 cases rx
 obtain⟨its,r,ht,hz⟩:=I.tuple hx
 have hlen:its.toArray.size=xs.length:=by rw[t0]; exact r.length.symm
 refine⟨"tuple",_,PyProof.Rows.slot_tuple_getitem.lookup,ht.typeIs,?_⟩
 refine HT.getItem_tuple_cut ht hs pl pu (by rw[hlen]; exact hw) ?_ (by rw[hlen]; exact hz)
 rw[hlen]
 refine⟨.ref s.heap.objs.size,_,I.laid (t':=s.toks) (o:=.tup (bX xs lo hi)) (fun b ob q=>Heap.get?_push_of_some _ q) (Nat.le_refl _) ?_,U,q _ (I.hok.fresh (Nat.le_refl _))⟩
 exact⟨Nat.le_trans (eQ xs lo hi) hz,_,(r.drop (HT.sIx xs.length 0 lo)).take (HT.sIx xs.length xs.length hi - HT.sIx xs.length 0 lo),IsTup.new _ _⟩
end
noncomputable def ixN (n:Nat) (i:Int):Option Nat:=if 0<=i then(if i<n then some i.toNat else none) else if -(n:Int)<=i then some (i+n).toNat else none
noncomputable def atI {α:Type} (xs:List α) (i:Int):Option α:=(ixN xs.length i).bind fun j=>xs[j]?
theorem jO {n:Nat}{i:Int}{j:Nat} (h:ixN n i=some j):seqIndex? i n=some j/\j<n/\-(n:Int)<=i/\i<n:=by
 unfold ixN at h
 by_cases h0:0<=i
 ·rw[if_pos h0] at h
  by_cases h1:i<n
  ·rw[if_pos h1] at h
   have e:i.toNat=j:=Option.some.inj h
   exact⟨by rw[seqIndex_of h0 h1,e],by omega,by omega,h1⟩
  ·rw[if_neg h1] at h; cases h
 ·rw[if_neg h0] at h
  by_cases h1:-(n:Int)<=i
  ·rw[if_pos h1] at h
   have e:(i+n).toNat=j:=Option.some.inj h
   exact⟨by rw[seqIndex_neg (by omega) h1,e],by omega,h1,by omega⟩
  ·rw[if_neg h1] at h; cases h
theorem jY {α:Type}{xs:List α}{i:Int}{v:α} (h:atI xs i=some v):∃ j,seqIndex? i xs.length=some j/\xs[j]?=some v/\j<xs.length/\-(xs.length:Int)<=i/\i<xs.length:=by
 unfold atI at h
 cases e:ixN xs.length i with
 | none=>rw[e] at h; cases h
 | some j=>
  rw[e] at h
  obtain⟨h1,h2,h3,h4⟩:=jO e
  exact⟨j,h1,h,h2,h3,h4⟩
theorem am {α:Type}{xs:List α}{j:Nat}{v:α} (h:xs[j]?=some v):atI xs (j:Int)=some v:=by
 have hj:j<xs.length:=(List.getElem?_eq_some_iff.mp h).1
 have e:ixN xs.length (j:Int)=some j:=by
  unfold ixN
  rw[if_pos (by omega),if_pos (by omega)]; simp
 unfold atI; rw[e]; exact h
theorem iZ {α:Type} (xs:List α) (v:α):atI (xs++[v]) (-1)=some v:=by
 have hl:(xs++[v]).length=xs.length+1:=by simp
 have e:ixN (xs++[v]).length (-1)=some xs.length:=by
  unfold ixN
  rw[hl,if_neg (by decide),if_pos (by omega)]
  congr 1
  omega
 unfold atI
 rw[e]
 show(xs++[v])[xs.length]?=some v
 simp
noncomputable def oE (b:Expr):Prop:=∀ o i,subscripted b false o i=operate [o,i] (getItem o i)
noncomputable def IxR (X:Cx) (r:R2):Prop :=
 ∀ (value slice:Expr) (pins:List (Addr×Obj)) (s:Shared) (σ:St) (H:Hp) (x y:V) (v u:Value) (Q:VK),Inv X pins σ H s->RelV x v->RelV y u->r x y H Q ->
  subscripted slice false v u=operate [v,u] (getItem v u)->wpAny (model X.prog X.w) X.A (subscriptTail value slice v u) (EP X pins σ Q) X.xe s
noncomputable def MtR (X:Cx) (id:String) (r:V->List V->Hp->VK->Prop):Prop :=
 ∀ (pins:List (Addr×Obj)) (s:Shared) (σ:St) (H:Hp) (x:V) (xs:List V) (v:Value) (us:List Value) (Q:VK),Inv X pins σ H s->RelV x v->Vals xs us->r x xs H Q ->
  wpAny (model X.prog X.w) X.A (call (.builtin id) (v::us)) (EP X pins σ Q) X.xe s
section
variable {X:Cx}{a b:Expr}{ta tb:TE}{pos:Pos}
theorem av {r:R2} (hr:IxR X r) (ha:PE X a ta) (hb:PE X b tb) (hs:oE b:=by exact fun _ _=>rfl):PE X (.Subscript a b pos) (tOp r ta tb):=by
 intro pins s σ H Q I h
 exact Subscript_ (rM ha hb I h fun v u s2 x y H2 I2 rx ry q=>hr a b pins s2 σ H2 x y v u Q I2 rx ry q (hs _ _))
inductive RL_ (K:PySem.W.Frag) (x y:V) (H:Hp) (Q:VK):Prop
 | mk (p:Addr) (xs:List V) (i:Int) (v:V) (h1:x=.ref p) (h2:y=.int i) (h3:SqL K H p xs) (h4:atI xs i=some v) (q:Q v H):RL_ K x y H Q
noncomputable def sT (K:PySem.W.Frag):R2:=fun x y H Q=>RL_ K x y H Q
inductive RT_ (K:PySem.W.Frag) (x y:V) (H:Hp) (Q:VK):Prop
 | mk (p:Addr) (xs:List V) (i:Int) (v:V) (h1:x=.ref p) (h2:y=.int i) (h3:SqT K H p xs) (h4:atI xs i=some v) (q:Q v H):RT_ K x y H Q
noncomputable def rIxT (K:PySem.W.Frag):R2:=fun x y H Q=>RT_ K x y H Q
theorem aB:IxR X (sT X.K):=by
 intro value slice pins s σ H x y v u Q I rx ry h hs
 obtain⟨p,xs,i,z,rfl,rfl,hq,he,q⟩:=h
 cases rx
 obtain⟨t,rfl⟩:=ry
 obtain⟨its,r,pl,hz⟩:=I.list hq
 obtain⟨j,h1,h2,h3,h4,h5⟩:=jY he
 obtain⟨w,ew,rw'⟩:=r.get h2
 have hl:=r.length
 have hn:=fO
 have fin:EP X pins σ Q w s:=⟨z,H,I,rw',q⟩
 by_cases h0:0<=i
 ·have hj:i.toNat=j:=by
   rw[seqIndex_of h0 h5] at h1
   exact Option.some.inj h1
  exact item_listR pl.isList h0 (by omega) (by rw[hj]; simpa using ew) fin hs
 ·have hj:(i+(its.toArray.size:Int)).toNat=j:=by
   rw[seqIndex_neg (by omega) h4] at h1
   rw[t0,<- hl]
   exact Option.some.inj h1
  exact subscriptTail_builtinR (x:=w) pl.isList.typeIs slot_list_getitem.lookup
   (wpAny_getItem_list_neg (Q:=fun r s'=>r=w/\EP X pins σ Q r s') pl.isList (by omega) (by rw[t0] <;> omega) (by omega) (by rw[hj]; simpa using ew) ⟨U,fin⟩) hs
theorem aK:IxR X (rIxT X.K):=by
 intro value slice pins s σ H x y v u Q I rx ry h hs
 obtain⟨p,xs,i,z,rfl,rfl,hq,he,q⟩:=h
 cases rx
 obtain⟨t,rfl⟩:=ry
 obtain⟨its,r,pl,hz⟩:=I.tuple hq
 obtain⟨j,h1,h2,h3,h4,h5⟩:=jY he
 obtain⟨w,ew,rw'⟩:=r.get h2
 have hl:=r.length
 have hn:=fO
 have fin:EP X pins σ Q w s:=⟨z,H,I,rw',q⟩
 exact subscriptTail_builtinR (x:=w) pl.typeIs slot_tuple_getitem.lookup
  (getItem_tuple (j:=j) (Q:=fun r s'=>r=w/\EP X pins σ Q r s') pl (by omega) (by omega) (by rw[t0,<- hl]; exact h1) (by simpa using ew) ⟨U,fin⟩) hs
theorem jk (its:List Value) (n j:Nat) (u:Value):Obj.mapSeq (·.setIfInBounds j u) { cls:=.type "list",data:=.seq its.toArray n }={ cls:=.type "list",data:=.seq (its.set j u).toArray n }:=by
 simp[Obj.mapSeq]
theorem Inv.lst {pins:List (Addr×Obj)}{σ:St}{H:Hp}{s:Shared}{p:Addr}{xs:List V} (I:Inv X pins σ H s) (h:H p=some (.lst xs)) :
  ∃ (its:List Value) (n:Nat),Vals xs its/\s.heap.get? p=some { cls:=.type "list",data:=.seq its.toArray n }/\xs.length<=sizeLine:=by
 obtain⟨z,its,n,r,e⟩:=I.hok p _ h
 exact⟨its,n,r,e,z⟩
theorem Inv.lstUpd {pins:List (Addr×Obj)}{σ:St}{H:Hp}{s:Shared}{p:Addr}{xs ys:List V}{its its':List Value}{n n':Nat}{f:Obj->Obj} (I:Inv X pins σ H s) (h:H p=some (.lst xs))
  (ho:s.heap.get? p=some { cls:=.type "list",data:=.seq its.toArray n }) (hf:f { cls:=.type "list",data:=.seq its.toArray n }={ cls:=.type "list",data:=.seq its'.toArray n' }) (r:Vals ys its') (hz:ys.length<=sizeLine) (t:Nat) :
  Inv X pins σ (upd H p (.lst ys)) { s with heap:=s.heap.update p f,toks:=t }:=by
 have e:(s.heap.update p f).get? p=some { cls:=.type "list",data:=.seq its'.toArray n' }:=by
  rw[Heap.get?_update_self f ho (by rw[hf] <;> rfl),hf]
 refine I.write (x:=p) (e:=p) (by rw[h]; trivial) (.inl rfl) (fun b u hb q=>(Heap.get?_update_other _ _ (Ne.symm hb)).trans q) ⟨_,e⟩ ?_
 exact⟨hz,its',n',r,e⟩
noncomputable def rSetL:V->V->V->Hp->(Hp->Prop)->Prop:=fun o i v H Q=>∃ p xs k j,o=.ref p/\i=.int k/\H p=some (.lst xs)/\ixN xs.length k=some j/\Q (upd H p (.lst (xs.set j v)))
theorem dy:tI X rSetL:=by
 intro pins s σ H o i v ov iv u Q I ro ri rv h
 obtain⟨p,xs,k,j,rfl,rfl,hp,hj,q⟩:=h
 cases ro
 obtain⟨t,rfl⟩:=ri
 obtain⟨its,n,r,ho,hz⟩:=I.lst hp
 obtain⟨h1,h2,h3,h4⟩:=jO hj
 have hl:=r.length
 have hn:=fO
 have I':Inv X pins σ (upd H p (.lst (xs.set j v))) { s with heap:=s.heap.update p (Obj.mapSeq (·.setIfInBounds j u)) } :=
  I.lstUpd hp ho (jk its n j u) (r.set rv j) (by rw[List.length_set]; exact hz) s.toks
 by_cases h0:0<=k
 ·have hk:k.toNat=j:=by
   rw[seqIndex_of h0 h4] at h1
   exact Option.some.inj h1
  exact PySem.W.ki_setAt ho h0 (by omega) (by rw[t0,<- hl]; exact h4) (by rw[hk]; exact⟨_,I',q⟩)
 ·have hk:(k+(its.toArray.size:Int)).toNat=j:=by
   rw[seqIndex_neg (by omega) h3] at h1
   rw[t0,<- hl]
   exact Option.some.inj h1
  exact PySem.W.ki_setBack ho (by omega) (by rw[t0,<- hl]; exact h3) (by omega) (by rw[hk]; exact⟨_,I',q⟩)
theorem gZ (lo hi:Option Int) (n:Nat):(sliceBounds lo hi none n).1=((HT.sIx n 0 lo:Nat):Int)/\(sliceBounds lo hi none n).2.1=((HT.sIx n n hi:Nat):Int)/\(sliceBounds lo hi none n).2.2=1:=by
 refine⟨?_,?_,U⟩
 ·cases lo with
  | none=>simp[sliceBounds,HT.sIx]
  | some i=>
   simp only[sliceBounds,HT.sIx,Option.getD_none,show(1:Int) > 0 by decide,if_true]
   by_cases h:i<0
   ·simp only[h,if_true] <;> omega
   ·simp only[h,if_false] <;> omega
 ·cases hi with
  | none=>simp[sliceBounds,HT.sIx]
  | some i=>
   simp only[sliceBounds,HT.sIx,Option.getD_none,show(1:Int) > 0 by decide,if_true]
   by_cases h:i<0
   ·simp only[h,if_true] <;> omega
   ·simp only[h,if_false] <;> omega
theorem gk (its:List Value) (lo hi:Option Int):slicePick its.toArray lo hi none=((its.drop (HT.sIx its.length 0 lo)).take (HT.sIx its.length its.length hi - HT.sIx its.length 0 lo)).toArray:=by
 obtain⟨h1,h2,h3⟩:=gZ lo hi its.toArray.size
 unfold slicePick
 rw[h1,h2,h3]
 simp only[sliceRange_one,pick_run,t0] <;> rfl
noncomputable def rSlL (K:PySem.W.Frag):V->Option Int->Option Int->Hp->VK->Prop:=fun x lo hi H Q=>∃ a xs,x=.ref a/\SqL K H a xs/\∀ p,H p=none->Q (.ref p) (upd H p (.lst (bX xs lo hi)))
theorem dw:SlR X (rSlL X.K):=by
 intro pins s σ H x v vl vu lo hi sl Q I rx hs pl pu h
 obtain⟨a,xs,rfl,hx,q⟩:=h
 cases rx
 obtain⟨its,r,ht,hz⟩:=I.list hx
 have hlen:=r.length
 refine⟨"list",_,slot_list_getitem.lookup,ht.isList.typeIs,?_⟩
 refine wpAny_getItem_list_slice ht.isList hs pl pu .none (by simp) ?_ (by rw[t0] <;> omega)
 rw[gk,<- hlen]
 refine⟨.ref s.heap.objs.size,_,I.laid (t':=s.toks) (o:=.lst (bX xs lo hi)) (fun b ob q=>Heap.get?_push_of_some _ q) (Nat.le_refl _) ?_,U,q _ (I.hok.fresh (Nat.le_refl _))⟩
 exact⟨Nat.le_trans (eQ xs lo hi) hz,_,0,(r.drop (HT.sIx xs.length 0 lo)).take (HT.sIx xs.length xs.length hi - HT.sIx xs.length 0 lo),Heap.get?_push_size _ rfl⟩
noncomputable def eO:V->Bool
 | .non=>true
 | .bl _=>true
 | .int _=>true
 | .str _=>true
 | _=>false
noncomputable def eqV:V->V->Bool
 | .non,.non=>true
 | .bl a,.bl b=>a == b
 | .bl a,.int b=>(if a then 1 else 0) == b
 | .int a,.bl b=>a == (if b then 1 else 0)
 | .int a,.int b=>a == b
 | .str a,.str b=>a == b
 | _,_=>false
theorem rJ {A:Around}{s:Shared}{y x:V}{u v:Value} (ry:RelV y u) (rx:RelV x v) (fy:eO y=true) (fx:eO x=true):SeqAt.EqAt A s u v (eqV y x):=by
 cases y with
 | non=>
  cases ry
  cases x with
  | non=>cases rx; exact SeqAt.EqAt.same _
  | bl b=>cases rx; exact SeqAt.EqAt.none_bool b
  | int b=>obtain⟨t,rfl⟩:=rx; exact SeqAt.EqAt.none_int b t
  | str b=>obtain⟨t,rfl⟩:=rx; exact SeqAt.EqAt.none_str b t
  | _=>exact absurd (show false=true from fx) Bool.false_ne_true
 | bl a=>
  cases ry
  cases x with
  | non=>cases rx; exact SeqAt.EqAt.bool_none a
  | bl b=>cases rx; exact SeqAt.EqAt.bool_bool a b
  | int b=>obtain⟨t,rfl⟩:=rx; exact SeqAt.EqAt.bool_int a b t
  | str b=>obtain⟨t,rfl⟩:=rx; exact SeqAt.EqAt.bool_str a b t
  | _=>exact absurd (show false=true from fx) Bool.false_ne_true
 | int a=>
  obtain⟨t',rfl⟩:=ry
  cases x with
  | non=>cases rx; exact SeqAt.EqAt.int_none a t'
  | bl b=>cases rx; exact SeqAt.EqAt.int_bool a t' b
  | int b=>obtain⟨t,rfl⟩:=rx; exact SeqAt.EqAt.int_int a t' b t
  | str b=>obtain⟨t,rfl⟩:=rx; exact SeqAt.EqAt.int_str a t' b t
  | _=>exact absurd (show false=true from fx) Bool.false_ne_true
 | str a=>
  obtain⟨t',rfl⟩:=ry
  cases x with
  | non=>cases rx; exact SeqAt.EqAt.str_none a t'
  | bl b=>cases rx; exact SeqAt.EqAt.str_bool a t' b
  | int b=>obtain⟨t,rfl⟩:=rx; exact SeqAt.EqAt.str_int a t' b t
  | str b=>obtain⟨t,rfl⟩:=rx; exact SeqAt.EqAt.str_str a t' b t
  | _=>exact absurd (show false=true from fx) Bool.false_ne_true
 | _=>exact absurd (show false=true from fy) Bool.false_ne_true
noncomputable def eqU (x:V) (u:Value):Bool:=match u with
 | .none=>eqV .non x
 | .bool b=>eqV (.bl b) x
 | .int i _=>eqV (.int i) x
 | .str z _=>eqV (.str z) x
 | _=>false
theorem mX {x y:V}{u:Value} (r:RelV y u) (f:eO y=true):eqU x u=eqV y x:=by
 cases y with
 | non=>cases r; rfl
 | bl b=>cases r; rfl
 | int i=>obtain⟨t,rfl⟩:=r; rfl
 | str z=>obtain⟨t,rfl⟩:=r; rfl
 | _=>exact absurd (show false=true from f) Bool.false_ne_true
theorem dZ {x:V}:∀ {xs:List V}{us:List Value},Vals xs us->xs.all eO=true->us.any (eqU x)=xs.any fun y=>eqV y x
 | _,_,.nil,_=>rfl
 | y::xs,u::us,.cons r t,f=>by
  rw[List.all_cons,Bool.and_eq_true] at f
  rw[List.any_cons,List.any_cons,mX r f.1,dZ t f.2]
theorem cQ {A:Around}{s:Shared}{x:V}{v:Value} (rx:RelV x v) (fx:eO x=true):∀ {xs:List V}{us:List Value},Vals xs us->xs.all eO=true->∀ u ∈ us,SeqAt.EqAt A s u v (eqU x u)
 | _,_,.nil,_=>fun u hu=>by cases hu
 | y::xs,u::us,.cons r t,f=>fun u' hu=>by
  rw[List.all_cons,Bool.and_eq_true] at f
  rcases tX.mp hu with rfl | hu
  ·rw[mX r f.1]; exact rJ r rx f.1 fx
  ·exact cQ rx fx t f.2 u' hu
noncomputable def inV (x:V) (xs:List V):Bool:=xs.any fun y=>eqV y x
noncomputable def rIn (K:PySem.W.Frag) (neg:Bool):R2:=fun x y H Q=>∃ p xs,y=.ref p/\(SqL K H p xs∨SqT K H p xs)/\eO x=true/\xs.all eO=true/\Q (.bl (if neg then !inV x xs else inV x xs)) H
theorem kg:OpR X (compareOp .In) (rIn X.K false):=by
 intro pins s σ H x y v u Q I rx ry h
 obtain⟨p,xs,rfl,hq,fx,fs,q⟩:=h
 cases ry
 rcases hq with hq | hq
 ·obtain⟨its,r,pl,hz⟩:=I.list hq
  refine SeqAt.in_listAt (eqU x) pl.isList (fun w hw=>cQ rx fx r fs w (by simpa using hw)) ⟨.bl _,H,I,U,?_⟩
  rw[show its.toArray.any (eqU x)=its.any (eqU x) by simp,dZ r fs]
  exact q
 ·obtain⟨its,r,pl,hz⟩:=I.tuple hq
  refine SeqAt.in_tupleAt (eqU x) pl (fun w hw=>cQ rx fx r fs w (by simpa using hw)) ⟨.bl _,H,I,U,?_⟩
  rw[show its.toArray.any (eqU x)=its.any (eqU x) by simp,dZ r fs]
  exact q
theorem dM:OpR X (compareOp .NotIn) (rIn X.K true):=by
 intro pins s σ H x y v u Q I rx ry h
 obtain⟨p,xs,rfl,hq,fx,fs,q⟩:=h
 cases ry
 rcases hq with hq | hq
 ·obtain⟨its,r,pl,hz⟩:=I.list hq
  refine SeqAt.notIn_listAt (eqU x) pl.isList (fun w hw=>cQ rx fx r fs w (by simpa using hw)) ⟨.bl _,H,I,U,?_⟩
  rw[show its.toArray.any (eqU x)=its.any (eqU x) by simp,dZ r fs]
  exact q
 ·obtain⟨its,r,pl,hz⟩:=I.tuple hq
  refine SeqAt.notIn_tupleAt (eqU x) pl (fun w hw=>cQ rx fx r fs w (by simpa using hw)) ⟨.bl _,H,I,U,?_⟩
  rw[show its.toArray.any (eqU x)=its.any (eqU x) by simp,dZ r fs]
  exact q
theorem aI:c7 X (.builtin "len") (fun xs H Q=>∃ p ys,xs=[.ref p]/\(SqL X.K H p ys∨SqT X.K H p ys)/\Q (.int ys.length) H):=by
 intro pins s σ H xs us Q I r h
 obtain⟨p,ys,rfl,hq,q⟩:=h
 obtain⟨u,rfl,rx⟩:=du r
 cases rx
 have hn:=fO
 rcases hq with hq | hq
 ·obtain⟨its,r',pl,hz⟩:=I.list hq
  have hlen:=r'.length
  exact Calls.call_len_list pl.isList (by simp only[t0] <;> omega) ⟨.int ys.length,H,I.tok _,⟨s.toks+1,by rw[t0,hlen]⟩,q⟩
 ·obtain⟨its,r',pl,hz⟩:=I.tuple hq
  have hlen:=r'.length
  exact len_tuple pl (by simp only[t0] <;> omega) ⟨.int ys.length,H,I.tok _,⟨s.toks+1,by rw[t0,hlen]⟩,q⟩
theorem ba:c7 X (.type "list") (fun xs H Q=>∃ p ys,xs=[.ref p]/\(SqL X.K H p ys∨SqT X.K H p ys)/\∀ l,H l=none->Q (.ref l) (upd H l (.lst ys))):=by
 intro pins s σ H xs us Q I r h
 obtain⟨p,ys,rfl,hq,q⟩:=h
 obtain⟨u,rfl,rx⟩:=du r
 cases rx
 have fin:∀ (its:List Value),Vals ys its->ys.length<=sizeLine->∀ (h':Heap) (c':Nat),(∀ b o',s.heap.get? b=some o'->h'.get? b=some o') ->
   h'.get? s.heap.objs.size=some { cls:=.type "list",dict:=none,data:=.seq its.toArray c',slots:=#[] }->EP X pins σ Q (.ref s.heap.objs.size) { s with heap:=h' }:=fun its r' hz h' c' kp e=>
  ⟨.ref s.heap.objs.size,_,I.laid (t':=s.toks) kp (Nat.le_refl _) (show ObjOk X.prog X.w _ h' _ (.lst ys) from⟨hz,its,c',r',e⟩),U,q _ (I.hok.fresh (Nat.le_refl _))⟩
 rcases hq with hq | hq
 ·obtain⟨its,r',pl,hz⟩:=I.list hq
  have hlen:=r'.length
  obtain⟨o,ho,hc,n,hd⟩:=pl.isList
  exact call_list_seq p (.inl rfl) ho hc hd (fun h' c' kp e=>fin its r' hz h' c' kp e) (by simp only[t0] <;> omega)
 ·obtain⟨its,r',pl,hz⟩:=I.tuple hq
  have hlen:=r'.length
  obtain⟨o,ho,hc,n,hd⟩:=pl
  exact call_list_seq p (.inr rfl) ho hc hd (fun h' c' kp e=>fin its r' hz h' c' kp e) (by simp only[t0] <;> omega)
noncomputable def tyV (K:PySem.W.Frag) (T:String) (x:V) (H:Hp):Prop:=match x with
 | .str _=>T = "str"
 | .int _=>T = "int"
 | .ref p=>(T = "list" /\ ∃ xs,SqL K H p xs)∨(T = "tuple" /\ ∃ o,K.lookup p=some o/\o.cls=.type "tuple" /\ o.dict=none) ∨
   (T = "dict" /\ ((∃ kvs,H p=some (.dK kvs))∨∃ kvs,H p=some (.dT kvs)))∨(T = "set" /\ ∃ S n,H p=some (.set S n))
 | _=>False
theorem kW {pins:List (Addr×Obj)}{σ:St}{H:Hp}{s:Shared}{T:String}{x:V}{v:Value} (I:Inv X pins σ H s) (r:RelV x v) (ty:tyV X.K T x H) :
  s.TypeIs v T/\∀ a,v=.ref a->∃ ob,s.heap.get? a=some ob/\ob.dict=none:=by
 cases x with
 | str z=>
  obtain⟨t,rfl⟩:=r
  cases (show T = "str" from ty)
  exact⟨typeIs_str s z t,fun _ e=>nomatch e⟩
 | int i=>
  obtain⟨t,rfl⟩:=r
  cases (show T = "int" from ty)
  exact⟨typeIs_int s i t,fun _ e=>nomatch e⟩
 | ref p=>
  cases r
  rcases ty with ⟨rfl,xs,hq⟩ | ⟨rfl,o,hk,hc,hd⟩ | ⟨rfl,hk⟩ | ⟨rfl,S,n,hk⟩
  ·obtain⟨its,_,pl,_⟩:=I.list hq
   refine⟨pl.isList.typeIs,fun a e=>?_⟩
   cases e
   obtain⟨o,n,e,c,hd,_⟩:=pl
   exact⟨o,e,hd⟩
  ·refine⟨⟨o,I.kIn p o hk,hc⟩,fun a e=>?_⟩
   cases e
   exact⟨o,I.kIn _ o hk,hd⟩
  ·have z:∃ o,s.heap.get? p=some o/\o.ExactDict:=by
    rcases hk with ⟨kvs,hk⟩ | ⟨kvs,hk⟩
    ·obtain⟨_,_,_,_,o,_,_,e,ex,_⟩:=I.hok p _ hk
     exact⟨o,e,ex⟩
    ·obtain⟨_,_,_,_,o,_,_,e,ex,_⟩:=I.hok p _ hk
     exact⟨o,e,ex⟩
   obtain⟨o,e,ex⟩:=z
   refine⟨⟨o,e,ex.1⟩,fun a e2=>?_⟩
   cases e2
   exact⟨o,e,ex.2.1⟩
  ·obtain⟨o,_,_,_,e,ex,_⟩:=I.hok p _ hk
   refine⟨⟨o,e,ex.1⟩,fun a e2=>?_⟩
   cases e2
   exact⟨o,e,ex.2.1⟩
 | _=>exact False.elim ty
noncomputable def tBM0 (K:PySem.W.Frag) (T:String) (r:V->List V->Hp->VK->Prop) (to:TE):TE:=fun σ H Q=>to σ H fun x H1=>tyV K T x H1/\r x [] H1 Q
noncomputable def tBM (K:PySem.W.Frag) (T:String) (r:V->List V->Hp->VK->Prop) (to:TE) (t:TA):TE:=fun σ H Q=>to σ H fun x H1=>tyV K T x H1/\t σ H1 fun xs H2=>r x xs H2 Q
variable {o e:Expr}{es:List Expr}{to:TE}{t:TA}{name:Str}{apos cpos:Pos}{T id:String}{r:V->List V->Hp->VK->Prop}
theorem qE (pa:PlainAttrs T) (slot:Slot T name id) (hty:typeOf (.builtin id)=pure (.type "method_descriptor")) (hm:MtR X id r) (ho:PE X o to)
  (hbase:attributeBase o name X.env (eval o X.env)=eval o X.env:=by rfl) (hline:(apos.endLine == cpos.line)=true:=by rfl):PE X (.Call (.Attribute o name apos) [] [] cpos) (tBM0 X.K T r to):=by
 intro pins s σ H Q I h
 refine wpAny_Call_method0_late hbase hline (thn (ho pins s σ H _ I h) fun v s1 ⟨x,H1,I1,r1,ty,q1⟩=>?_)
 obtain⟨h1,h2⟩:=kW I1 r1 ty
 exact⟨T,id,pa,slot,hty,h1,h2,Calls.callWith_builtin rfl (PySem.evalArgs_none (hm pins s1 σ H1 x [] v [] Q I1 r1 .nil q1))⟩
theorem bS (pa:PlainAttrs T) (slot:Slot T name id) (hty:typeOf (.builtin id)=pure (.type "method_descriptor")) (hm:MtR X id r) (ho:PE X o to) (ha:PA X (e::es) t)
  (hbase:attributeBase o name X.env (eval o X.env)=eval o X.env:=by rfl)
  (hfew:((backTo cpos (starEach (e::es) X.env)).all (fun x=>!x.1) && (backToKw cpos (keywordEach [] X.env)).all (fun x=>x.1.isSome)
   && decide ((e::es).length+([]:List Keyword).length+(if ([]:List Keyword).isEmpty then 0 else 1)<30))=true:=by rfl)
  (hline:(apos.endLine == cpos.line)=true:=by rfl) (hs:starEach (e::es) X.env=(false,eval e X.env)::starEach es X.env:=by rfl) (hplain:(backTo cpos (starEach es X.env)).any (·.1)=false:=by rfl) :
  PE X (.Call (.Attribute o name apos) (e::es) [] cpos) (tBM X.K T r to t):=by
 intro pins s σ H Q I h
 refine wpAny_Call_method_late hbase hfew hline rfl (thn (ho pins s σ H _ I h) fun v s1 ⟨x,H1,I1,r1,ty,q1⟩=>?_)
 obtain⟨h1,h2⟩:=kW I1 r1 ty
 refine⟨T,id,pa,slot,hty,h1,h2,?_⟩
 have hA:=ha cpos pins s1 σ H1 _ I1 q1
 rw[hs] at hA ⊢
 refine Calls.callWith_builtin (by show (false || (backTo cpos (starEach es X.env)).any (·.1)) = false; rw [hplain] <;> rfl) (Calls.evalArgs_plain ?_)
 exact thn hA fun us s2 ⟨vs,H2,I2,r2,q2⟩=>hm pins s2 σ H2 x vs v us Q I2 r1 r2 q2
/- xs.append(e),list.index on a module's tuple .. are MtR facts of 06m -/
end
end L2
namespace L2
open PySem PySem.Spec PyProof.Rows
noncomputable def MtM (X:Cx) (id:String) (r:V->List V->Hp->VK->Prop):Prop :=
 ∀ (pins:List (Addr×Obj)) (s:Shared) (σ:St) (H:Hp) (x:V) (xs:List V) (v:Value) (us:List Value) (Q:VK),Inv X pins σ H s->RelV x v->Vals xs us->r x xs H Q ->
  wpAny (model X.prog X.w) X.A (call (.builtin id) (v::us)) (EP X pins σ Q) X.xe s
theorem Vals.one {x:V}{us:List Value} (h:Vals [x] us):∃ u,us=[u]/\RelV x u:=by
 cases h with
 | cons r s=>cases s; exact⟨_,U,r⟩
theorem Vals.zero:∀ {us:List Value},Vals [] us->us=[]
 | _,.nil=>rfl
theorem Vals.dropLast {xs:List V}{us:List Value} (h:Vals xs us):Vals xs.dropLast us.dropLast:=by
 induction h with
 | nil=>exact .nil
 | cons r t ih=>
  cases t with
  | nil=>exact .nil
  | cons q t'=>exact .cons r ih
theorem jr {α:Type} (l:List α):l.eraseIdx (l.length - 1)=l.dropLast:=by
 induction l with
 | nil=>rfl
 | cons a r ih=>
  cases r with
  | nil=>rfl
  | cons b r=>
   have e:(a::b::r).length - 1=((b::r).length - 1)+1:=by
    have h1:(a::b::r).length=r.length+2:=rfl
    have h2:(b::r).length=r.length+1:=rfl
    omega
   rw[e,List.eraseIdx_cons_succ,ih]
   all_goals rfl
section
variable {X:Cx}{pins:List (Addr×Obj)}{σ:St}{H:Hp}{s:Shared}{l b:Addr}{xs ys zs:List V}
theorem Inv.lset {its its':List Value}{n:Nat}{f:Array Value->Array Value}{t':Nat} (I:Inv X pins σ H s) (hH:H l=some (.lst xs))
  (e:s.heap.get? l=some { cls:=.type "list",data:=.seq its.toArray n }) (hf:f its.toArray=its'.toArray) (hv:Vals ys its') (hz:ys.length<=sizeLine) :
  Inv X pins σ (upd H l (.lst ys)) { s with heap:=s.heap.update l (Obj.mapSeq f),toks:=t' }:=by
 have q:=PySem.IsL.update e f
 rw[hf] at q
 refine I.write (x:=l) (e:=l) (by rw[hH]; exact trivial) (.inl rfl) (fun b' u hb hu=>(Heap.get?_update_other s.heap (Obj.mapSeq f) (Ne.symm hb)).trans hu) ⟨_,q⟩ ?_
 exact⟨hz,its',_,hv,q⟩
theorem Inv.lstM (I:Inv X pins σ H s) (hH:H l=some (.lst xs)):xs.length<=sizeLine/\∃ (its:List Value) (n:Nat),Vals xs its/\xs.length=its.length/\s.heap.get? l=some { cls:=.type "list",data:=.seq its.toArray n }:=by
 obtain⟨z,its,n,r,e⟩:=I.hok l _ hH
 exact⟨z,its,n,r,r.length,e⟩
end
section
variable {X:Cx}
noncomputable def nP:V->List V->Hp->VK->Prop:=fun x vs H Q=>∃ l xs y,x=.ref l/\vs=[y]/\H l=some (.lst xs)/\xs.length<sizeLine/\Q .non (upd H l (.lst (xs++[y])))
theorem aU:MtM X "list.append" nP:=by
 intro pins s σ H x vs v us Q I rx rv h
 obtain⟨l,xs,y,rfl,rfl,hH,hz,q⟩:=h
 cases rx
 obtain⟨u,rfl,ru⟩:=rv.one
 obtain⟨z,its,n,r,hl,e⟩:=I.lstM hH
 refine call_meets F.slot_list_append ⟨_,e,U⟩ F.entry_list_append (F.args_list_append_2 _ _) (PySem.list_append l its.toArray n u (by rw[t0]; omega)) ⟨e,?_⟩
 refine⟨.non,_,I.lset (its':=its++[u]) hH e (by simp) (r.append (.cons ru .nil)) ?_,U,q⟩
 rw[tW,t7]
 omega
noncomputable def rPop:V->List V->Hp->VK->Prop:=fun x vs H Q=>∃ l xs y,x=.ref l/\vs=[]/\H l=some (.lst xs)/\xs[xs.length - 1]?=some y/\Q y (upd H l (.lst xs.dropLast))
theorem rj:MtM X "list.pop" rPop:=by
 intro pins s σ H x vs v us Q I rx rv h
 obtain⟨l,xs,y,rfl,rfl,hH,hy,q⟩:=h
 cases rx
 have hus:=rv.zero
 subst hus
 obtain⟨z,its,n,r,hl,e⟩:=I.lstM hH
 obtain⟨u,hu,ru⟩:=r.get hy
 have hy':its.toArray[its.toArray.size - 1]?=some u:=by
  show its.toArray[its.length - 1]?=some u
  rw[<- Array.getElem?_toList,<- hl]
  exact hu
 refine call_meets F.slot_list_pop ⟨_,e,U⟩ F.entry_list_pop (F.args_list_pop_1 _) (MeetsSeq.list_pop_last l its.toArray n u hy' (by rw[t0]; omega)) ⟨e,?_⟩
 refine⟨y,_,I.lset (its':=its.dropLast) hH e ?_ r.dropLast ?_,ru,q⟩
 ·show its.toArray.eraseIdxIfInBounds (its.toArray.size - 1)=its.dropLast.toArray
  rw[t0,List.eraseIdxIfInBounds_toArray,jr]
 ·rw[List.length_dropLast]
  omega
end
end L2
namespace Att
open PySem PySem.W PySem.Calls PyProof.Rows
theorem fc {P:Params}{h:Heap}:∀ (ns:List Int) (vs:List Value),WellAll P h vs (ns.map WData.int)->IntsAre vs ns:=by
 intro ns
 induction ns with
 | nil=>
  intro vs w
  rw[List.map_nil] at w
  cases w
  exact .nil
 | cons n ns ih=>
  intro vs w
  rw[t5] at w
  cases w with
  | cons a b=>
   cases a
   exact .cons _ _ (ih _ b)
theorem j7 {l : OpenLaw}{n : Nat} (hn : l.most=some n) {P : Params}{h : Heap}{args : List WData}{vals : List Value}
    (hpre : l.row.toRowW.claim.pre args=true) (hwl : WellAll P h vals args) :
    ∃ a vs ns, vals=[Value.ref a]/\args=[WData.list (ns.map WData.int)]/\h.get? a=some { cls := .type "list", data := .seq vs.toArray }/\IntsAre vs ns/\ns.length<=n := by
  have hsh : WShape.hasAll [] args [.list .int]=true := (pre_splitW hpre).1
  have hc : l.pre.holds [] { args := args }=true := (pre_splitW hpre).2
  obtain⟨d, r, rfl, h1, h2⟩ := hasAllW_cons hsh
  obtain rfl := hasAllW_nil h2
  obtain⟨xs, rfl, h3⟩ := hasW_list h1
  obtain⟨ns, rfl⟩ := items_int h3
  have hlen : ns.length<=n := by
    unfold OpenLaw.pre at hc
    have h4 : (WTm.not (.lt (.lit (.int (n : Int))) (.len (.arg 0)))).holds [] { args := [.list (ns.map .int)] }=true := by
      have h4 := (holds_andW hc).1
      rw[hn] at h4
      exact h4
    have h5 := condW_of h4 (w_not (w_lt w_lit (w_len_list (w_arg rfl))))
    rw[tP] at h5
    refine Nat.le_of_not_lt fun q=>?_
    have q' : (n : Int)<((ns.length : Nat) : Int) := by omega
    first
      | (rw [decide_eq_true q'] at h5; exact absurd h5 (by decide))
      | (simp at h5; omega)
  cases hwl with
  | cons w1 w2=>
    cases w2
    cases w1 with
    | list ho hall=>exact⟨_, _, ns, rfl, rfl, ho, fc ns _ hall, hlen⟩
theorem ka (l:OpenLaw) (args:List WData):l.row.toRowW.claim.post args (.bool true) args=true :=
 postW_of (r:=l.row.toRowW) (X:=(true == true))
  (show WShape.has [] (.bool true) .bool=true by first | rfl | decide | simp[WShape.has,WShape.arms,WShape.armsAll])
  (show(WTm.eq .res (.lit (.bool true))).value [] { args:=args,res:=some (.bool true),after:=args }=some (.bool (true == true)) from w_eq_bool (w_res rfl) w_lit) rfl
theorem attach_call {l:OpenLaw}{n:Nat}{q:Program}{loose:List Str}{XP:(Str->Option Value)->Heap->Prop}{YP:World->Heap->Prop}{d:DefRec}
  (hn:l.most=some n) (hdf:d.params.defaults=[])
  (call:∀ (w:World) (s₀ s₁:Shared) (mg mb:Str->Option Value) (fa:Addr) (o:Obj) (pm cd doc:Value) (a:Addr) (vs:List Value) (ns:List Int),
   Ground q loose [] XP w s₀ mg mb s₁.heap->YP w s₁.heap ->
   s₁.heap.get? fa=some o->o.data=.func (docDef d.name d.params d.body d.scope pm cd doc)->s₁.heap.CodeRec cd d.name->mg d.name=some (.ref fa) ->
   s₁.heap.get? a=some { cls:=.type "list",data:=.seq vs.toArray }->IntsAre vs ns->ns.length<=n->s₁.gens = #[] ->
   codeAny (model l.prog w) callerA (.call (.ref fa) ⟨[.ref a],[]⟩) (fun r s'=>r=.ok (.ret (.bool true))/\OldK s₁.heap s'.heap/\s'.os=s₁.os/\AllBare s'.gens) s₁) :
  WalkO q loose XP YP l.row.toRowW d [] (fun f vs=>PySem.call f vs):=by
 intro w s₀ s₁ mg mb G Y fa o pm cd doc dV kV ho hd hcd hD hmg hg args vals as hpre hlay hrd hwl hlo
 obtain rfl:dV=.none:=Dflts.none hD hdf
 obtain rfl:kV=.none:=Dflts.noKw hD
 obtain⟨a,vs,ns,rfl,rfl,hobj,hints,hlen⟩:=j7 hn hpre hwl
 refine enter_call (codeAny_mono (call w s₀ s₁ mg mb fa o pm cd doc a vs ns G Y ho (fd_plain hd) hcd hmg hobj hints hlen hg) fun r s' hq=>?_)
 obtain⟨rfl,h2,h3,h4⟩:=hq
 exact⟨.inl ⟨.bool true,.bool true,[],rfl,fun _=>rfl,.bool true,ka l _,fun _=>⟨List.Pairwise.nil,fun _ hm=>(nomatch hm)⟩⟩,h2,h3,h4⟩
section
variable {prog:Program}{w:World}{A:Around}{E:Value->Shared->Prop}{s:Shared}{K:Frag}
noncomputable def ledger (h:Heap) (L d:Addr):List (Addr×Obj):=(List.range h.objs.size).filterMap fun a=>if a=L∨a=d then none else(h.get? a).map fun o=>(a,o)
end
end Att
namespace L2
open PySem PySem.Spec PyProof.Rows
theorem gu:∀ {vs:List Value}{ns:List Int},IntsAre vs ns->Vals (ns.map V.int) vs
 | _,_,.nil=>.nil
 | _,_,.cons n t h=>.cons ⟨t,U⟩ (gu h)
noncomputable def oF (H:Hp):Prop:=∀ b,H b=none∨∃ o xs,H b=some (.frz o (.lst xs))
theorem mK {P:Program}{w:World}{K:PySem.W.Frag}{mg mb:Str->Option Value}{CX:CXT}{k:Nat}{fa a:Addr}{fd:FuncData}{x:Str}{sp:Sp}{s₁:Shared}{vs:List Value}{ns:List Int}
  (KX:K.In s₁.heap) (hns:s₁.heap.Ns mainGlobals mg) (hb:s₁.heap.Ns builtinsNs mb) (hbb:∀ x:Str,x ≠ "__name__" -> mb x=bootBuiltins x) (hlim:s₁.heap.NoLimit) (hg:s₁.gens = #[])
  (ha:s₁.heap.get? a=some { cls:=.type "list",data:=.seq vs.toArray }) (hi:IntsAre vs ns) (hl:ns.length<=sizeLine) (hr:Room k callerA)
  (F:∀ base:Heap,K.In base->base.Ns mainGlobals mg->FnOk P w K mg base CX k fa fd [x] sp) (hbind:∀ (s:Shared) (u:Value),BindsTo s fd ⟨[u],[]⟩ [(x,u)])
  (hsp:∀ H:Hp,oF H->SqL K H a (ns.map V.int)->sp [.ref a] H (fun v _=>v=.bl true) fun _ _ _=>False)
  (hCX:∀ H e s',CX [] H s₁ (fun _ _ _=>False) e s'->False) :
  codeAny (model P w) callerA (.call (.ref fa) ⟨[.ref a],[]⟩) (fun r s'=>r=.ok (.ret (.bool true))/\OldK s₁.heap s'.heap/\s'.os=s₁.os/\AllBare s'.gens) s₁:=by
 have rv:=gu hi
 have lenV:=hi.length
 have core:∀ H:Hp,oF H->SqL K H a (ns.map V.int)->HOk P w H s₁.heap->(∀ b,H b≠none->b=a)->(H a≠none->K.lookup a=none) ->
   codeAny (model P w) callerA (.call (.ref fa) ⟨[.ref a],[]⟩) (fun r s'=>r=.ok (.ret (.bool true))/\OldK s₁.heap s'.heap/\s'.os=s₁.os/\AllBare s'.gens) s₁:=by
  intro H hO hS hok hA hK
  have base_of:∀ {b:Addr}{o:Obj},s₁.heap.get? b=some o->H b=none->(hZ s₁.heap H).get? b=some o:=fun e n=>mO e n
  have noA:∀ {b:Addr}{o:Obj}{es:Array DictEntry}{ep:Nat},s₁.heap.get? b=some o->o.data=.dict es ep->H b=none:=fun {b o es ep} e d=>by
   cases q:H b with
   | none=>rfl
   | some u=>
    have e':b=a:=hA b (by rw[q]; simp)
    subst e'
    rw[ha] at e; cases e
    have d':Data.seq vs.toArray _=Data.dict es ep:=d
    cases d'
  have nsK:∀ {b:Addr}{m:Str->Option Value},s₁.heap.Ns b m->(hZ s₁.heap H).Ns b m:=fun {b m} ⟨o,es,ep,e,d,r⟩=>⟨o,es,ep,base_of e (noA e d),d,r⟩
  have hKb:K.In (hZ s₁.heap H):=fun b o e=>base_of (KX b o e) (by
   cases q:H b with
   | none=>rfl
   | some u=>
    have e':b=a:=hA b (by rw[q]; simp)
    subst e'
    rw[hK (by rw[q]; simp)] at e; cases e)
  have hM:Mod K mg (hZ s₁.heap H):=⟨hKb,nsK hns,⟨mb,nsK hb,hbb⟩,let ⟨mc,h1,h2⟩:=hlim; ⟨mc,nsK h1,h2⟩⟩
  have e0:Env0 P w K mg (hZ s₁.heap H) callerA [] s₁ H:=⟨U,hM,fun b o e=>nU e,Nat.le_of_eq (kC _ _),trivial,fun b hb=>absurd (show b ∈ ([]:List Addr) from hb) (by simp),hok,.of_eq hg⟩
  refine codeAny_mono ((F _ hKb (nsK hns)).run callerA [] s₁ H ⟨[.ref a],[]⟩ [.ref a] [.ref a] _ _ hr e0 (hbind s₁ (.ref a)) (.cons rfl .nil) (hsp H hO hS)) fun r s' h=>?_
  cases r with
  | error e=>exact(hCX H e s' h).elim
  | ok fl=>
   cases fl with
   | next=>exact False.elim h
   | brk=>exact False.elim h
   | cont=>exact False.elim h
   | ret u=>
    obtain⟨v,H',os,bare,un,hok',r',q⟩:=h
    have q':v=.bl true:=q
    subst q'
    obtain rfl:u=Value.bool true:=r'
    refine⟨U,OldK.of_keep fun b o e=>?_,os,bare⟩
    cases q:H b with
    | none=>exact un.keep b o e q (by intro z; exact absurd (show b ∈ ([]:List Addr) from z) (by simp)) (by simp)
    | some u=>
     rcases hO b with z | ⟨ob,xs,z⟩
     ·rw[q] at z; cases z
     ·have z2:=un.frzs b ob _ z
      obtain⟨e1,_⟩:=hok b _ z
      obtain⟨e2,_⟩:=hok' b _ z2
      rw[e] at e1; cases e1
      exact e2
 cases hk:K.lookup a with
 | some o=>
  have e:=KX a o hk
  rw[ha] at e
  cases e
  refine core (fun _=>none) (fun _=>.inl rfl) (.inr ⟨_,vs.toArray,_,hk,U,U,U,by rw[t0,lenV]; exact hl,by simpa using rv⟩) (fun b u z=>by have z':(none:Option HO)=some u:=z; cases z') (fun b z=>absurd rfl z) fun z=>absurd rfl z
 | none=>
  refine core (fun b=>if b=a then some (.frz { cls:=.type "list",data:=.seq vs.toArray } (.lst (ns.map V.int))) else none) (fun b=>?_) (.inl (.inr ⟨{ cls:=.type "list",data:=.seq vs.toArray },if_pos rfl⟩)) (fun b u z=>?_) (fun b z=>?_) fun _=>hk
  ·by_cases hb:b=a
   ·exact .inr ⟨_,_,if_pos hb⟩
   ·exact .inl (if_neg hb)
  ·by_cases hb:b=a
   ·have z':=(if_pos hb).symm.trans z
    cases z'
    subst hb
    exact⟨ha,by rw[tP]; exact hl,vs,_,rv,ha⟩
   ·have z':=(if_neg hb).symm.trans z
    cases z'
  ·by_cases hb:b=a
   ·exact hb
   ·exact absurd (if_neg hb) z
noncomputable abbrev KOf {K:PySem.W.Frag}{h:Heap} (_:K.In h):PySem.W.Frag:=K
variable{XP:(Str->Option Value)->Heap->Prop}
theorem nD {l:PySem.W.OpenLaw}{n k:Nat}{q:Program}{loose:List Str}{YP:World->Heap->Prop}{d:DefRec}{K:Params->PySem.W.Frag}{CX:World->CXT}{sp:World->Sp}{x:Str}
  (hn:l.most=some n) (hn2:n<=sizeLine) (hdf:d.params.defaults=[]) (hr:Room k callerA)
  (hY:∀ (w:World) (h:Heap),YP w h->(K w.params).In h)
  (F:∀ (w:World) (mg:Str->Option Value) (fa:Addr) (h:Heap),(K w.params).In h->h.Ns mainGlobals mg->mg d.name=some (.ref fa) ->
   ∃ fd:FuncData,(∀ (s:Shared) (u:Value),BindsTo s fd ⟨[u],[]⟩ [(x,u)]) /\
    ∀ base:Heap,(K w.params).In base->base.Ns mainGlobals mg->FnOk l.prog w (K w.params) mg base (CX w) k fa fd [x] (sp w))
  (hsp:∀ (w:World) (H:Hp) (a:Addr) (ns:List Int),ns.length<=n->oF H->SqL (K w.params) H a (ns.map V.int)->sp w [.ref a] H (fun v _=>v=.bl true) fun _ _ _=>False)
  (hCX:∀ (w:World) (H:Hp) (s:Shared) (e:Value) (s':Shared),CX w [] H s (fun _ _ _=>False) e s'->False) :
  PySem.W.WalkO q loose XP YP l.row.toRowW d [] (fun f vs=>PySem.call f vs):=by
 refine Att.attach_call hn hdf fun w s₀ s₁ mg mb fa o pm cd doc a vs ns G Y ho hd hcd hmg hobj hints hlen hg=>?_
 have KX:=hY w _ Y
 obtain⟨fd,hb,hF⟩:=F w mg fa _ KX G.T.g hmg
 exact mK KX G.T.g G.T.b G.T.builtins G.T.nolimit hg hobj hints (Nat.le_trans hlen hn2) hr hF hb (fun H hO hS=>hsp w H a ns hlen hO hS) fun H e s'=>hCX w H s₁ e s'
theorem walk_ofK {l:PySem.W.OpenLaw}{n k:Nat}{q:Program}{loose:List Str}{YP:World->Heap->Prop}{d:DefRec}{K:Params->PySem.W.Frag}{CX:CXT}{sp:PySem.W.Frag->Sp}{x:Str}
  (hn:l.most=some n) (hn2:n<=sizeLine) (hdf:d.params.defaults=[]) (hr:Room k callerA)
  (hY:∀ (w:World) (h:Heap),YP w h->(K w.params).In h)
  (F:∀ (w:World) (mg:Str->Option Value) (fa:Addr) (h:Heap),(K w.params).In h->h.Ns mainGlobals mg->mg d.name=some (.ref fa) ->
   ∃ fd:FuncData,(∀ (s:Shared) (u:Value),BindsTo s fd ⟨[u],[]⟩ [(x,u)]) /\
    ∀ base:Heap,(K w.params).In base->base.Ns mainGlobals mg->FnOk l.prog w (K w.params) mg base CX k fa fd [x] (sp (K w.params)))
  (hsp:∀ (K:PySem.W.Frag) (H:Hp) (a:Addr) (ns:List Int),ns.length<=n->oF H->SqL K H a (ns.map V.int)->sp K [.ref a] H (fun v _=>v=.bl true) fun _ _ _=>False)
  (hCX:∀ (H:Hp) (s:Shared) (e:Value) (s':Shared),CX [] H s (fun _ _ _=>False) e s'->False) :
  PySem.W.WalkO q loose XP YP l.row.toRowW d [] (fun f vs=>PySem.call f vs) :=
 nD (K:=K) (CX:=fun _=>CX) (sp:=fun w=>sp (K w.params)) hn hn2 hdf hr hY F (fun w H a ns h1 h2 h3=>hsp (K w.params) H a ns h1 h2 h3) fun _ H s e s'=>hCX H s e s'
noncomputable def aO (s:Stmt) (j:Nat):Stmt:=match s with
 | .ClassDef _ _ _ body _ _ _ _ _ _ _=>body.getD j (.Pass ⟨0,0,0,0⟩)
 | _=>.Pass ⟨0,0,0,0⟩
noncomputable def bI (s:Stmt):Arguments:=match s with
 | .FunctionDef _ a _ _ _ _ _ _ _ _=>a
 | _=>{ posonlyargs:=[],args:=[],vararg:=none,kwonlyargs:=[],kw_defaults:=[],kwarg:=none,defaults:=[] }
noncomputable def bC (s:Stmt):List Stmt:=match s with
 | .FunctionDef _ _ b _ _ _ _ _ _ _=>b
 | _=>[]
noncomputable def aj (s:Stmt):Scope:=match s with
 | .FunctionDef _ _ _ _ _ _ sc _ _ _=>sc
 | _=>{ kind:=.function,names:=[],isGenerator:=false,isCoroutine:=false }
noncomputable abbrev CX0:CXT:=fun _ _ _ _ _ _=>False
noncomputable abbrev E0:XK:=fun _ _ _=>False
theorem aF {X:Cx}:cv CX0 X E0:=fun _ _ _ _ _ _ _ h=>h.elim
theorem pcl {X:Cx}{k n:Nat}{f:Addr}{fd:FuncData}{ps:List Str}{sp:Sp}{x:Str}{p pos:Pos}{e:Expr}{es:List Expr}{t:TA} (F:FnOk X.prog X.w X.K X.mg X.base CX0 k f fd ps sp) (hr:Room n X.A) (hm:X.mg x=some (.ref f)) (hk:PySem.W.keepIn X.K (.ref f)=true) (hb:Binds X.K fd ps []) (ha:PA X (e::es) t) (hg:Gl X x:=by rfl) (hj:k<=n:=by decide) (hdb:(x==("__debug__":Str))=false:=by decide) (he:starEach (e::es) X.env=(false,eval e X.env)::starEach es X.env:=by rfl) (hpl:(backTo pos (starEach es X.env)).any (·.1)=false:=by rfl):PE X (.Call (.Name x p) (e::es) [] pos) (oO sp [] E0 t):=nQ F (hr.mono hj) hg hm hk hb .nil aF ha hdb he hpl
structure Fun (K:PySem.W.Frag) (x qual:Str) (st:Stmt) (f:Addr) (fd:FuncData):Prop where
 ex:∃ (oc:Value) (od:Option Addr) (kV doc pm:Value) (an:Option Addr) (cdv ct:Value) (osl:Array (Option Value)),
  fd=W.fnOf x qual (bI st) (bC st) (aj st) .none kV doc pm an cdv ct/\K.lookup f=some ⟨oc,od,.func fd,osl⟩/\W.codeIn K cdv qual=true
 kp:W.keepIn K (.ref f)=true
theorem cS {A:Around}{k:Nat} (hr:Room k A):A.units+1<cLine:=Nat.lt_of_le_of_lt (Nat.add_le_add_left (by decide:1<=64) _) hr.units
section
variable {X:Cx}
theorem pv (i:Nat) {x:Str}{pos:Pos} (hN:X.N[i]?=some x:=by rfl) (hv:Vis X.env.scope x:=by first | exact Or.inl rfl | exact Or.inr (Or.inl rfl) | exact Or.inr (Or.inr rfl)) (hd:(x == ("__debug__" : Str))=false:=by decide)
  (hcd:(x == ("__classdict__" : Str))=false:=by decide):PE X (.Name x pos) (nE i):=qB hN hv hd hcd
end
theorem ce {A B:Prop} (h:B):if false=true then A else B:=by
 rw[if_neg Bool.false_ne_true]
 exact h
theorem dP {A B:Prop} (h:A):if true=true then A else B:=by
 rw[if_pos rfl]
 exact h
theorem iR {c A B:Prop} [Decidable c] (h1:c->A) (h2:¬ c->B):if c then A else B:=by
 by_cases h:c
 ·rw[if_pos h]
  exact h1 h
 ·rw[if_neg h]
  exact h2 h
noncomputable def Same (H H':Hp):Prop:=∀ b o,H b=some o->H' b=some o
theorem Same.trans {H H1 H2:Hp} (a:Same H H1) (b:Same H1 H2):Same H H2:=fun c o h=>b c o (a c o h)
theorem Same.seq {K:PySem.W.Frag}{H H':Hp}{a:Addr}{xs:List V} (e:Same H H') (h:SqL K H a xs):SqL K H' a xs:=by
 rcases h with (h | ⟨o,h⟩) | h
 ·exact .inl (.inl (e _ _ h))
 ·exact .inl (.inr ⟨o,e _ _ h⟩)
 ·exact .inr h
noncomputable abbrev Kn:=List (Addr×HO)
structure Has (H:Hp) (L:Kn):Prop where
 nd:(L.map (·.1)).Nodup
 at_:∀ x ∈ L,H x.1=some x.2
namespace Has
variable {H H':Hp}{L L' X Y R:Kn}{a p:Addr}{o o':HO}{x y:Addr×HO}
theorem nil:Has H []:=⟨List.nodup_nil,fun _ h=>nomatch h⟩
theorem get (h:Has H L) (i:Nat) (e:L[i]?=some (a,o)):H a=some o:=h.at_ (a,o) (tO e)
theorem alloc (h:Has H L) (hp:H p=none) (o:HO):Has (upd H p o) ((p,o)::L):=by
 have ne:∀ x ∈ L,x.1≠p:=fun x hx e=>by
  have:=h.at_ x hx
  rw[e,hp] at this; cases this
 refine⟨?_,fun x hx=>?_⟩
 ·rw[t5,List.nodup_cons]
  refine⟨fun m=>?_,h.nd⟩
  obtain⟨x,hx,e⟩:=uc.mp m
  exact ne x hx e
 ·rcases tX.mp hx with rfl | hx
  ·exact bF
  ·rw[aH (ne x hx)]; exact h.at_ x hx
theorem sub (h:Has H L) (s:L'.Sublist L):Has H L':=⟨h.nd.sublist (s.map _),fun x hx=>h.at_ x (s.subset hx)⟩
theorem perm (h:Has H L) (s:L.Perm L'):Has H L':=⟨(s.map _).nodup_iff.mp h.nd,fun x hx=>h.at_ x (s.mem_iff.mpr hx)⟩
theorem tail (h:Has H (x::L)):Has H L:=h.sub (List.sublist_cons_self _ _)
theorem swap2 (h:Has H (x::y::L)):Has H (y::x::L):=h.perm (List.Perm.swap _ _ _)
theorem comm (h:Has H (X++(Y++R))):Has H (Y++(X++R)):=h.perm (by rw[<- tR,<- tR]; exact List.perm_append_comm.append_right R)
theorem eG:∀ (L:Kn) (i:Nat),L[i]?=some (a,o)->(L.set i (a,o')).map (·.1)=L.map (·.1)
 | [],i,e=>by simp at e
 | x::L,0,e=>by simp at e; subst e; rfl
 | x::L,i+1,e=>by
  simp only[List.set_cons_succ,t5]
  rw[eG L i (by simpa using e)]
theorem puti (h:Has H L) (i:Nat) (e:L[i]?=some (a,o)) (o':HO):Has (upd H a o') (L.set i (a,o')):=by
 have hi:i<L.length:=(List.getElem?_eq_some_iff.mp e).1
 refine⟨by rw[eG (o':=o') L i e]; exact h.nd,fun x hx=>?_⟩
 obtain⟨j,hj⟩:=List.getElem?_of_mem hx
 by_cases hij:j=i
 ·subst hij
  rw[List.getElem?_set_self hi] at hj
  cases hj
  exact bF
 ·rw[List.getElem?_set_ne (Ne.symm hij)] at hj
  have hx':x ∈ L:=tO hj
  have:x.1≠a:=fun z=>by
   have e1:(L.map (·.1))[i]?=some a:=by rw[tS,e]; rfl
   have e2:(L.map (·.1))[j]?=some a:=by rw[tS,hj,<- z]; rfl
   obtain⟨l1,q1⟩:=List.getElem?_eq_some_iff.mp e1
   obtain⟨l2,q2⟩:=List.getElem?_eq_some_iff.mp e2
   exact hij ((List.getElem_inj h.nd).mp (q2.trans q1.symm))
  rw[aH this]
  exact h.at_ x hx'
end Has
section
variable {X:Cx}
theorem dX:c7 X (.builtin "isinstance") (fun xs H Q=>∃ x T t b,xs=[x,.ty T]/\TyOf X.K H x t/\PySem.W.kitOne X.K t (.type T)=some b/\Q (.bl b) H):=by
 intro pins s σ H xs us Q I r h
 obtain⟨x,T,t,b,rfl,ty,e,q⟩:=h
 obtain⟨u1,u2,rfl,r1,r2⟩:=jw r
 cases (show u2=Value.type T from r2)
 exact kt I r1 ty e fun tk=>⟨.bl b,H,I.tok _,U,q⟩
end
theorem SqL.alloc {K:PySem.W.Frag}{H:Hp}{a p:Addr}{xs:List V}{o:HO} (h:SqL K H a xs) (hp:H p=none):SqL K (upd H p o) a xs :=
 Same.seq (fun b u e=>by rw[aH (bo e hp)]; exact e) h
theorem dU (xs:List V) (n:Int) (h0:0<=n):bX xs none (some n)=xs.take n.toNat:=by
 show((xs.drop 0).take ((if n<0 then(n+(xs.length:Int)).toNat else min n.toNat xs.length) - 0))=_
 rw[if_neg (by omega),List.drop_zero,Nat.sub_zero]
 by_cases hl:n.toNat<=xs.length
 ·rw[Nat.min_eq_left hl]
 ·rw[Nat.min_eq_right (by omega),List.take_of_length_le (Nat.le_refl _),List.take_of_length_le (by omega)]
theorem sizeOk {n:Nat} (h:n<=1000000):n<sizeLine:=Nat.lt_of_le_of_lt h (by decide)
end L2
namespace L2
theorem ifF {b:Bool}{A B:Prop} (e:b=false) (h:B):if b=true then A else B:=by subst e; exact ce h
theorem ifT {b:Bool}{A B:Prop} (e:b=true) (h:A):if b=true then A else B:=by subst e; exact dP h
theorem if2 {b:Bool}{A B:Prop} (h1:b=true->A) (h2:b=false->B):if b=true then A else B:=by
 cases b
 ·exact ce (h2 rfl)
 ·exact dP (h1 rfl)
theorem ifd {c:Prop} [Decidable c] {A B:Prop} (h1:c->A) (h2:¬ c->B):if decide c=true then A else B:=by
 by_cases h:c
 ·exact ifT (decide_eq_true h) (h1 h)
 ·exact ifF (decide_eq_false h) (h2 h)
theorem sV {c:Prop} [Decidable c] {A B:Prop} (h1:¬ c->A) (h2:c->B):if (!decide c)=true then A else B:=by
 by_cases h:c
 ·exact ifF (by simp[h]) (h2 h)
 ·exact ifT (by simp[h]) (h1 h)
end L2
namespace L2
open PySem PySem.Spec PyProof.Rows
noncomputable def cX (cells : List (Str×Addr)) : List (Str×NameKind)->List (Str×Addr)->List (Str×Addr)
  | [], acc=>acc
  | (n, k) :: r, acc => if k == .free then cX cells r ((n, (cells.lookup n).getD 0) :: acc) else cX cells r acc
theorem fZ (scope : Scope) (env : Env) (h : ∀ y ∈ scope.names, y.2=.free->∃ c, env.cells.lookup y.1=some c) : closureFor scope env=pure (cX env.cells scope.names []) := by
  unfold closureFor
  have all : ∀ (l : List (Str×NameKind)) (acc : List (Str×Addr)), (∀ y ∈ l, y.2=.free->∃ c, env.cells.lookup y.1=some c) ->
      (forIn l acc fun x r=>match x with
        | (name, kind) => if (kind == .free) = true then do let a <- cellOf env name; pure (ForInStep.yield ((name, a) :: r)) else pure (ForInStep.yield r)) = (pure (cX env.cells l acc) : Sem _) := by
    intro l
    induction l with
    | nil=>intro acc _; rfl
    | cons y l ih=>
      obtain⟨n, k⟩ := y
      intro acc hl
      rw[List.forIn_cons]
      by_cases hk : (k == NameKind.free)=true
      · obtain⟨c, hc⟩ := hl (n, k) tM (by simpa using hk)
        have e : cellOf env n=pure c := by unfold cellOf; rw[hc]
        simp only[hk, if_true, e, pure_bind, cX, hc, Option.getD_some]
        exact ih _ fun y hy=>hl y (tK _ hy)
      · simp only[hk, if_false, pure_bind, cX]
        exact ih _ fun y hy=>hl y (tK _ hy)
  have := all scope.names [] h
  simp only[this, pure_bind]
theorem dW {cells : List (Str×Addr)}{x : Str}{c : Addr} : ∀ (l : List (Str×NameKind)) (acc : List (Str×Addr)), (∀ y ∈ l, y.2=.free->∃ c, cells.lookup y.1=some c) ->
    (∀ y d, acc.lookup y=some d->cells.lookup y=some d)->(cX cells l acc).lookup x=some c->cells.lookup x=some c
  | [], acc, _, ha, h=>ha x c h
  | (n, k) :: r, acc, hl, ha, h => by
    unfold cX at h
    split at h
    · rename_i hk
      obtain⟨d, hd⟩ := hl (n, k) tM (by simpa using hk)
      refine dW r _ (fun y hy=>hl y (tK _ hy)) (fun y e he=>?_) h
      rw[ud] at he
      split at he
      · rename_i hyn
        have : y=n := by simpa using hyn
        subst this
        cases he
        rw[hd]; rfl
      · exact ha y e he
    · exact dW r _ (fun y hy=>hl y (tK _ hy)) ha h
theorem f6 {cells : List (Str×Addr)}{x : Str} : ∀ (l : List (Str×NameKind)) (acc : List (Str×Addr)), (∃ c, acc.lookup x=some c)->∃ c, (cX cells l acc).lookup x=some c
  | [], acc, h=>h
  | (n, k) :: r, acc, h => by
    unfold cX
    split
    · refine f6 r _ ?_
      rw[ud]
      split
      · exact⟨_, rfl⟩
      · exact h
    · exact f6 r _ h
theorem cB {cells : List (Str×Addr)}{x : Str} : ∀ (l : List (Str×NameKind)) (acc : List (Str×Addr)), (x, NameKind.free) ∈ l->∃ c, (cX cells l acc).lookup x=some c
  | [], _, h=>nomatch h
  | (n, k) :: r, acc, h => by
    unfold cX
    rcases tX.mp h with e | h
    · cases e
      rw[if_pos (by rfl)]
      exact f6 r _ ⟨(cells.lookup x).getD 0, by rw[ud]; simp⟩
    · split
      · exact cB r _ h
      · exact cB r _ h
theorem bZ {env : Env}{x : Str} : ∀ (l : List (Str×NameKind)), (∀ y ∈ l, y.2≠.cell) ->
    ((l.map fun(n, k)=>if (k == NameKind.free && env.scope.kind == .function && env.kindOf n == some .cell) then(n, NameKind.cell) else(n, k)).lookup x=some .cell ∨
     (l.map fun(n, k)=>if (k == NameKind.free && env.scope.kind == .function && env.kindOf n == some .cell) then(n, NameKind.cell) else(n, k)).lookup x=some .free)->(x, NameKind.free) ∈ l
  | [], _, h=>by simp at h
  | (n, k) :: r, hl, h => by
    have ih := bZ (env := env) (x := x) r fun y hy=>hl y (tK _ hy)
    by_cases hc : (k == NameKind.free && env.scope.kind == .function && env.kindOf n == some .cell)=true
    · have hkf : k=.free := by
        rw[Bool.and_eq_true, Bool.and_eq_true] at hc
        simpa using hc.1.1
      subst hkf
      simp only[t5, hc, if_true, ud] at h
      cases hx : x == n with
      | true=>
        have : x=n := by simpa using hx
        subst this
        exact tM
      | false=>
        simp only[hx] at h
        exact tK _ (ih h)
    · simp only[t5, if_neg hc, ud] at h
      cases hx : x == n with
      | true=>
        have : x=n := by simpa using hx
        subst this
        simp only[hx] at h
        rcases h with h | h
        · cases h
          exact absurd rfl (hl (x, .cell) tM)
        · cases h
          exact tM
      | false=>
        simp only[hx] at h
        exact tK _ (ih h)
noncomputable def PTs (X:Cx) (ifs:List Expr) (t:TT):Prop :=
 ∀ (pins:List (Addr×Obj)) (s:Shared) (σ:St) (H:Hp) (Q:Bool->Hp->Prop),Inv X pins σ H s->t σ H Q ->
  wpAny (model X.prog X.w) X.A (forIn ifs true fun c r=>if r=true then do let ok <- isTrue c X.env (eval c X.env); pure (ForInStep.yield ok) else pure (ForInStep.yield r)) (TP X pins σ Q) X.xe s
noncomputable def oJ:TT:=fun _ H Q=>Q true H
theorem bA {X:Cx}:PTs X [] oJ:=fun _ _ _ H _ I h=>wpAny_tests_nil ⟨H,I,h⟩
variable{pos:Pos}
theorem eR {prog:Program}{w:World}{A:Around}{R:Result->Shared->Prop}{s:Shared}{elt target iter:Expr}{ifs:List Expr}{scope:Scope}{it acc:Value}{env:Env} (I:Nat->Shared->Prop)
  (turn:∀ n s,I n s->wpAny (model prog w) A (pyNext it) (fun r s₁=>match r with
   | none=>R (.ok .next) s₁
   | some v=>wpAny (model prog w) A (letOwnedTupleGo target it v) (fun _ s₀=>wpAny (model prog w) A (assign target env v) (fun _ s₂=>
     wpAny (model prog w) A (forIn ifs true fun c r=>if r=true then do let ok <- isTrue c env (eval c env); pure (ForInStep.yield ok) else pure (ForInStep.yield r)) (fun ok s₃=>
      if ok=true then wpAny (model prog w) A (eval elt env) (fun x s₄=>
       wpAny (model prog w) A (call (.builtin "list.append") [acc,x]) (fun _ s₅=>∃ m,m<n/\I m s₅) (fun _ _=>False) s₄) (fun _ _=>False) s₃
      else ∃ m,m<n/\I m s₃) (fun _ _=>False) s₂) (fun _ _=>False) s₀) (fun _ _=>False) s₁) (fun _ _=>False) s)
  (n:Nat) (h:I n s) :
  codeAny (model prog w) A (.compLoop (.ListComp elt [⟨target,iter,ifs,0⟩] scope pos) 0 it acc env) R s:=by
 have no:∀ {α:Type}{t:Sem α}{Q:α->Shared->Prop}{s:Shared}{E:Value->Shared->Prop},wpAny (model prog w) A t Q (fun _ _=>False) s->wpAny (model prog w) A t Q E s:=fun h=>wpAny_mono h (fun _ _ q=>q) fun _ _ z=>False.elim z
 refine codeAny_loop rfl I (fun n s hI=>?_) n h
 show wpAny _ A ((compTurn (.ListComp elt [⟨target,iter,ifs,0⟩] scope pos) 0 it acc env).onRaise (fun x=>do noteFrame x env; theTreesLotGoes x)) _ _ s
 refine wpAny_noted ?_
 rw[compTurn_list]
 refine wpAny_bind (wpAny_standAt (wpAny_bind (wpAny_mono (no (turn n s hI)) (fun r s₁ h₁=>?_) fun _ _ h'=>h')))
 cases r with
 | none=>exact wpAny_pure h₁
 | some v=>
  refine wpAny_bind (wpAny_mono (no h₁) (fun _ s₀ h₀=>?_) fun _ _ h'=>h')
  refine wpAny_bind (wpAny_mono (no h₀) (fun _ s₂ h₂=>wpAny_bind (wpAny_mono (no h₂) (fun ok s₃ h₃=>?_) fun _ _ h'=>h')) fun _ _ h'=>h')
  cases ok with
  | false=>exact wpAny_pure ⟨U,h₃⟩
  | true=>
   exact wpAny_bind (wpAny_bind (wpAny_mono (no h₃) (fun x s₄ h₄=>wpAny_bind (wpAny_mono (no h₄) (fun _ s₅ h₅=>wpAny_pure (wpAny_pure ⟨U,h₅⟩)) fun _ _ h'=>h')) fun _ _ h'=>h'))
noncomputable abbrev blk (X:Cx) (scope:Scope) (N':List Str) (C:Addr) (s₀:Shared) (H₀:Hp) (fp:List Addr) (pins:List (Addr×Obj)):Cx :=
 { X with N:=N',s₀:=s₀,H₀:=H₀,env:=compEnvC scope (cX X.env.cells scope.names []) C X.env,outer:=X.stack,stack:=X.stack,ex:=fp,fn:=fun _=>false,pn:=X.pn++pins,xe:=fun _ _=>False }
noncomputable def tLC (wi:TI) (k:Nat) (g:TG) (tc:TT) (te:TE):TE:=fun σ H Q=>wi σ H fun J H1=>∀ D,H1 D=none->∃ W:Nat->Nat->List V->Hp->Prop,(∃ m,W 0 m [] (upd H1 D (.lst [])))/\∀ i m ys H,W i m ys H->H D=some (.lst ys) /\
 ((J.stop i H/\Q (.ref D) H)∨(J.go i H/\∀ x H',J.yld i H x H'->g x (List.replicate k none++σ) H' fun σ2 H2=>σ2.drop k=σ/\tc σ2 H2 fun b H3=>
  if b=true then te σ2 H3 fun y H4=>ys.length<sizeLine/\H4 D=some (.lst ys)/\∃ m',m'<m/\W (i+1) m' (ys++[y]) (upd H4 D (.lst (ys++[y]))) else ∃ m',m'<m/\W (i+1) m' ys H3))
section
variable {X:Cx}
theorem dJ {elt tg iter:Expr}{ifs:List Expr}{scope:Scope}{wi:TI}{k:Nat}{g:TG}{tc:TT}{te:TE} (N':List Str) (hc:X.calm=true) (hi:PI X tg iter wi)
  (hg:∀ C s₀ H₀ fp pins,PG (blk X scope N' C s₀ H₀ fp pins) tg g) (ht:∀ C s₀ H₀ fp pins,PTs (blk X scope N' C s₀ H₀ fp pins) ifs tc) (he:∀ C s₀ H₀ fp pins,PE (blk X scope N' C s₀ H₀ fp pins) elt te)
  (hk:scope.kind=.function) (hcell:∀ y ∈ scope.names,y.2≠.cell) (hnames:∀ y ∈ scope.names,y.2=.local->scope.names.lookup y.1=some .local)
  {esc:Scope} (hsc:X.env.scope=esc) (hfr':∀ y ∈ scope.names,y.2=.free->esc.names.lookup y.1=some .cell∨esc.names.lookup y.1=some .free)
  (hlen:N'.length=k+X.N.length)
  (hN:∀ (i:Nat) (x:Str),N'[i+k]?=some x->(x,NameKind.free) ∈ scope.names->X.N[i]?=some x)
  (hN2:∀ x ∈ N'.drop k,scope.names.lookup x≠some .local)
  (hs:∀ x,foldedSetIterable iter X.env x=pure x:=by intro _; rfl) :
  PE X (.ListComp elt [⟨tg,iter,ifs,0⟩] scope pos) (tLC wi k g tc te):=by
 intro pins s σ H Q I h
 have hfr:∀ y ∈ scope.names,y.2=.free->X.env.kindOf y.1=some .cell∨X.env.kindOf y.1=some .free:=fun y hy hf=>by
  show X.env.scope.names.lookup y.1=_∨X.env.scope.names.lookup y.1=_
  rw[hsc]; exact hfr' y hy hf
 have hcells:∀ y ∈ scope.names,y.2=.free->∃ c,X.env.cells.lookup y.1=some c:=fun y hy hf=>I.ok.has y.1 (hfr y hy hf)
 have hclos:=fZ scope X.env hcells
 rw[eval_ListComp]
 refine wpAny_comprehension_free (use:=none) rfl hs hclos hk hnames (thn (hi pins s σ H _ I h) fun v s1 h1=>thn h1 fun itv s2 h2=>?_)
 obtain⟨it,fp,tn,J,H2,e,I2,T,st2,f2,R⟩:=h2
 subst e
 refine wpAny_newObj_type ?_
 have hD:H2 s2.heap.objs.size=none:=I2.hok.fresh (Nat.le_refl _)
 obtain⟨W,⟨m0,w0⟩,turn⟩:=R _ hD
 generalize eD:s2.heap.objs.size=D at *
 have I3:Inv X pins σ (upd H2 D (.lst [])) { s2 with heap:=s2.heap.push { cls:=.type "list",dict:=none,data:=.seq ([]:List Value).toArray } } :=
  I2.laid (a:=D) (o:=.lst []) (t':=s2.toks) (fun b u e=>Heap.get?_push_of_some _ e) (Nat.le_of_eq eD) ⟨Nat.zero_le _,[],0,.nil,by rw[<- eD]; exact Heap.get?_push_size _ rfl⟩
 generalize e3:({ s2 with heap:=s2.heap.push { cls:=.type "list",dict:=none,data:=.seq ([]:List Value).toArray } }:Shared)=s3 at *
 have st3:tn 0 s3.heap:=T.keep _ _ _ st2 fun b _ o e=>by rw[<- e3]; exact Heap.get?_push_of_some _ e
 have lt2:∀ b ∈ fp,b<s2.heap.objs.size:=fun b hb=>by
  obtain⟨o,e,_⟩:=T.obj _ _ st2 b hb
  exact Heap.lt_size e
 have neD:∀ b ∈ fp,b≠D:=fun b hb=>by
  have:=lt2 b hb
  rw[eD] at this
  exact Nat.ne_of_lt this
 have f3:∀ b ∈ fp,c6 X pins (upd H2 D (.lst [])) b:=fun b hb=>⟨by rw[aH (neD b hb)]; exact(f2 b hb).1,(f2 b hb).2⟩
 generalize upd H2 D (.lst [])=H3 at *
 refine wpAny_newFunctionEnv hcell (by intro y hy; simp at hy) (fun h₁ hns₁ hsb₁=>?_) hk
 try dsimp only at hns₁ hsb₁ ⊢
 have lt3:∀ b ∈ fp,b<s3.heap.objs.size:=fun b hb=>by
  obtain⟨o,e,_⟩:=T.obj _ _ st3 b hb
  exact Heap.lt_size e
 generalize eC:s3.heap.objs.size=C at *
 have kp:∀ b o,s3.heap.get? b=some o->h₁.get? b=some o:=fun b o e=>(hsb₁.2 b (by rw[<- eC]; exact Nat.ne_of_lt (Heap.lt_size e))).trans (Heap.get?_push_of_some _ e)
 have subC:∀ x c,(cX X.env.cells scope.names []).lookup x=some c->X.env.cells.lookup x=some c:=fun x c e=>dW scope.names [] hcells (fun y d z=>by simp at z) e
 have hCnone:H3 C=none:=I3.hok.fresh (Nat.le_of_eq eC)
 have ok':(blk X scope N' C s3 H3 fp pins).Ok:={
  mod:=I3.ok.mod
  kind:=hk
  glob:=I3.ok.glob
  blt:=I3.ok.blt
  above:=Nat.le_of_eq eC
  inj:=fun x y c a b=>I3.ok.inj x y c (subC x c a) (subC y c b)
  has:=fun x hx=>cB scope.names [] (bZ scope.names hcell hx)
  cab:=fun x c a _=>absurd a Bool.false_ne_true
  hd:=I3.ok.hd
  frames:=I3.ok.frames
  stk:=.inl rfl
  exf:=fun b hb=>⟨by have:=lt3 b hb; exact Nat.ne_of_lt this,fun x c e=>(f3 b hb).2.2.2.2.1 x c (subC x c e)⟩
  bs:=I3.bs
  bsz:=Nat.le_trans I3.ok.bsz I3.sz
  noex:=fun b o e hb=>by
   rcases (f3 b hb).2.2.2.1 with z | z
   ·exact I3.ok.noex b o e z
   ·exact absurd (Nat.lt_of_lt_of_le (Heap.lt_size e) (Nat.le_trans I3.ok.bsz z)) (Nat.lt_irrefl _)
  exfs:=fun b hb z=>by
   rcases tX.mp (I3.stkSub b z) with e | e
   ·exact(f3 b hb).2.1 e
   ·exact(f3 b hb).2.2.1 e
  funs:=I3.stack
  frf:=I3.stkFree }
 have s4os:({ s3 with heap:=h₁,toks:=s3.toks+([]:List (Str×Value)).length }:Shared).os=s3.os:=rfl
 generalize e4:({ s3 with heap:=h₁,toks:=s3.toks+([]:List (Str×Value)).length }:Shared)=s4 at *
 have h4:s4.heap=h₁:=by rw[<- e4]
 have J4:Inv (blk X scope N' C s3 H3 fp pins) [] (List.replicate k none++σ) H3 s4:=by
  refine⟨ok',s4os,by rw[<- e4]; exact I3.bare,?_,⟨_,by rw[h4]; exact hns₁,fun i x v e1 e2 e5=>?_⟩,fun x c e=>?_,hCnone,fun x c e=>I3.freeC x c (subC x c e),fun p hp=>?_,?_,?_⟩
  ·rw[h4]; exact Un.kept kp
  ·have hik:¬ i<k:=fun hlt=>by
    rw[t9 (by rw[tZ]; exact hlt),List.getElem?_replicate] at e2
    split at e2 <;> cases e2
   obtain⟨j,rfl⟩:∃ j,i=j+k:=⟨i - k,by omega⟩
   have e2':σ[j]?=some (some v):=by
    rw[t8 (by rw[tZ]; omega),tZ] at e2
    have:j+k - k=j:=by omega
    rw[this] at e2; exact e2
   have nl:(relabel scope X.env).names.lookup x≠some .local:=fun z=>by
    have q:∀ (l:List (Str×NameKind)),(l.map fun(n,k)=>if (k == NameKind.free && X.env.scope.kind == .function && X.env.kindOf n == some .cell) then(n,NameKind.cell) else(n,k)).lookup x=some .local->l.lookup x=some .local:=by
     intro l
     induction l with
     | nil=>intro z; simp at z
     | cons y l ih=>
      obtain⟨n,kk⟩:=y
      intro z
      by_cases hcc:(kk == NameKind.free && X.env.scope.kind == .function && X.env.kindOf n == some .cell)=true
      ·simp only[t5,if_pos hcc,ud] at z ⊢
       cases hx:x == n with
       | true=>simp only[hx] at z; cases z
       | false=>simp only[hx] at z ⊢; exact ih z
      ·simp only[t5,if_neg hcc,ud] at z ⊢
       cases hx:x == n with
       | true=>simp only[hx] at z ⊢; exact z
       | false=>simp only[hx] at z ⊢; exact ih z
    exact hN2 x (tO (i:=j) (by rw[List.getElem?_drop,Nat.add_comm]; exact e1)) (q _ z)
   have hcf:(relabel scope X.env).names.lookup x=some .cell∨(relabel scope X.env).names.lookup x=some .free:=by
    rcases e5 with z | z | z
    ·exact absurd z nl
    ·exact .inl z
    ·exact .inr z
   have hmem:(x,NameKind.free) ∈ scope.names:=bZ scope.names hcell hcf
   have hx:=hN j x e1 hmem
   obtain⟨mo,_,hl⟩:=I3.loc
   have hkx:=hfr (x,.free) hmem rfl
   obtain⟨u,ru,lk⟩:=hl j x v hx e2' (by
    rcases hkx with z | z
    ·exact .inr (.inl z)
    ·exact .inr (.inr z))
   refine⟨u,ru,.inr ⟨hcf,?_⟩⟩
   rcases lk with ⟨z,_⟩ | ⟨_,c,hc1,hc2⟩
   ·rcases hkx with q | q
    ·rw[q] at z; cases z
    ·rw[q] at z; cases z
   ·obtain⟨c',hc'⟩:=cB (cells:=X.env.cells) scope.names [] hmem
    have:=subC x c' hc'
    rw[hc1] at this; cases this
    obtain⟨oc,h5,h6⟩:=hc2
    exact⟨c,hc',oc,by rw[h4]; exact kp _ _ h5,h6⟩
  ·obtain⟨v,oc,h5,h6⟩:=I3.cell x c (subC x c e)
   exact⟨v,oc,by rw[h4]; exact kp _ _ h5,h6⟩
  ·have hp':p ∈ X.pn++pins:=by simpa using hp
   obtain⟨a1,a2,a3,a4,a5⟩:=I3.pin p hp'
   refine⟨by rw[h4]; exact kp _ _ a1,a2,?_,fun z=>?_,a5⟩
   ·have:=Heap.lt_size a1
    rw[eC] at this
    exact Nat.ne_of_lt this
   ·rcases tX.mp (I3.stkSub p.1 z) with q | q
    ·exact a3 q
    ·exact a4 q
  ·rw[h4]; exact I3.hok.kept kp
  ·rw[tW,tZ,I3.len]; exact hlen.symm
 have stat:∀ {H':Hp},(∀ b ∈ fp,H' b=none)->∀ b ∈ fp,c6 (blk X scope N' C s3 H3 fp pins) [] H' b:=fun hn b hb=>
  ⟨hn b hb,(ok'.exf b hb).1,ok'.exfs b hb,.inl hb,fun x c e=>(ok'.exf b hb).2 x c e,fun p hp=>(f3 b hb).2.2.2.2.2 p (by simpa using hp)⟩
 have fr4:∀ b ∈ fp,H3 b=none:=fun b hb=>(f3 b hb).1
 have st4:tn 0 s4.heap:=T.keep _ _ _ st3 fun b _ o e=>by rw[h4]; exact kp _ _ e
 have loop:codeAny (model X.prog X.w) X.A (.compLoop (.ListComp elt [⟨tg,iter,ifs,0⟩] scope pos) 0 (.ref it) (.ref D) (compEnvC scope (cX X.env.cells scope.names []) C X.env))
   (compPost (model X.prog X.w) X.A X.xe none (EP X pins σ Q) (.ref D) C) s4:=by
  refine eR (fun n s'=>∃ i ys H',Inv (blk X scope N' C s3 H3 fp pins) [] (List.replicate k none++σ) H' s'/\tn i s'.heap/\(∀ b ∈ fp,H' b=none)/\W i n ys H') ?_ m0 ⟨0,[],H3,J4,st4,fr4,w0⟩
  rintro n s5 ⟨i,ys,H5,I5,st5,fr5,w5⟩
  obtain⟨hDl,stp⟩:=turn i n ys H5 w5
  rcases stp with ⟨stop,qn⟩ | ⟨go,step⟩
  ·refine thn (T.done (blk X scope N' C s3 H3 fp pins) rfl rfl rfl hc i [] s5 _ H5 (fun _ _=>False) I5 (stat fr5) st5 stop) fun r s6 ⟨hr,I6⟩=>?_
   subst hr
   obtain⟨m6,ns6,_⟩:=id I6.loc
   refine⟨m6,ns6,fun h' hsb=>⟨.ref D,H5,?_,U,qn⟩⟩
   have hC5:H5 C=none:=I6.free
   have un6:Un (frs X.stack) fp H3 H5 s3.heap s6.heap:=I6.base
   have neC:∀ b o,s3.heap.get? b=some o->b≠C:=fun b o e=>by
    have:=Heap.lt_size e
    rw[eC] at this
    exact Nat.ne_of_lt this
   refine I3.call' (s':={ s6 with heap:=h' }) (ch:=fp) I6.os ⟨fun b o e a1 a2 a3=>?_,fun b o e a1 a2 a3=>?_,un6.free,fun b o e a3=>?_,un6.tups,un6.frzs,un6.tbls⟩ ?_ I6.bare (fun b hb=>?_)
   ·exact(hsb.2 b (neC b o e)).trans (un6.keep b o e a1 a2 a3)
   ·obtain⟨sl,z⟩:=un6.slot b o e a1 a2 a3
    exact⟨sl,(hsb.2 b (neC b o e)).trans z⟩
   ·obtain⟨o',z⟩:=un6.there b o e a3
    exact⟨o',(hsb.2 b (neC b o e)).trans z⟩
   ·intro b u e
    refine(I6.hok b u e).stay (fun c w' hcc q=>(hsb.2 c ?_).trans q) (fun _ q=>q) fun _ _ q=>q
    rintro rfl
    rcases hcc with z | z
    ·rw[z,e] at hC5; cases hC5
    ·rw[z] at hC5; cases hC5
   ·exact⟨(f3 b hb).2.2.2.1,(f3 b hb).2.1,(f3 b hb).2.2.2.2.1,(f3 b hb).2.2.2.2.2⟩
  ·refine thn (T.item (blk X scope N' C s3 H3 fp pins) rfl rfl rfl hc i [] s5 _ H5 (fun _ _=>False) I5 (stat fr5) st5 go) fun r s6 ⟨u,hr,h6⟩=>?_
   subst hr
   refine thn h6 fun _ s7 ⟨x,H7,I7,r7,y7,st7,fr7⟩=>?_
   have I7':=I7.pinned (stat fr7) (T.obj _ _ st7)
   refine thn (hg C s3 H3 fp pins _ s7 _ H7 x u _ I7' r7 (step x H7 y7)) fun _ s8 ⟨σ8,H8,I8,d8,q8⟩=>?_
   refine thn (ht C s3 H3 fp pins _ s8 σ8 H8 _ I8 q8) fun b s9 ⟨H9,I9,q9⟩=>?_
   have kz:∀ (j:Nat) v,(List.replicate k none++σ)[j]?=some (some v)->σ8[j]?=some (some v):=fun j v e=>by
    have hik:¬ j<k:=fun hlt=>by
     rw[t9 (by rw[tZ]; exact hlt),List.getElem?_replicate] at e
     split at e <;> cases e
    rw[t8 (by rw[tZ]; omega),tZ,<- d8,List.getElem?_drop] at e
    have:k+(j - k)=j:=by omega
    rw[this] at e; exact e
   have again:∀ {Hz:Hp}{sz:Shared}{zs:List V}{m':Nat},Inv (blk X scope N' C s3 H3 fp pins) ([]++d6 fp s7.heap) σ8 Hz sz->m'<n->W (i+1) m' zs Hz ->
     ∃ m,m<n/\∃ i ys H',Inv (blk X scope N' C s3 H3 fp pins) [] (List.replicate k none++σ) H' sz/\tn i sz.heap/\(∀ b ∈ fp,H' b=none)/\W i m ys H':=fun {Hz sz zs m'} Iz hm wz=>by
    refine⟨m',hm,i+1,zs,Hz,(Iz.unpinned).weak ?_ kz,T.keep _ _ _ st7 fun b hb o e=>(Iz.pin (b,o) (tL _ (tL _ (bD hb e)))).1,fun b hb=>?_,wz⟩
    ·rw[Iz.len]; exact I5.len
    ·obtain⟨o,e,d⟩:=T.obj _ _ st7 b hb
     exact(Iz.pin (b,o) (tL _ (tL _ (bD hb e)))).2.1
   cases b with
   | false=>
    obtain⟨m',hm,w9⟩:=(show ∃ m',m'<n/\W (i+1) m' ys H9 by simpa using q9)
    rw[if_neg Bool.false_ne_true]
    exact again I9 hm w9
   | true=>
    rw[if_pos rfl] at q9 ⊢
    refine thn (he C s3 H3 fp pins _ s9 σ8 H9 _ I9 q9) fun u9 s10 ⟨y,H10,I10,r10,hz,hD10,m',hm,w10⟩=>?_
    refine thn (aU (X:=blk X scope N' C s3 H3 fp pins) _ s10 σ8 H10 (.ref D) [y] (.ref D) [u9] (fun _ H'=>H'=upd H10 D (.lst (ys++[y]))) I10 rfl (.cons r10 .nil) ⟨D,ys,y,U,U,hD10,hz,U⟩) fun _ s11 ⟨_,H11,I11,_,e11⟩=>?_
    subst e11
    exact again I11 hm w10
 exact codeAny_compStart_list loop (T.self _ 0 _ _ _ st4 loop)
end
section
variable {X:Cx}{pins:List (Addr×Obj)}{σ:St}{H:Hp}{s:Shared}{h':Heap}
theorem Inv.turnedL {t':Nat}{fp:List Addr} (I:Inv X pins σ H s) (k:∀ b o,b ∉ fp->s.heap.get? b=some o->h'.get? b=some o) (hf:∀ b ∈ fp,c6 X pins H b):Inv X pins σ H { s with heap:=h',toks:=t' }:=by
 have nit:∀ b u,H b=some u->b ∉ fp:=fun b u e z=>by rw[(hf b z).1] at e; cases e
 refine I.step (g':=s.gens) (d':=s.drawn) (ch:=fp) (fun b hb=>⟨(hf b hb).2.2.2.1,(hf b hb).2.1,(hf b hb).2.2.2.2.1,(hf b hb).2.2.2.2.2⟩) (fun b o _ _ hc e _=>k b o hc e) (fun b o _ _ hc e _=>⟨o.slots,k b o hc e⟩) (fun _ _ _ _ n=>n)
  (fun b o hc e=>⟨o,k b o hc e⟩) (fun _ _ e=>e) (fun _ _ _ e=>e) (fun b ps e=>⟨#[],by rw[e]; simp⟩) (fun m hm=>?_) (fun b u e=>?_) I.bare
 ·obtain⟨o,es,ep,ho,r⟩:=hm
  exact⟨o,es,ep,k _ o (fun z=>(hf _ z).2.1 rfl) ho,r⟩
 ·refine(I.hok b u e).stay (fun c v hc q=>k c v ?_ q) (fun _ q=>q) fun _ _ q=>q
  rcases hc with z | z
  ·rw[z]; exact nit b u e
  ·exact nit c _ z
theorem Inv.track {p:Addr}{o:HO} (I:Inv X pins σ H s) (hp:X.s₀.heap.objs.size<=p) (hL:p≠X.env.locals) (hc:∀ x c,X.env.cells.lookup x=some c->c≠p) (hpin:∀ q ∈ X.pn++pins,q.1≠p) (hn:H p=none)
  (new:ObjOk X.prog X.w (upd H p o) s.heap p o):Inv X pins σ (upd H p o) s:=by
 refine⟨I.ok,I.os,I.bare,⟨I.base.keep,I.base.slot,fun b ob e n hx=>?_,I.base.there,fun b xs e=>?_,fun b ob u e=>?_,fun b ps e=>?_⟩,I.loc,I.cell,by rw[aH (Ne.symm hL)]; exact I.free,fun x c e=>by rw[aH (hc x c e)]; exact I.freeC x c e,fun q hq=>?_,fun b u e=>?_,I.len⟩
 ·rw[aH (Nat.ne_of_lt (Nat.lt_of_lt_of_le (Heap.lt_size e) hp))]; exact I.base.free b ob e n hx
 ·have:=I.base.tups b xs e
  rw[aH (bo this hn)]; exact this
 ·have:=I.base.frzs b ob u e
  rw[aH (bo this hn)]; exact this
 ·obtain⟨more,e2⟩:=I.base.tbls b ps e
  exact⟨more,by rw[aH (bo e2 hn)]; exact e2⟩
 ·obtain⟨a1,a2,a3,a4,a5⟩:=I.pin q hq
  exact⟨a1,by rw[aH (hpin q hq)]; exact a2,a3,a4,a5⟩
 ·by_cases hb:b=p
  ·subst hb; rw[bF] at e; cases e; exact new
  ·rw[aH hb] at e
   exact(I.hok b u e).stay (fun _ _ _ q=>q) (fun c q=>by rw[aH (bo q hn)]; exact q) fun c xs q=>by rw[aH (bo q hn)]; exact q
end
noncomputable def Itz (K:PySem.W.Frag) (a b:Addr):It :=
 ⟨fun i H=>∃ xs x ys y,SqL K H a xs/\xs[i]?=some x/\SqL K H b ys/\ys[i]?=some y,
  fun i H v H'=>∃ p x y,v=.ref p/\H p=none/\H'=upd H p (.tup [x,y])/\(∀ xs,SqL K H a xs->xs[i]?=some x)/\∀ ys,SqL K H b ys->ys[i]?=some y,
  fun i H=>∃ xs ys,SqL K H a xs/\SqL K H b ys/\(xs.length<=i∨ys.length<=i)⟩
variable{es:List Expr}
theorem kX {P:Program}{w:World}{K:PySem.W.Frag} {x1} (a b z TI TO i1 i2:Addr):Turn P w K (.Tuple es x1 pos) (Itz K a b) [z,TI,TO,i1,i2] z
  (fun i h=>IsZip h z TI TO .none/\IsPair h TI (.ref i1) (.ref i2)/\(∃ u v,IsPair h TO u v)/\h.IsListIter i1 a i/\h.IsListIter i2 b i/\TI≠TO/\i1≠i2) where
 mem:=by simp
 obj:=fun i h ⟨hz,hTI,⟨u,v,hTO⟩,h1,h2,_⟩ c hc=>by
  simp only[tX,ua,or_false] at hc
  rcases hc with rfl | rfl | rfl | rfl | rfl
  ·exact⟨_,hz,fun v q=>by cases (show Data.fields _=Data.cell v from q)⟩
  ·exact⟨_,hTI,fun v q=>by cases (show Data.seq _ _=Data.cell v from q)⟩
  ·exact⟨_,hTO,fun v q=>by cases (show Data.seq _ _=Data.cell v from q)⟩
  ·obtain⟨o,e,_,d⟩:=h1
   exact⟨o,e,fun v q=>by rw[d] at q; cases q⟩
  ·obtain⟨o,e,_,d⟩:=h2
   exact⟨o,e,fun v q=>by rw[d] at q; cases q⟩
 keep:=fun i h h' ⟨hz,hTI,⟨u,v,hTO⟩,h1,h2,n1,n2⟩ k=>⟨k z (by simp) _ hz,k TI (by simp) _ hTI,⟨u,v,k TO (by simp) _ hTO⟩,h1.at fun o e=>k i1 (by simp) o e,h2.at fun o e=>k i2 (by simp) o e,n1,n2⟩
 item:=by
  intro X hP hw hK hc i pins s σ H E I hf ⟨hz,hTI,⟨u,v,hTO⟩,h1,h2,n1,n2⟩ hg
  subst hP hw hK
  obtain⟨xs,x,ys,y,hqa,hx,hqb,hy⟩:=hg
  obtain⟨its,rv,p,hsz⟩:=I.list hqa
  obtain⟨jts,rw',p',hsz'⟩:=I.list hqb
  obtain⟨ux,hux,rux⟩:=rv.get hx
  obtain⟨uy,huy,ruy⟩:=rw'.get hy
  have D:ZipApart z TI TO i1 i2 a b:=by
   obtain⟨oa,ea,ca,_,_⟩:=p.isList
   obtain⟨ob,eb,cb,_,_⟩:=p'.isList
   obtain⟨o1,e1,c1,_⟩:=h1
   obtain⟨o2,e2,c2,_⟩:=h2
   have dz:∀ {c:Addr}{o:Obj}{T:String},s.heap.get? c=some o->o.cls=.type T->T ≠ "zip" -> c≠z:=fun e q n r=>by
    rw[r,hz] at e; cases e; cases q; exact n rfl
   have dT:∀ {c d:Addr}{o q:Obj}{T U:String},s.heap.get? c=some o->o.cls=.type T->s.heap.get? d=some q->q.cls=.type U->T≠U->c≠d:=fun e1 c1 e2 c2 n r=>by
    subst r; rw[e1] at e2; cases e2; rw[c1] at c2; cases c2; exact n rfl
   exact⟨dz hTI rfl (by decide),dz hTO rfl (by decide),dz e1 c1 (by decide),dz e2 c2 (by decide),n1,dT hTI rfl e1 c1 (by decide),dT hTI rfl e2 c2 (by decide),dT hTO rfl e1 c1 (by decide),dT hTO rfl e2 c2 (by decide),n2,
    dz ea ca (by decide),dT ea ca hTO rfl (by decide),dT ea ca e1 c1 (by decide),dT ea ca e2 c2 (by decide),dz eb cb (by decide),dT eb cb hTO rfl (by decide),dT eb cb e1 c1 (by decide),dT eb cb e2 c2 (by decide)⟩
  refine wpAny_pyNext_zip_item D hz hTI hTO h1 h2 p.isList p'.isList (x:=ux) (y:=uy) (by simpa using hux) (by simpa using huy) fun h' a1 a2 a3 a4 a5 a6 hk=>?_
  refine⟨_,O,?_⟩
  refine wpAny_letOwnedTupleGo_zip (s:={ s with heap:=h' }) a1 fun h2' hz' hs'=>?_
  have lt:∀ b ∈ [z,TI,TO,i1,i2],b<s.heap.objs.size:=fun c hcm=>by
   simp only[tX,ua,or_false] at hcm
   rcases hcm with rfl | rfl | rfl | rfl | rfl
   ·exact Heap.lt_size hz
   ·exact Heap.lt_size hTI
   ·exact Heap.lt_size hTO
   ·obtain⟨o,e,_⟩:=h1; exact Heap.lt_size e
   ·obtain⟨o,e,_⟩:=h2; exact Heap.lt_size e
  have hTI2:IsPair h2' TI (.ref i1) (.ref i2):=hs'.extBut _ _ D.TIz (hk _ _ D.TIz D.TITO D.TIi1 D.TIi2 hTI)
  have hTO2:IsPair h2' TO ux uy:=hs'.extBut _ _ D.TOz a2
  have h12:h2'.IsListIter i1 a (i+1):=a3.extBut hs'.extBut D.i1z
  have h22:h2'.IsListIter i2 b (i+1):=a4.extBut hs'.extBut D.i2z
  have pz:s.heap.objs.size≠z:=Nat.ne_of_gt (Heap.lt_size hz)
  have hp2:IsPair h2' s.heap.objs.size ux uy:=hs'.extBut _ _ pz a5
  have kk:∀ c o,c ∉ [z,TI,TO,i1,i2]->s.heap.get? c=some o->h2'.get? c=some o:=fun c o hcm e=>by
   simp only[tX,ua,or_false,not_or] at hcm
   exact hs'.extBut _ _ hcm.1 (hk c o hcm.1 hcm.2.2.1 hcm.2.2.2.1 hcm.2.2.2.2 e)
  have I1:Inv X pins σ H { s with heap:=h2',toks:=s.toks }:=I.turnedL kk hf
  have fP:c6 X pins H s.heap.objs.size:=I.fpOk (Nat.le_refl _) (I.hok.fresh (Nat.le_refl _))
  have I2:Inv X pins σ (upd H s.heap.objs.size (.tup [x,y])) { s with heap:=h2',toks:=s.toks }:=by
   refine I1.track I.sz (fP.2.1) fP.2.2.2.2.1 fP.2.2.2.2.2 fP.1 ?_
   exact⟨(show 2<=sizeLine by decide),[ux,uy],.cons rux (.cons ruy .nil),⟨_,hp2,O,_,O⟩⟩
  refine⟨.ref s.heap.objs.size,_,I2,O,⟨_,x,y,O,fP.1,O,fun zs hzs=>by rw[I.list_inj hzs hqa]; exact hx,fun zs hzs=>by rw[I.list_inj hzs hqb]; exact hy⟩,⟨hz',hTI2,⟨_,_,hTO2⟩,h12,h22,n1,n2⟩,fun c hcm=>?_⟩
  rw[aH (Nat.ne_of_lt (lt c hcm))]
  exact(hf c hcm).1
 done:=by
  intro X hP hw hK hc i pins s σ H E I hf ⟨hz,hTI,⟨u,v,hTO⟩,h1,h2,n1,n2⟩ hg
  subst hP hw hK
  obtain⟨xs,ys,hqa,hqb,hend⟩:=hg
  obtain⟨its,rv,p,hsz⟩:=I.list hqa
  obtain⟨jts,rw',p',hsz'⟩:=I.list hqb
  have D:ZipApart z TI TO i1 i2 a b:=by
   obtain⟨oa,ea,ca,_,_⟩:=p.isList
   obtain⟨ob,eb,cb,_,_⟩:=p'.isList
   obtain⟨o1,e1,c1,_⟩:=h1
   obtain⟨o2,e2,c2,_⟩:=h2
   have dz:∀ {c:Addr}{o:Obj}{T:String},s.heap.get? c=some o->o.cls=.type T->T ≠ "zip" -> c≠z:=fun e q n r=>by
    rw[r,hz] at e; cases e; cases q; exact n rfl
   have dT:∀ {c d:Addr}{o q:Obj}{T U:String},s.heap.get? c=some o->o.cls=.type T->s.heap.get? d=some q->q.cls=.type U->T≠U->c≠d:=fun e1 c1 e2 c2 n r=>by
    subst r; rw[e1] at e2; cases e2; rw[c1] at c2; cases c2; exact n rfl
   exact⟨dz hTI rfl (by decide),dz hTO rfl (by decide),dz e1 c1 (by decide),dz e2 c2 (by decide),n1,dT hTI rfl e1 c1 (by decide),dT hTI rfl e2 c2 (by decide),dT hTO rfl e1 c1 (by decide),dT hTO rfl e2 c2 (by decide),n2,
    dz ea ca (by decide),dT ea ca hTO rfl (by decide),dT ea ca e1 c1 (by decide),dT ea ca e2 c2 (by decide),dz eb cb (by decide),dT eb cb hTO rfl (by decide),dT eb cb e1 c1 (by decide),dT eb cb e2 c2 (by decide)⟩
  have e1:=rv.length
  have e2:=rw'.length
  refine wpAny_pyNext_zip_end (I.ok.hd hc) D hz hTI hTO h1 h2 p.isList p'.isList (k1:=i) (k2:=i) (by
   rcases hend with h | h
   ·left; simp; omega
   ·right; simp; omega) fun h' hk=>⟨O,?_⟩
  exact I.turnedL (t':=s.toks) (fun c o hcm e=>by
   simp only[tX,ua,or_false,not_or] at hcm
   exact hk c o hcm.1 hcm.2.2.1 hcm.2.2.2.1 hcm.2.2.2.2 e) hf
 self:=fun _ _ _ _ _ st h=>wpAny_pyIter_zip st.1 h
section
variable {X:Cx}
noncomputable def iZip (K:PySem.W.Frag) (ta:TA):TI:=fun σ H R=>ta σ H fun vs H1=>∃ a b,vs=[.ref a,.ref b]/\(∃ xs,SqL K H1 a xs)/\(∃ ys,SqL K H1 b ys)/\R (Itz K a b) H1
theorem jg {x1} {tpos:Pos}{e1 e2:Expr}{ta:TA}{p pos:Pos} (hg:Gl X "zip") (hm:X.mg "zip" = none) (ha:PA X [e1,e2] ta) (hs:starEach [e1,e2] X.env=[(false,eval e1 X.env),(false,eval e2 X.env)]:=by rfl) (hs2:starEach [e2] X.env=[(false,eval e2 X.env)]:=by rfl) :
  PI X (.Tuple es x1 tpos) (.Call (.Name "zip" p) [e1,e2] [] pos) (iZip X.K ta):=by
 intro pins s σ H R I h
 refine Call_ (cR I hg hm (by rfl) (PyProof.Rows.callWith_type1 (thn (ha pos pins s σ H _ I h) fun us s1 ⟨vs,H1,I1,r1,q1⟩=>?_) (by rw[hs,hs2]) (by rw[hs2]; rfl)))
 obtain⟨a,b,rfl,⟨xs,hqa⟩,⟨ys,hqb⟩,q⟩:=q1
 obtain⟨u1,u2,rfl,ru1,ru2⟩:=jw r1
 cases (show u1=Value.ref a from ru1)
 cases (show u2=Value.ref b from ru2)
 obtain⟨its,rv,pa,hsz⟩:=I1.list hqa
 obtain⟨jts,rw',pb,hsz'⟩:=I1.list hqb
 refine call_zip_2 pa.isList pb.isList fun h' hz hTI hTO h1 h2 hsize hk=>?_
 refine wpAny_pyIter_zip (s:={ s1 with heap:=h' }) hz ?_
 refine⟨_,_,_,_,H1,U,I1.kept (t':=s1.toks) hk,kX a b (s1.heap.objs.size+4) (s1.heap.objs.size+2) (s1.heap.objs.size+3) s1.heap.objs.size (s1.heap.objs.size+1),⟨hz,hTI,⟨_,_,hTO⟩,h1,h2,(fun z=>by have:s1.heap.objs.size+2=s1.heap.objs.size+3:=z; omega),(fun z=>by have:s1.heap.objs.size=s1.heap.objs.size+1:=z; omega)⟩,fun c hc=>?_,q⟩
 have hge:s1.heap.objs.size<=c:=by
  simp only[tX,ua,or_false] at hc
  rcases hc with h | h | h | h | h <;> (rw[h]; omega)
 exact I1.fpOk hge (I1.hok.fresh hge)
end
noncomputable def Ite (K:PySem.W.Frag) (a:Addr):It :=
 ⟨fun i H=>∃ xs x,SqL K H a xs/\xs[i]?=some x,
  fun i H v H'=>∃ p x,v=.ref p/\H p=none/\H'=upd H p (.tup [.int i,x])/\∀ xs,SqL K H a xs->xs[i]?=some x,
  fun i H=>∃ xs,SqL K H a xs/\xs.length<=i⟩
theorem j4 {P:Program}{w:World}{K:PySem.W.Frag} {x1} (a e it:Addr):Turn P w K (.Tuple es x1 pos) (Ite K a) [e,it] e
  (fun i h=>(∃ old,IsEnum h e it i old)/\h.IsListIter it a i) where
 mem:=by simp
 obj:=fun i h ⟨⟨old,he⟩,h1⟩ c hc=>by
  simp only[tX,ua,or_false] at hc
  rcases hc with rfl | rfl
  ·exact⟨_,he,fun v q=>by cases (show Data.fields _=Data.cell v from q)⟩
  ·obtain⟨o,e,_,d⟩:=h1
   exact⟨o,e,fun v q=>by rw[d] at q; cases q⟩
 keep:=fun i h h' ⟨⟨old,he⟩,h1⟩ k=>⟨⟨old,k e (by simp) _ he⟩,h1.at fun o q=>k it (by simp) o q⟩
 item:=by
  intro X hP hw hK hc i pins s σ H E I hf ⟨⟨old,he⟩,h1⟩ hg
  subst hP hw hK
  obtain⟨xs,x,hqa,hx⟩:=hg
  obtain⟨its,rv,p,hsz⟩:=I.list hqa
  obtain⟨ux,hux,rux⟩:=rv.get hx
  have hne:e≠it:=fun z=>by
   obtain⟨o1,e1,c1,_⟩:=h1
   rw[<- z,he] at e1; cases e1
   exact absurd (show Value.type "enumerate" = Value.type "list_iterator" from c1) (by decide)
  refine wpAny_pyNext_enum_item he h1 p.isList (x:=ux) (by simpa using hux) hne fun h' a1 a3 a5 a6 hk=>?_
  refine⟨_,U,?_⟩
  refine wpAny_letOwnedTupleGo_enum (s:={ s with heap:=h',toks:=s.toks+1 }) a1 fun h2' hz' hs'=>?_
  have lt:∀ b ∈ [e,it],b<s.heap.objs.size:=fun c hcm=>by
   simp only[tX,ua,or_false] at hcm
   rcases hcm with rfl | rfl
   ·exact Heap.lt_size he
   ·obtain⟨o,q,_⟩:=h1; exact Heap.lt_size q
  have h12:h2'.IsListIter it a (i+1):=a3.extBut hs'.extBut (Ne.symm hne)
  have pz:s.heap.objs.size≠e:=Nat.ne_of_gt (Heap.lt_size he)
  have hp2:h2'.get? s.heap.objs.size=some { cls:=.type "tuple",data:=.seq #[.int i s.toks,ux] }:=hs'.extBut _ _ pz a5
  have kk:∀ c o,c ∉ [e,it]->s.heap.get? c=some o->h2'.get? c=some o:=fun c o hcm q=>by
   simp only[tX,ua,or_false,not_or] at hcm
   exact hs'.extBut _ _ hcm.1 (hk c o hcm.1 hcm.2 q)
  have I1:Inv X pins σ H { s with heap:=h2',toks:=s.toks+1 }:=I.turnedL kk hf
  have fP:c6 X pins H s.heap.objs.size:=I.fpOk (Nat.le_refl _) (I.hok.fresh (Nat.le_refl _))
  have I2:Inv X pins σ (upd H s.heap.objs.size (.tup [.int i,x])) { s with heap:=h2',toks:=s.toks+1 }:=by
   refine I1.track I.sz (fP.2.1) fP.2.2.2.2.1 fP.2.2.2.2.2 fP.1 ?_
   exact⟨(show 2<=sizeLine by decide),[.int i s.toks,ux],.cons ⟨_,U⟩ (.cons rux .nil),⟨_,hp2,U,_,U⟩⟩
  refine⟨.ref s.heap.objs.size,_,I2,U,⟨_,x,U,fP.1,U,fun zs hzs=>by rw[I.list_inj hzs hqa]; exact hx⟩,⟨⟨_,hz'⟩,h12⟩,fun c hcm=>?_⟩
  rw[aH (Nat.ne_of_lt (lt c hcm))]
  exact(hf c hcm).1
 done:=by
  intro X hP hw hK hc i pins s σ H E I hf ⟨⟨old,he⟩,h1⟩ hg
  subst hP hw hK
  obtain⟨xs,hqa,hend⟩:=hg
  obtain⟨its,rv,p,hsz⟩:=I.list hqa
  have e1:=rv.length
  refine wpAny_pyNext_enum_end (I.ok.hd hc) he h1 p.isList (i:=i) (by simp; omega) fun h' hk=>⟨U,?_⟩
  exact I.turnedL (t':=s.toks) (fun c o hcm q=>by
   simp only[tX,ua,or_false,not_or] at hcm
   exact hk c o hcm.2 q) hf
 self:=fun _ _ _ _ _ ⟨⟨_,st⟩,_⟩ h=>wpAny_pyIter_enum st h
section
variable {X:Cx}
noncomputable def iEnum (K:PySem.W.Frag) (ta:TA):TI:=fun σ H R=>ta σ H fun vs H1=>∃ a,vs=[.ref a]/\(∃ xs,SqL K H1 a xs)/\R (Ite K a) H1
theorem dI {x1} {tpos:Pos}{e1:Expr}{ta:TA}{p pos:Pos} (hg:Gl X "enumerate") (hm:X.mg "enumerate" = none) (ha:PA X [e1] ta) (hs:starEach [e1] X.env=[(false,eval e1 X.env)]:=by rfl) :
  PI X (.Tuple es x1 tpos) (.Call (.Name "enumerate" p) [e1] [] pos) (iEnum X.K ta):=by
 intro pins s σ H R I h
 refine Call_ (cR I hg hm (by rfl) (PyProof.Rows.callWith_type1 (thn (ha pos pins s σ H _ I h) fun us s1 ⟨vs,H1,I1,r1,q1⟩=>?_) hs rfl))
 obtain⟨a,rfl,⟨xs,hqa⟩,q⟩:=q1
 obtain⟨u1,rfl,ru1⟩:=du r1
 cases (show u1=Value.ref a from ru1)
 obtain⟨its,rv,pa,hsz⟩:=I1.list hqa
 refine call_enumerate_list pa.isList fun h' hz h1 hsize hk=>?_
 refine wpAny_pyIter_enum (s:={ s1 with heap:=h' }) hz ?_
 refine⟨_,_,_,_,H1,U,I1.kept (t':=s1.toks) hk,j4 a (s1.heap.objs.size+1) s1.heap.objs.size,⟨⟨_,hz⟩,h1⟩,fun c hc=>?_,q⟩
 have hge:s1.heap.objs.size<=c:=by
  simp only[tX,ua,or_false] at hc
  rcases hc with h | h <;> (rw[h]; omega)
 exact I1.fpOk hge (I1.hok.fresh hge)
end
theorem gj {P:Nat->Value->Prop}{acc:List Value}{xs:List V} (hl:acc.length=xs.length) (h:∀ (j:Nat) (v:Value),acc[j]?=some v->P j v) (hP:∀ (j:Nat) v x,P j v->xs[j]?=some x->RelV x v):Vals xs acc:=by
 induction xs generalizing acc P with
 | nil=>
  cases acc with
  | nil=>exact .nil
  | cons _ _=>simp at hl
 | cons x xs ih=>
  cases acc with
  | nil=>simp at hl
  | cons u acc=>
   refine .cons (hP 0 u x (h 0 u rfl) rfl) (ih (P:=fun j=>P (j+1)) (by simpa using hl) (fun j v e=>h (j+1) v (by simpa using e)) fun j v y p e=>hP (j+1) v y p (by simpa using e))
section
variable {X:Cx}
theorem iY:∀ {bs:List Bool}{us:List Value},Vals (bs.map V.bl) us->LSm.BoolsAre us bs
 | [],_,.nil=>.nil
 | b::bs,_,.cons r t=>by
  obtain rfl:=(show _=Value.bool b from r)
  exact .cons b (iY t)
theorem f8 (hc:X.calm=true):c7 X (.builtin "all") (fun xs H Q=>∃ (a:Addr) (bs:List Bool),xs=[V.ref a]/\SqL X.K H a (bs.map V.bl)/\Q (.bl (bs.all id)) H):=by
 intro pins s σ H xs us Q I r h
 obtain⟨a,bs,rfl,hq,q⟩:=h
 obtain⟨u,rfl,ru⟩:=du r
 cases (show u=Value.ref a from ru)
 obtain⟨its,rv,p,hz⟩:=I.list hq
 obtain⟨m,F⟩:=I.fr
 have hlt:a<s.heap.objs.size:=by obtain⟨_,e,_⟩:=p.isList; exact Heap.lt_size e
 have hb:=iY rv
 refine call_all_walk (wpAny_pyIter_list p.isList ?_)
 refine⟨s.heap.objs.size,[s.heap.objs.size,a],[s.heap.objs.size],its.toArray.size,_,_,fun i=>(bs[i]?).getD true,U,Walks.list (A:=X.A.in1) (I.ok.hd hc) _ a (Nat.ne_of_lt hlt) its.toArray,
  ⟨⟨_,Heap.get?_push_size _ rfl,U,U⟩,p.isList.push _⟩,fun i v s' Q' E' hP hQ=>?_,fun h' tk hk=>?_⟩
 ·obtain⟨b,e,rfl⟩:=hb.get i v (by simpa using hP)
  simp only[e,Option.getD_some] at hQ
  exact wpAny_truthy_bool hQ
 ·have e:((List.range its.toArray.size).all fun i=>(bs[i]?).getD true)=bs.all id:=by
   rw[t0,hb.length]; exact LSm.range_all bs
  rw[e]
  exact⟨.bl (bs.all id),H,I.kept (LSm.kept_iter hk),U,q⟩
noncomputable def intsV (n:Nat):List V:=(List.range n).map fun i=>V.int (i:Nat)
end
theorem fR (k:Str):∀ D:List (Str×PyData),KTD.inKeys k (D.map fun p=>(p.1,KTD.Dat.flat p.2))=(D.any fun p=>decide (k=p.1))
 | []=>rfl
 | p::D=>by rw[t5,List.any_cons,KTD.inKeys,fR k D]
section
variable {X:Cx}
noncomputable abbrev oB (K:PySem.W.Frag) (a:Addr) (D:List (Str×PyData)):Prop:=KTD.tabLook KTD.flatLooks (fun b=>K.lookup b) a D=true
theorem ip {pins:List (Addr×Obj)}{σ:St}{H:Hp}{s:Shared}{a:Addr}{D:List (Str×PyData)} (I:Inv X pins σ H s) (T:oB X.K a D):KTD.Here s.heap s.heap a (D.map fun p=>(p.1,KTD.Dat.flat p.2)) :=
 ⟨(KTD.tab_of_look (fun _ _ x=>KTD.flat_of_looks x) (fun b o e=>I.kIn b o e) T).text,fun _ _ e=>e⟩
theorem gF:OpR X (compareOp .NotIn) (fun x y H Q=>∃ k a D,x=V.str k/\y=V.ref a/\oB X.K a D/\Q (.bl (!(D.any fun p=>decide (k=p.1)))) H):=by
 intro pins s σ H x y v u Q I rx ry h
 obtain⟨k,a,D,rfl,rfl,T,q⟩:=h
 obtain⟨t,rfl⟩:=(show ∃ t,v=Value.str k t from rx)
 cases (show u=Value.ref a from ry)
 refine KTD.notin_text (ip I T) ⟨.bl (!KTD.inKeys k (D.map fun(p:Str×PyData)=>(p.1,KTD.Dat.flat p.2))),H,I.tok _,U,?_⟩
 rw[fR]; exact q
theorem ix_K:IxR X (fun x y H Q=>∃ k a D i,x=V.ref a/\y=V.str k/\oB X.K a D/\D.lookup k=some (PyData.int i)/\(D.all fun p=>match p.2 with | .int _=>true | _=>false)=true/\Q (.int i) H):=by
 intro value slice pins s σ H x y v u Q I rx ry h hs
 obtain⟨k,a,D,i,rfl,rfl,T,e,hp,q⟩:=h
 cases (show v=Value.ref a from rx)
 obtain⟨t,rfl⟩:=(show ∃ t,u=Value.str k t from ry)
 have e1:∀ D:List (Str×PyData),(D.all fun p=>match p.2 with | .int _=>true | _=>false)=true->((D.map fun p=>(p.1,KTD.Dat.flat p.2)).all fun p=>KTD.plain p.2)=true:=fun D hD=>by
  rw[List.all_map]
  refine List.all_eq_true.mpr fun p hp'=>?_
  have:=List.all_eq_true.mp hD p hp'
  cases hq:p.2 <;> simp[hq] at this <;> simp[Function.comp,hq,KTD.plain]
 have e2:∀ D:List (Str×PyData),KTD.datumAt k (D.map fun p=>(p.1,KTD.Dat.flat p.2))=(D.lookup k).map KTD.Dat.flat:=fun D=>by
  induction D with
  | nil=>rfl
  | cons p D ih=>
   obtain⟨x,d⟩:=p
   rw[t5,KTD.datumAt,ud,ih]
   by_cases hk:k=x
   ·subst hk; simp
   ·have:(k == x)=false:=beq_eq_false_iff_ne.mpr hk
    simp[hk,this]
 have hT:=ip I T
 have hat:KTD.datumAt k (D.map fun p=>(p.1,KTD.Dat.flat p.2))=some (KTD.Dat.flat (.int i)):=by rw[e2 D,e]; rfl
 have hmem:KTD.inKeys k (D.map fun p=>(p.1,KTD.Dat.flat p.2))=true:=by rw[<- KTD.isSome_datumAt,hat]; rfl
 refine subscriptTail_builtin_flat hT.typeIs slot_dict_getitem.lookup ?_ hs
 unfold getItem
 try with_reducible refine wpAny_holding ?_
 refine wpAny_bind (wpAny_sequenceKey hT.typeIs (by decide) ?_)
 refine wpAny_bind (wpAny_callSpecial?_slot (name:=Str.ofString "__getitem__") hT.typeIs slot_dict_getitem
  (wpAny_call_entry slot_dict_getitem hT.typeIs entry_dict_getitem ?_ (args_dict_getitem _ _)))
 show wpAny _ _ (dictGet a (.str k t) >>= _) _ _ s
 refine wpAny_bind (KTD.dictGet_text hT (fun d v ha hv=>wpAny_pure ⟨v,U,wpAny_pure ⟨KTD.notRef_of_plain (KTD.plain_at (e1 D hp) ha) hv,?_⟩⟩) fun hn=>absurd hn (KTD.at_of_mem hmem))
 rw[hat] at ha
 cases ha
 obtain⟨t',rfl⟩:∃ t,v=Value.int i t:=by
  exact PyProof.V.Flat.int_inv (show PyProof.V.Flat v (PyData.int i) from hv)
 exact⟨.int i,H,I.tok _,⟨_,U⟩,q⟩
end
structure FunG (K:PySem.W.Frag) (x qual:Str) (st:Stmt) (dV:Value) (f:Addr) (fd:FuncData):Prop where
 ex:∃ (oc:Value) (od:Option Addr) (kV doc pm:Value) (an:Option Addr) (cdv ct:Value) (osl:Array (Option Value)),
  fd=W.fnOf x qual (bI st) (bC st) (aj st) dV kV doc pm an cdv ct/\K.lookup f=some ⟨oc,od,.func fd,osl⟩/\W.codeIn K cdv qual=true
 kp:W.keepIn K (.ref f)=true
section
variable {P:Program}{w:World}{K:PySem.W.Frag}{mg:Str->Option Value}{base:Heap}
theorem FunG.ok {x qual:Str}{st:Stmt}{dV:Value}{f:Addr}{fd:FuncData}{N ps:List Str}{k:Nat}{sp:Sp} (F:FunG K x qual st dV f fd) (S:FnScope N ps (aj st)) (len:∀ vs H Q E,sp vs H Q E->vs.length=ps.length)
  (hbody:∀ (cdv:Value) (A:Around) (outer:List Env) (s:Shared) (H:Hp) (vs:List V) (Q:VK) (E:XK),Room k (A.deeper (envOfC qual (aj st) s.heap.objs.size f cdv))->sp vs H Q E ->
   ∃ t,PSs (kK CX0 P w K mg base N qual (aj st) f cdv A outer s H E).nox (bC st) t/\t { nx:=fun _ H'=>Q .non H',rt:=Q } (start N vs) H):FnOk P w K mg base CX0 (k+1) f fd ps sp:=by
 obtain⟨oc,od,kV,doc,pm,an,cdv,ct,osl,rfl,lk,hcd⟩:=F.ex
 refine fn_of lk hcd S len fun A outer s H vs Q E hr hsp=>?_
 obtain⟨t,h,q⟩:=hbody cdv A outer s H vs Q E hr hsp
 exact⟨t,h.nox,q⟩
theorem FunG.binds {x qual:Str}{st:Stmt}{dV:Value}{f:Addr}{fd:FuncData}{ps:List Str} (F:FunG K x qual st dV f fd)
  (h:∀ (kV doc pm:Value) (an:Option Addr) (cdv ct:Value) (us:List Value),us.length=ps.length->bindArgs (W.fnOf x qual (bI st) (bC st) (aj st) dV kV doc pm an cdv ct) ⟨us,[]⟩=pure (ps.zip us)):Binds K fd ps []:=by
 obtain⟨oc,od,kV,doc,pm,an,cdv,ct,osl,rfl,lk,hcd⟩:=F.ex
 exact .all (h kV doc pm an cdv ct)
theorem funG_mk {x qual:Str}{st:Stmt}{f:Addr}{oc:Value}{od an:Option Addr}{osl:Array (Option Value)}{dV kV doc pm cdv ct:Value} (l:K.lookup f=some ⟨oc,od,.func (W.fnOf x qual (bI st) (bC st) (aj st) dV kV doc pm an cdv ct),osl⟩)
  (c:W.codeIn K cdv qual=true) (k:W.keepIn K (.ref f)=true):FunG K x qual st dV f (W.fnOf x qual (bI st) (bC st) (aj st) dV kV doc pm an cdv ct):=⟨⟨oc,od,kV,doc,pm,an,cdv,ct,osl,U,l,c⟩,k⟩
end
section
variable {X:Cx}{K:PySem.W.Frag}
theorem hC (hK:X.K=K) {k:Nat}{t:TGs}{n:Nat} (hc:X.calm=true) (h:PGs X es t)
  (hn:(assignEach es X.env).length=n:=by rfl) (hst:(assignEach es X.env).findIdx? (·.1)=none:=by rfl):PG X (.Tuple es k pos) (sW K n t):=by
 subst hK; exact bx hc h hn hst
theorem mL (hK:X.K=K):IxR X (sT K):=by subst hK; exact aB
end
end L2
namespace L2
theorem bJ {σ:St}{H:Hp}{A B:Hp->Prop} (h:A H):oJ σ H (fun b H3=>if b=true then A H3 else B H3):=(dP h:if true=true then A H else B H)
end L2
namespace L2
open PySem PySem.Spec PyProof.Rows
section
variable {X:Cx}{CX:CXT}{k:Nat}{f C:Addr}{fd:FuncData}{ps ks:List Str}{sp:Sp}{E:XK}{x m:Str}{p pos apos kpos:Pos}{e o:Expr}{es:List Expr}{kws:List Keyword}{te ta:TE}{t tk:TA}
 {g:List Value->List Value->List Value}{gV:List V->List V->List V}
noncomputable def qg (C:Addr) (m:Str) (sp:Sp) (gV:List V->List V->List V) (E:XK) (ta:TE) (t tk:TA):TE:=fun σ H Q=>ta σ H fun x H1=>∃ a dx fs,x=.ref a/\H1 a=some (.ins C dx fs)/\fs.lookup m=none /\
 t σ H1 fun vs H2=>tk σ H2 fun zs H3=>sp (gV (x::vs) zs) H3 Q E
theorem fG {pl:Sem Bool} (he:PE X o ta) (c:Cls X.K C) (hm:Meth X.K C m f) (F:FnOk X.prog X.w X.K X.mg X.base CX k f fd ps sp) (hr:Room k X.A) (hb:KBinds X.K fd ps ks g gV) (hx:cv CX X E) (ha:PA X (e::es) t) (hkw:PK X kws tk)
  (hall:(backToKw pos (keywordEach kws X.env)).all (·.1.isSome)=true:=by rfl) (hks:(backToKw pos (keywordEach kws X.env)).filterMap (·.1)=ks:=by rfl)
  (hst:starEach (e::es) X.env=(false,eval e X.env)::starEach es X.env:=by rfl)
  (hpl:((backTo pos (starEach (e :: es) X.env)).any (·.1) || (backToKw pos (keywordEach kws X.env)).any (·.1.isNone)) = false:=by rfl)
  (ht:eval (.Call (.Attribute o m apos) (e::es) kws pos) X.env=(do
   let ov <- eval o X.env
   standAt apos.atName
   let (f,first) <- holding [ov] (getMethod ov m pl)
   callWith pos f first (backTo pos (starEach (e::es) X.env)) (backToKw pos (keywordEach kws X.env))):=by rfl) :
  PE X (.Call (.Attribute o m apos) (e::es) kws pos) (qg C m sp gV E ta t tk):=by
 intro pins s σ H Q I h
 refine PySem.W.methodCall_KW (pl:=pl) (thn (he pins s σ H _ I h) fun u s1 ⟨x,H1,I1,rx,a,dx,fs,ex,ea,l,q⟩=>?_) ht
 subst ex
 obtain rfl:u=Value.ref a:=rx
 refine dr I1 ea c hm l ?_
 refine PySem.W.callWith_KW (first:=[.ref a]) (h₀:=X.base) I.ok.mod.kin hm.kp hall (thn (ha pos pins s1 σ H1 _ I1 q) fun us s2 ⟨vs,H2,I2,r,q2⟩=>?_) hpl hst
 refine thn (hkw pos pins s2 σ H2 _ I2 q2) fun ws s3 ⟨zs,H3,I3,rz,q3⟩=>⟨I3.kIn,?_⟩
 rw[hks]
 exact nL F hr hb hx I3 (us:=.ref a::us) (vs:=.ref a::vs) (.cons rfl r) rz q3
end
end L2
namespace L2
theorem ifJ {b:Bool}{A B:Prop} (hA:b=true->B->A) (g:B):if b=true then A else B:=by
 cases b
 ·exact ce g
 ·exact dP (hA rfl g)
end L2
namespace L2
open PySem PySem.Spec PyProof.Rows
section
variable {X:Cx}{o i e:Expr}{td ty:TE}{tpos pos apos cpos:Pos}
theorem hW:OpR X (binaryOp .Add) (fun x y H Q=>∃ a b xs ys,x=.ref a/\y=.ref b/\SqL X.K H a xs/\SqL X.K H b ys/\xs.length+ys.length<=sizeLine/\∀ l,H l=none->Q (.ref l) (upd H l (.lst (xs++ys)))):=by
 intro pins s σ H x y u v Q I rx ry h
 obtain⟨a,b,xs,ys,rfl,rfl,ha,hb,hz,q⟩:=h
 cases (show u=Value.ref a from rx)
 cases (show v=Value.ref b from ry)
 obtain⟨ia,ra,⟨⟨cls,dd,data,sl⟩,n,ho,hc,_,hd⟩,_⟩:=I.list ha
 obtain⟨ib,rb,⟨⟨cls2,dd2,data2,sl2⟩,n2,ho2,hc2,_,hd2⟩,_⟩:=I.list hb
 simp only at hc hd hc2 hd2
 subst hc hd hc2 hd2
 have e:ia.toArray++ib.toArray=(ia++ib).toArray:=by simp
 have e1:=ra.length
 have e2:=rb.length
 refine concat_meets ⟨_,ho,U⟩ ⟨_,ho2,U⟩ noFill_list_add seq_list_add PySem.F.slot_list_add PySem.F.entry_list_add (PySem.F.args_list_add_2 _ _) (list_addW a b ia.toArray ib.toArray n n2 dd dd2 sl sl2 (by simp; omega)) ⟨ho,ho2,?_⟩
 rw[e]
 refine⟨.ref s.heap.objs.size,_,I.laid (a:=s.heap.objs.size) (o:=.lst (xs++ys)) (t':=s.toks) (fun _ _ q=>Heap.get?_push_of_some _ q) (Nat.le_refl _) ⟨by simpa using hz,ia++ib,0,ra.append rb,Heap.get?_push_size _ rfl⟩,U,q _ (I.hok.fresh (Nat.le_refl _))⟩
theorem fF {h:Heap}:∀ {ns:List Int}{vs:List Value},Vals (ns.map V.int) vs->ReadsAll h vs (ns.map PyData.int) []
 | [],_,r=>by cases r; exact .nil
 | n::ns,_,r=>by
  cases r with
  | cons r1 r2=>
   obtain⟨t,rfl⟩:=r1
   exact .cons (as:=[]) (.int _ t) (fF r2)
theorem gD {pins:List (Addr×Obj)}{s:Shared}{σ:St}{H:Hp}{a:Addr}{ns:List Int} (I:Inv X pins σ H s) (h:H a=some (.tup (ns.map V.int))):Reads s.heap (.ref a) (.tuple (ns.map PyData.int)) []:=by
 obtain⟨_,its,r,o,h1,h2,n,h3⟩:=(show ObjOk X.prog X.w H s.heap a (.tup (ns.map V.int)) from I.hok a _ h)
 exact reads_tuple_at h1 h2 h3 (by simpa using fF r)
theorem fD (ns:List Int):SeqAt.shaped (.tuple (ns.map PyData.int))=true:=by
 simp[SeqAt.shaped,PyData.canLay0,PyData.depth,PySem.W.ke_canLayAll0,PySem.W.ke_depthAll]
theorem ln (ns ms:List Int):PySem.Spec.same (.tuple (ns.map PyData.int)) (.tuple (ms.map PyData.int))=decide (ns=ms):=by
 simp only[PySem.Spec.same]; exact PySem.W.ke_sameAll ns ms
noncomputable def rTup (neg:Bool):R2:=fun x y H Q=>∃ (a b:Addr) (ns ms:List Int),x=.ref a/\y=.ref b/\H a=some (.tup (ns.map V.int))/\H b=some (.tup (ms.map V.int))/\Q (.bl (if neg then !decide (ns=ms) else decide (ns=ms))) H
theorem jx (ns:List Int):(Shape.tuples .int).has (.tuple (ns.map PyData.int))=true:=by
 simp only[Shape.has]
 induction ns with
 | nil=>rfl
 | cons n ns ih=>simp[Shape.hasAll,Shape.has] at ih ⊢; try exact ih
theorem qG (hu:X.A.units+64<cLine):OpR X (compareOp .Eq) (rTup false):=by
 intro pins s σ H x y u v Q I rx ry h
 obtain⟨a,b,ns,ms,rfl,rfl,ha,hb,q⟩:=h
 cases (show u=Value.ref a from rx)
 cases (show v=Value.ref b from ry)
 exact eq_dataH_same (gD I ha) (gD I hb) (fD _) (fD _) hu (SeqAt.noMix_of_shape (.tuples .int) rfl _ _ (jx ns) (jx ms)) (by rw[ln]; exact aT I q (by simp))
end
theorem fU {K:PySem.W.Frag}{a:Addr}{xs:List V}{g:TG}{tb:TS}{D:Ends}{σ:St}{H:Hp} (Pv:Nat->St->Hp->Prop) (h0:Pv 0 σ H) (hl:∀ i σ H,i<=xs.length->Pv i σ H->SqL K H a xs)
  (hs:∀ i x σ H p,xs[i]?=some x->Pv i σ H->H p=none->g (.ref p) σ (upd H p (.tup [.int i,x])) fun σ2 H2=>tb { D with nx:=Pv (i+1),ct:=Pv (i+1),bk:=D.nx } σ2 H2) (hd:∀ σ H,Pv xs.length σ H->D.nx σ H) :
  ∃ W:Nat->Nat->St->Hp->Prop,(∃ m,W 0 m σ H)/\∀ i m σ H,W i m σ H ->
   ((Ite K a).stop i H/\D.nx σ H)∨((Ite K a).go i H/\∃ N:St->Hp->Prop,(∀ σ' H',N σ' H'->∃ m',m'<m/\W (i+1) m' σ' H')/\∀ x H',(Ite K a).yld i H x H'->g x σ H' fun σ2 H2=>tb { D with nx:=N,ct:=N,bk:=D.nx } σ2 H2):=by
 refine⟨fun i m σ H=>m=xs.length - i/\i<=xs.length/\Pv i σ H,⟨xs.length,by simp,Nat.zero_le _,h0⟩,?_⟩
 rintro i m σ H ⟨rfl,hi,p⟩
 have hq:=hl i σ H hi p
 by_cases hlt:i<xs.length
 ·refine .inr ⟨⟨xs,xs[i],hq,tN hlt⟩,Pv (i+1),fun σ' H' p'=>⟨xs.length - (i+1),by omega,U,hlt,p'⟩,fun x H' y=>?_⟩
  obtain⟨b,z,rfl,hb,rfl,hz⟩:=y
  exact hs i z σ H b (hz xs hq) p hb
 ·have e:i=xs.length:=by omega
  subst e
  exact .inl ⟨⟨xs,hq,Nat.le_refl _⟩,hd σ H p⟩
section
variable {X:Cx}
theorem ff {ix:Nat}{nm:Str}{pos' spos:Pos}{elt tg iter:Expr}{ifs:List Expr}{scope:Scope}{pos:Pos}{wi:TI}{k:Nat}{g:TG}{tc:TT}{te:TE} (hNd:X.N.Nodup) (hix:X.N[ix]?=some nm) (hLx:Loc X.env.scope nm) (N':List Str) (hc:X.calm=true) (hi:PI X tg iter wi)
  (hg:∀ C s₀ H₀ fp pins,PG (blk X scope N' C s₀ H₀ fp pins) tg g) (ht:∀ C s₀ H₀ fp pins,PTs (blk X scope N' C s₀ H₀ fp pins) ifs tc) (he:∀ C s₀ H₀ fp pins,PE (blk X scope N' C s₀ H₀ fp pins) elt te)
  (hk:scope.kind=.function) (hcell:∀ y ∈ scope.names,y.2≠.cell) (hnames:∀ y ∈ scope.names,y.2=.local->scope.names.lookup y.1=some .local)
  {esc:Scope} (hsc:X.env.scope=esc) (hfr':∀ y ∈ scope.names,y.2=.free->esc.names.lookup y.1=some .cell∨esc.names.lookup y.1=some .free)
  (hlen:N'.length=k+X.N.length)
  (hN:∀ (i:Nat) (x:Str),N'[i+k]?=some x->(x,NameKind.free) ∈ scope.names->X.N[i]?=some x)
  (hN2:∀ x ∈ N'.drop k,scope.names.lookup x≠some .local)
  (hs:∀ x,foldedSetIterable iter X.env x=pure x:=by intro _; rfl)
  (hsw:swapsWith (.ListComp elt [⟨tg,iter,ifs,0⟩] scope pos) (some (.Name nm pos')) spos.line X.env=pure true:=by rfl)
  (hf:X.fn nm=true∨X.env.scope.names.lookup nm=some .local:=by first | exact .inl rfl | exact .inr rfl | assumption) :
  PS X (.Assign [.Name nm pos'] (.ListComp elt [⟨tg,iter,ifs,0⟩] scope pos) spos) (nH (tLC wi k g tc te) (eL ix)):=by
 intro pins s σ H Dn I h
 have hfr:∀ y ∈ scope.names,y.2=.free->X.env.kindOf y.1=some .cell∨X.env.kindOf y.1=some .free:=fun y hy hf=>by
  show X.env.scope.names.lookup y.1=_∨X.env.scope.names.lookup y.1=_
  rw[hsc]; exact hfr' y hy hf
 have hcells:∀ y ∈ scope.names,y.2=.free->∃ c,X.env.cells.lookup y.1=some c:=fun y hy hf=>I.ok.has y.1 (hfr y hy hf)
 have hclos:=fZ scope X.env hcells
 rw[exec_Assign_Name_used _ _ _ _ hsw]
 refine wpAny_bind (wpAny_standAt (wpAny_bind ?_))
 show wpAny _ X.A (do let _ <- comprehension (.ListComp elt [⟨tg,iter,ifs,0⟩] scope pos) scope X.env _ (newList []) false (eval iter X.env) (some (assign (.Name nm pos') X.env))) _ _ s
 refine wpAny_bind (wpAny_mono (wpAny_comprehension_free (Q:=fun _ s'=>SP X pins Dn .next s') (use:=some (assign (.Name nm pos') X.env)) rfl hs hclos hk hnames ?_) (fun _ s' hq=>wpAny_pure (wpAny_pure hq)) fun _ _ e=>e)
 refine(thn (hi pins s σ H _ I h) fun v s1 h1=>thn h1 fun itv s2 h2=>?_)
 obtain⟨it,fp,tn,J,H2,e,I2,T,st2,f2,R⟩:=h2
 subst e
 refine wpAny_newObj_type ?_
 have hD:H2 s2.heap.objs.size=none:=I2.hok.fresh (Nat.le_refl _)
 obtain⟨W,⟨m0,w0⟩,turn⟩:=R _ hD
 generalize eD:s2.heap.objs.size=D at *
 have I3:Inv X pins σ (upd H2 D (.lst [])) { s2 with heap:=s2.heap.push { cls:=.type "list",dict:=none,data:=.seq ([]:List Value).toArray } } :=
  I2.laid (a:=D) (o:=.lst []) (t':=s2.toks) (fun b u e=>Heap.get?_push_of_some _ e) (Nat.le_of_eq eD) ⟨Nat.zero_le _,[],0,.nil,by rw[<- eD]; exact Heap.get?_push_size _ rfl⟩
 generalize e3:({ s2 with heap:=s2.heap.push { cls:=.type "list",dict:=none,data:=.seq ([]:List Value).toArray } }:Shared)=s3 at *
 have st3:tn 0 s3.heap:=T.keep _ _ _ st2 fun b _ o e=>by rw[<- e3]; exact Heap.get?_push_of_some _ e
 have lt2:∀ b ∈ fp,b<s2.heap.objs.size:=fun b hb=>by
  obtain⟨o,e,_⟩:=T.obj _ _ st2 b hb
  exact Heap.lt_size e
 have neD:∀ b ∈ fp,b≠D:=fun b hb=>by
  have:=lt2 b hb
  rw[eD] at this
  exact Nat.ne_of_lt this
 have f3:∀ b ∈ fp,c6 X pins (upd H2 D (.lst [])) b:=fun b hb=>⟨by rw[aH (neD b hb)]; exact(f2 b hb).1,(f2 b hb).2⟩
 generalize upd H2 D (.lst [])=H3 at *
 refine wpAny_newFunctionEnv hcell (by intro y hy; simp at hy) (fun h₁ hns₁ hsb₁=>?_) hk
 try dsimp only at hns₁ hsb₁ ⊢
 have lt3:∀ b ∈ fp,b<s3.heap.objs.size:=fun b hb=>by
  obtain⟨o,e,_⟩:=T.obj _ _ st3 b hb
  exact Heap.lt_size e
 generalize eC:s3.heap.objs.size=C at *
 have kp:∀ b o,s3.heap.get? b=some o->h₁.get? b=some o:=fun b o e=>(hsb₁.2 b (by rw[<- eC]; exact Nat.ne_of_lt (Heap.lt_size e))).trans (Heap.get?_push_of_some _ e)
 have subC:∀ x c,(cX X.env.cells scope.names []).lookup x=some c->X.env.cells.lookup x=some c:=fun x c e=>dW scope.names [] hcells (fun y d z=>by simp at z) e
 have hCnone:H3 C=none:=I3.hok.fresh (Nat.le_of_eq eC)
 have ok':(blk X scope N' C s3 H3 fp pins).Ok:={
  mod:=I3.ok.mod
  kind:=hk
  glob:=I3.ok.glob
  blt:=I3.ok.blt
  above:=Nat.le_of_eq eC
  inj:=fun x y c a b=>I3.ok.inj x y c (subC x c a) (subC y c b)
  has:=fun x hx=>cB scope.names [] (bZ scope.names hcell hx)
  cab:=fun x c a _=>absurd a Bool.false_ne_true
  hd:=I3.ok.hd
  frames:=I3.ok.frames
  stk:=.inl rfl
  exf:=fun b hb=>⟨by have:=lt3 b hb; exact Nat.ne_of_lt this,fun x c e=>(f3 b hb).2.2.2.2.1 x c (subC x c e)⟩
  bs:=I3.bs
  bsz:=Nat.le_trans I3.ok.bsz I3.sz
  noex:=fun b o e hb=>by
   rcases (f3 b hb).2.2.2.1 with z | z
   ·exact I3.ok.noex b o e z
   ·exact absurd (Nat.lt_of_lt_of_le (Heap.lt_size e) (Nat.le_trans I3.ok.bsz z)) (Nat.lt_irrefl _)
  exfs:=fun b hb z=>by
   rcases tX.mp (I3.stkSub b z) with e | e
   ·exact(f3 b hb).2.1 e
   ·exact(f3 b hb).2.2.1 e
  funs:=I3.stack
  frf:=I3.stkFree }
 have s4os:({ s3 with heap:=h₁,toks:=s3.toks+([]:List (Str×Value)).length }:Shared).os=s3.os:=rfl
 generalize e4:({ s3 with heap:=h₁,toks:=s3.toks+([]:List (Str×Value)).length }:Shared)=s4 at *
 have h4:s4.heap=h₁:=by rw[<- e4]
 have J4:Inv (blk X scope N' C s3 H3 fp pins) [] (List.replicate k none++σ) H3 s4:=by
  refine⟨ok',s4os,by rw[<- e4]; exact I3.bare,?_,⟨_,by rw[h4]; exact hns₁,fun i x v e1 e2 e5=>?_⟩,fun x c e=>?_,hCnone,fun x c e=>I3.freeC x c (subC x c e),fun p hp=>?_,?_,?_⟩
  ·rw[h4]; exact Un.kept kp
  ·have hik:¬ i<k:=fun hlt=>by
    rw[t9 (by rw[tZ]; exact hlt),List.getElem?_replicate] at e2
    split at e2 <;> cases e2
   obtain⟨j,rfl⟩:∃ j,i=j+k:=⟨i - k,by omega⟩
   have e2':σ[j]?=some (some v):=by
    rw[t8 (by rw[tZ]; omega),tZ] at e2
    have:j+k - k=j:=by omega
    rw[this] at e2; exact e2
   have nl:(relabel scope X.env).names.lookup x≠some .local:=fun z=>by
    have q:∀ (l:List (Str×NameKind)),(l.map fun(n,k)=>if (k == NameKind.free && X.env.scope.kind == .function && X.env.kindOf n == some .cell) then(n,NameKind.cell) else(n,k)).lookup x=some .local->l.lookup x=some .local:=by
     intro l
     induction l with
     | nil=>intro z; simp at z
     | cons y l ih=>
      obtain⟨n,kk⟩:=y
      intro z
      by_cases hcc:(kk == NameKind.free && X.env.scope.kind == .function && X.env.kindOf n == some .cell)=true
      ·simp only[t5,if_pos hcc,ud] at z ⊢
       cases hx:x == n with
       | true=>simp only[hx] at z; cases z
       | false=>simp only[hx] at z ⊢; exact ih z
      ·simp only[t5,if_neg hcc,ud] at z ⊢
       cases hx:x == n with
       | true=>simp only[hx] at z ⊢; exact z
       | false=>simp only[hx] at z ⊢; exact ih z
    exact hN2 x (tO (i:=j) (by rw[List.getElem?_drop,Nat.add_comm]; exact e1)) (q _ z)
   have hcf:(relabel scope X.env).names.lookup x=some .cell∨(relabel scope X.env).names.lookup x=some .free:=by
    rcases e5 with z | z | z
    ·exact absurd z nl
    ·exact .inl z
    ·exact .inr z
   have hmem:(x,NameKind.free) ∈ scope.names:=bZ scope.names hcell hcf
   have hx:=hN j x e1 hmem
   obtain⟨mo,_,hl⟩:=I3.loc
   have hkx:=hfr (x,.free) hmem rfl
   obtain⟨u,ru,lk⟩:=hl j x v hx e2' (by
    rcases hkx with z | z
    ·exact .inr (.inl z)
    ·exact .inr (.inr z))
   refine⟨u,ru,.inr ⟨hcf,?_⟩⟩
   rcases lk with ⟨z,_⟩ | ⟨_,c,hc1,hc2⟩
   ·rcases hkx with q | q
    ·rw[q] at z; cases z
    ·rw[q] at z; cases z
   ·obtain⟨c',hc'⟩:=cB (cells:=X.env.cells) scope.names [] hmem
    have:=subC x c' hc'
    rw[hc1] at this; cases this
    obtain⟨oc,h5,h6⟩:=hc2
    exact⟨c,hc',oc,by rw[h4]; exact kp _ _ h5,h6⟩
  ·obtain⟨v,oc,h5,h6⟩:=I3.cell x c (subC x c e)
   exact⟨v,oc,by rw[h4]; exact kp _ _ h5,h6⟩
  ·have hp':p ∈ X.pn++pins:=by simpa using hp
   obtain⟨a1,a2,a3,a4,a5⟩:=I3.pin p hp'
   refine⟨by rw[h4]; exact kp _ _ a1,a2,?_,fun z=>?_,a5⟩
   ·have:=Heap.lt_size a1
    rw[eC] at this
    exact Nat.ne_of_lt this
   ·rcases tX.mp (I3.stkSub p.1 z) with q | q
    ·exact a3 q
    ·exact a4 q
  ·rw[h4]; exact I3.hok.kept kp
  ·rw[tW,tZ,I3.len]; exact hlen.symm
 have stat:∀ {H':Hp},(∀ b ∈ fp,H' b=none)->∀ b ∈ fp,c6 (blk X scope N' C s3 H3 fp pins) [] H' b:=fun hn b hb=>
  ⟨hn b hb,(ok'.exf b hb).1,ok'.exfs b hb,.inl hb,fun x c e=>(ok'.exf b hb).2 x c e,fun p hp=>(f3 b hb).2.2.2.2.2 p (by simpa using hp)⟩
 have fr4:∀ b ∈ fp,H3 b=none:=fun b hb=>(f3 b hb).1
 have st4:tn 0 s4.heap:=T.keep _ _ _ st3 fun b _ o e=>by rw[h4]; exact kp _ _ e
 have loop:codeAny (model X.prog X.w) X.A (.compLoop (.ListComp elt [⟨tg,iter,ifs,0⟩] scope pos) 0 (.ref it) (.ref D) (compEnvC scope (cX X.env.cells scope.names []) C X.env))
   (compPost (model X.prog X.w) X.A X.xe (some (assign (.Name nm pos') X.env)) (fun _ s'=>SP X pins Dn .next s') (.ref D) C) s4:=by
  refine eR (fun n s'=>∃ i ys H',Inv (blk X scope N' C s3 H3 fp pins) [] (List.replicate k none++σ) H' s'/\tn i s'.heap/\(∀ b ∈ fp,H' b=none)/\W i n ys H') ?_ m0 ⟨0,[],H3,J4,st4,fr4,w0⟩
  rintro n s5 ⟨i,ys,H5,I5,st5,fr5,w5⟩
  obtain⟨hDl,stp⟩:=turn i n ys H5 w5
  rcases stp with ⟨stop,qn⟩ | ⟨go,step⟩
  ·refine thn (T.done (blk X scope N' C s3 H3 fp pins) rfl rfl rfl hc i [] s5 _ H5 (fun _ _=>False) I5 (stat fr5) st5 stop) fun r s6 ⟨hr,I6⟩=>?_
   subst hr
   obtain⟨m6,ns6,_⟩:=id I6.loc
   have hC5:H5 C=none:=I6.free
   have un6:Un (frs X.stack) fp H3 H5 s3.heap s6.heap:=I6.base
   have IX:Inv X pins σ H5 s6:=by
    refine I3.call' (s':=s6) (ch:=fp) I6.os un6 I6.hok I6.bare (fun b hb=>?_)
    exact⟨(f3 b hb).2.2.2.1,(f3 b hb).2.1,(f3 b hb).2.2.2.2.1,(f3 b hb).2.2.2.2.2⟩
   have fpC:c6 X pins H5 C:=I3.fpOk (Nat.le_of_eq eC) hC5
   obtain⟨oC,esC,epC,gC,dC,rC⟩:=ns6
   have IXp:=IX.pinned (fp:=[C]) (fun b hb=>by rw[tT.mp hb]; exact fpC) (fun b hb=>by rw[tT.mp hb]; exact⟨oC,gC,fun v z=>by rw[dC] at z; cases z⟩)
   have sto:=aq (pos:=pos') hNd hix hLx hf _ s6 σ H5 (.ref D) (.ref D) (fun σ' H'=>σ'=σ.set ix (some (.ref D))/\H'=H5) IXp rfl ⟨U,U⟩
   show wpAny _ _ (assign (.Name nm pos') X.env (.ref D)) _ _ s6
   refine thn sto fun _ s7 ⟨σ7,H7,I7,e7,e7'⟩=>?_
   subst e7 e7'
   have gC7:s7.heap.get? C=some oC:=(I7.pin (C,oC) (tL _ (tL _ (bD (tT.mpr rfl) gC)))).1
   refine⟨_,⟨oC,esC,epC,gC7,dC,rC⟩,fun h' hsb=>⟨σ.set ix (some (.ref D)),_,?_,qn⟩⟩
   refine(I7.unpinned).call' (s':={ s7 with heap:=h' }) (ch:=[C]) rfl ⟨fun b o e a1 a2 a3=>?_,fun b o e a1 a2 a3=>?_,fun _ _ _ n _=>n,fun b o e a3=>?_,fun _ _ q=>q,fun _ _ _ q=>q,fun _ ps q=>⟨#[],by rw[q]; simp⟩⟩ ?_ I7.bare (fun b hb=>?_)
   ·exact(hsb.2 b (fun z=>a3 (tT.mpr z))).trans e
   ·exact⟨o.slots,(hsb.2 b (fun z=>a3 (tT.mpr z))).trans e⟩
   ·exact⟨o,(hsb.2 b (fun z=>a3 (tT.mpr z))).trans e⟩
   ·intro b u e
    refine(I7.hok b u e).stay (fun c w' hcc q=>(hsb.2 c ?_).trans q) (fun _ q=>q) fun _ _ q=>q
    rintro rfl
    rcases hcc with z | z
    ·rw[z,e] at hC5; cases hC5
    ·rw[z] at hC5; cases hC5
   ·rw[tT.mp hb]
    exact⟨fpC.2.2.2.1,fpC.2.1,fpC.2.2.2.2.1,fpC.2.2.2.2.2⟩
  ·refine thn (T.item (blk X scope N' C s3 H3 fp pins) rfl rfl rfl hc i [] s5 _ H5 (fun _ _=>False) I5 (stat fr5) st5 go) fun r s6 ⟨u,hr,h6⟩=>?_
   subst hr
   refine thn h6 fun _ s7 ⟨x,H7,I7,r7,y7,st7,fr7⟩=>?_
   have I7':=I7.pinned (stat fr7) (T.obj _ _ st7)
   refine thn (hg C s3 H3 fp pins _ s7 _ H7 x u _ I7' r7 (step x H7 y7)) fun _ s8 ⟨σ8,H8,I8,d8,q8⟩=>?_
   refine thn (ht C s3 H3 fp pins _ s8 σ8 H8 _ I8 q8) fun b s9 ⟨H9,I9,q9⟩=>?_
   have kz:∀ (j:Nat) v,(List.replicate k none++σ)[j]?=some (some v)->σ8[j]?=some (some v):=fun j v e=>by
    have hik:¬ j<k:=fun hlt=>by
     rw[t9 (by rw[tZ]; exact hlt),List.getElem?_replicate] at e
     split at e <;> cases e
    rw[t8 (by rw[tZ]; omega),tZ,<- d8,List.getElem?_drop] at e
    have:k+(j - k)=j:=by omega
    rw[this] at e; exact e
   have again:∀ {Hz:Hp}{sz:Shared}{zs:List V}{m':Nat},Inv (blk X scope N' C s3 H3 fp pins) ([]++d6 fp s7.heap) σ8 Hz sz->m'<n->W (i+1) m' zs Hz ->
     ∃ m,m<n/\∃ i ys H',Inv (blk X scope N' C s3 H3 fp pins) [] (List.replicate k none++σ) H' sz/\tn i sz.heap/\(∀ b ∈ fp,H' b=none)/\W i m ys H':=fun {Hz sz zs m'} Iz hm wz=>by
    refine⟨m',hm,i+1,zs,Hz,(Iz.unpinned).weak ?_ kz,T.keep _ _ _ st7 fun b hb o e=>(Iz.pin (b,o) (tL _ (tL _ (bD hb e)))).1,fun b hb=>?_,wz⟩
    ·rw[Iz.len]; exact I5.len
    ·obtain⟨o,e,d⟩:=T.obj _ _ st7 b hb
     exact(Iz.pin (b,o) (tL _ (tL _ (bD hb e)))).2.1
   cases b with
   | false=>
    obtain⟨m',hm,w9⟩:=(show ∃ m',m'<n/\W (i+1) m' ys H9 by simpa using q9)
    rw[if_neg Bool.false_ne_true]
    exact again I9 hm w9
   | true=>
    rw[if_pos rfl] at q9 ⊢
    refine thn (he C s3 H3 fp pins _ s9 σ8 H9 _ I9 q9) fun u9 s10 ⟨y,H10,I10,r10,hz,hD10,m',hm,w10⟩=>?_
    refine thn (aU (X:=blk X scope N' C s3 H3 fp pins) _ s10 σ8 H10 (.ref D) [y] (.ref D) [u9] (fun _ H'=>H'=upd H10 D (.lst (ys++[y]))) I10 rfl (.cons r10 .nil) ⟨D,ys,y,U,U,hD10,hz,U⟩) fun _ s11 ⟨_,H11,I11,_,e11⟩=>?_
    subst e11
    exact again I11 hm w10
 exact codeAny_compStart_list loop (T.self _ 0 _ _ _ st4 loop)
end
variable{Q:Value->Shared->Prop}
section
variable {prog:Program}{w:World}{A:Around}{E:Value->Shared->Prop}{s:Shared}
theorem bH {it l:Addr}{i:Nat}{items:Array Value}{x:Value} (h1:s.heap.IsTupleIter it l i) (h2:s.heap.IsTuple l items) (h3:items[i]?=some x)
  (h:∀ h',h'.IsTupleIter it l (i+1)->Heap.SameBut it s.heap h'->Q x { s with heap:=h' }):wpAny (model prog w) A (Builtin.SmallTypes.nextOf (.ref it)) Q E s:=by
 obtain⟨o,e,c,d⟩:=h1
 obtain⟨ol,el,cl,n,dl⟩:=h2
 unfold Builtin.SmallTypes.nextOf
 refine wpAny_bind (wpAny_callSpecial?_slot (T := "tuple_iterator") ⟨o,e,c⟩ F.slot_tuple_iterator_next (wpAny_call_entry F.slot_tuple_iterator_next ⟨o,e,c⟩ F.entry_tuple_iterator_next ?_ (F.args_tuple_iterator_next_1 _)))
 unfold Builtin.«tuple_iterator.__next__»
 refine wpAny_bind (wpAny_of_eq (a:=(Value.ref it,[])) rfl ?_)
 refine wpAny_bind (wpAny_field (x:=.ref l) e d rfl ?_)
 rw[if_neg (show ¬ ((Value.ref l == Value.none)=true) from by simp)]
 refine wpAny_bind (wpAny_field (x:=.int (i:Int) 0) e d rfl ?_)
 refine wpAny_bind (wpAny_seqItems el dl ?_)
 dsimp only
 rw[Int.toNat_natCast,h3]
 refine wpAny_bind (wpAny_setField e d (by simp) ?_)
 refine wpAny_pure ⟨x,U,wpAny_pure (h _ ⟨_,Heap.get?_update_self _ e (Obj.isFreed_of_fields (Obj.data_mapFields d _)),(Obj.cls_mapFields _ _).trans c,Obj.data_mapFields d _⟩ (Heap.SameBut.update _ _ _))⟩
theorem cy {it l:Addr}{i:Nat}{items:Array Value} (hh:A.handled=none) (h1:s.heap.IsTupleIter it l i) (h2:s.heap.IsTuple l items) (h3:items[i]?=none)
  (h:∀ h' e,Heap.ExtBut it s.heap h'->(∃ o,h'.get? e=some o/\o.cls=.type "StopIteration")->E (.ref e) { s with heap:=h' }):wpAny (model prog w) A (Builtin.SmallTypes.nextOf (.ref it)) Q E s:=by
 obtain⟨o,e,c,d⟩:=h1
 obtain⟨ol,el,cl,n,dl⟩:=h2
 unfold Builtin.SmallTypes.nextOf
 refine wpAny_bind (wpAny_callSpecial?_slot (T := "tuple_iterator") ⟨o,e,c⟩ F.slot_tuple_iterator_next (wpAny_call_entry F.slot_tuple_iterator_next ⟨o,e,c⟩ F.entry_tuple_iterator_next ?_ (F.args_tuple_iterator_next_1 _)))
 unfold Builtin.«tuple_iterator.__next__»
 refine wpAny_bind (wpAny_of_eq (a:=(Value.ref it,[])) rfl ?_)
 refine wpAny_bind (wpAny_field (x:=.ref l) e d rfl ?_)
 rw[if_neg (show ¬ ((Value.ref l == Value.none)=true) from by simp)]
 refine wpAny_bind (wpAny_field (x:=.int (i:Int) 0) e d rfl ?_)
 refine wpAny_bind (wpAny_seqItems el dl ?_)
 dsimp only
 rw[Int.toNat_natCast,h3]
 refine wpAny_bind (wpAny_rule ?_)
 refine wpAny_bind (wpAny_setField e d (by simp) ?_)
 unfold Builtin.SmallTypes.stopIteration
 refine wpAny_bind ?_
 unfold newExc
 refine wpAny_bind (wpAny_newTuple ?_ (by simp))
 refine wpAny_bind (wpAny_bind (wpAny_pure (wpAny_pure ?_)))
 refine wpAny_newObj_type ?_ (sizeOk_excFields _ _ _ _ _ _ _ _)
 unfold raiseNew
 refine wpAny_bind (wpAny_handled ?_)
 rw[show A.in1.handled=none from hh]
 refine wpAny_throw (h _ _ (fun b o hb eb=>?_) ⟨_,Heap.get?_push_size _ rfl,U⟩)
 exact Heap.get?_push_of_some _ (Heap.get?_push_of_some _ (((Heap.SameBut.update s.heap it _).2 b hb).trans eb))
theorem dv {h h':Heap}{a l:Addr}{xs:Array Value} (p:h.IsTuple l xs) (sb:Heap.SameBut a h h') (ne:l≠a):h'.IsTuple l xs:=by
 obtain⟨o,e,r⟩:=p
 exact⟨o,(sb.2 l ne).trans e,r⟩
theorem ft {z TI TO i1 i2 l1 l2:Addr}{k1 k2:Nat}{xs ys:Array Value}{x y a b:Value} (D:ZipApart z TI TO i1 i2 l1 l2) (hz:IsZip s.heap z TI TO .none) (hTI:IsPair s.heap TI (.ref i1) (.ref i2)) (hTO:IsPair s.heap TO a b)
  (h1:s.heap.IsTupleIter i1 l1 k1) (h2:s.heap.IsTupleIter i2 l2 k2) (p1:s.heap.IsTuple l1 xs) (p2:s.heap.IsTuple l2 ys) (hx:xs[k1]?=some x) (hy:ys[k2]?=some y)
  (h:∀ h',IsZip h' z TI TO (rawInt s.heap.objs.size)->IsPair h' TO x y->h'.IsTupleIter i1 l1 (k1+1)->h'.IsTupleIter i2 l2 (k2+1)->IsPair h' s.heap.objs.size x y->h'.objs.size=s.heap.objs.size+1 ->
   (∀ c o,c≠z->c≠TO->c≠i1->c≠i2->s.heap.get? c=some o->h'.get? c=some o)->Q (.ref s.heap.objs.size) { s with heap:=h' }) :
  wpAny (model prog w) A (Builtin.«zip.__next__» { pos:=[.ref z] }) (fun fin s'=>∃ v,fin=Fin.done (.ret v)/\Q v s') E s:=by
 unfold Builtin.«zip.__next__»
 refine wpAny_bind (wpAny_of_eq (a:=(Value.ref z,[])) rfl ?_)
 dsimp only
 refine wpAny_bind (wpAny_field (x:=.bool false) hz rfl rfl ?_)
 refine wpAny_bind (wpAny_field (x:=.ref TI) hz rfl rfl ?_)
 refine wpAny_bind (wpAny_seqItems hTI rfl ?_)
 dsimp only
 rw[if_neg (by simp)]
 refine wpAny_bind ?_
 unfold Builtin.SmallTypes.ownedTupleIsFree
 refine wpAny_bind (wpAny_field (x:=.none) hz rfl rfl (wpAny_pure ?_))
 rw[if_pos rfl]
 refine wpAny_bind (wpAny_rule ?_)
 refine wpAny_bind (wpAny_field (x:=.ref TO) hz rfl rfl ?_)
 refine wpAny_bind (wpAny_setField_rec hz (by simp) fun h₁ hz₁ hs₁=>?_)
 refine wpAny_bind ?_
 show wpAny _ _ (forIn [(Value.ref i1,0),(Value.ref i2,1)] (none,()) _) _ _ _
 rw[List.forIn_cons]
 refine wpAny_bind ?_
 refine wpAny_bind (wpAny_onRaise ?_)
 have ne1:(Value.bool false == Value.bool true)=true->False:=by decide
 refine wpAny_bind (bH (h1.extBut hs₁.extBut D.i1z) (dv p1 hs₁ D.l1z) hx fun h₂ g1 sb2=>?_)
 refine wpAny_pure ?_
 have hTO2:IsPair h₂ TO a b:=(sb2.2 _ D.TOi1).trans ((hs₁.2 _ D.TOz).trans hTO)
 refine wpAny_bind (wpAny_seqItems hTO2 rfl ?_)
 refine wpAny_bind (wpAny_updateSeq_pair hTO2 fun h₃ e3 sb3=>?_)
 refine wpAny_bind (wpAny_letGo ?_)
 refine wpAny_pure ?_
 dsimp only
 have hTO3:IsPair h₃ TO x b:=e3
 rw[List.forIn_cons]
 refine wpAny_bind ?_
 refine wpAny_bind (wpAny_onRaise ?_)
 have h2b:h₃.IsTupleIter i2 l2 k2:=((h2.extBut hs₁.extBut D.i2z).extBut sb2.extBut D.i12.symm).extBut sb3.extBut D.TOi2.symm
 refine wpAny_bind (bH h2b (dv (dv (dv p2 hs₁ D.l2z) sb2 D.l2i1) sb3 D.l2TO) hy fun h₄ g2 sb4=>?_)
 refine wpAny_pure ?_
 have hTO4:IsPair h₄ TO x b:=(sb4.2 _ D.TOi2).trans hTO3
 refine wpAny_bind (wpAny_seqItems hTO4 rfl ?_)
 refine wpAny_bind (wpAny_updateSeq_pair hTO4 fun h₅ e5 sb5=>?_)
 refine wpAny_bind (wpAny_letGo ?_)
 refine wpAny_pure ?_
 dsimp only
 have hTO5:IsPair h₅ TO x y:=e5
 rw[List.forIn_nil]
 refine wpAny_pure ?_
 dsimp only
 refine wpAny_bind (wpAny_seqItems hTO5 rfl ?_)
 dsimp only
 refine wpAny_bind (wpAny_newTuple ?_ (by simp[sizeLine_eq]))
 have sz:h₅.objs.size=s.heap.objs.size:=sb5.1.trans (sb4.1.trans (sb3.1.trans (sb2.1.trans hs₁.1)))
 have hz5:h₅.get? z=some { cls:=.type "zip",data:=.fields #[Value.ellipsis,.bool false,.bool false,.ref TI,.ref TO] } :=
  (sb5.2 _ D.TOz.symm).trans ((sb4.2 _ D.i2z.symm).trans ((sb3.2 _ D.TOz.symm).trans ((sb2.2 _ D.i1z.symm).trans hz₁)))
 have hz6:(h₅.push { cls:=.type "tuple",data:=.seq #[x,y] }).get? z=some { cls:=.type "zip",data:=.fields #[Value.ellipsis,.bool false,.bool false,.ref TI,.ref TO] }:=Heap.get?_push_of_some _ hz5
 unfold Builtin.SmallTypes.ownedTupleHandOut
 refine wpAny_bind (wpAny_bind (wpAny_setField_rec hz6 (by simp) fun h₇ e7 sb7=>?_))
 refine wpAny_setField_rec (k:=1) e7 (by simp) fun h₈ e8 sb8=>?_
 refine wpAny_pure ⟨_,U,?_⟩
 have szz:z<s.heap.objs.size:=Heap.lt_size hz
 have nz:s.heap.objs.size≠z:=Nat.ne_of_gt szz
 have pz:∀ c,c≠z->h₈.get? c=(h₅.push { cls:=.type "tuple",data:=.seq #[x,y] }).get? c:=fun c hc=>(sb8.2 c hc).trans (sb7.2 c hc)
 have old:∀ c o,c≠z->h₅.get? c=some o->h₈.get? c=some o:=fun c o hc e=>(pz c hc).trans (Heap.get?_push_of_some _ e)
 rw[show({ s with heap:=h₅ }:Shared).heap.objs.size=s.heap.objs.size from sz] at e8 ⊢
 refine h h₈ ?_ (old _ _ D.TOz hTO5) ?_ ?_ ?_ ?_ ?_
 ·exact e8
 ·exact(g1.at fun o e=>old _ _ D.i1z ((sb5.2 _ D.TOi1.symm).trans ((sb4.2 _ D.i12).trans ((sb3.2 _ D.TOi1.symm).trans e))))
 ·exact(g2.at fun o e=>old _ _ D.i2z ((sb5.2 _ D.TOi2.symm).trans e))
 ·have e9:(h₅.push { cls:=.type "tuple",data:=.seq #[x,y] }).get? h₅.objs.size=some { cls:=.type "tuple",data:=.seq #[x,y] }:=Heap.get?_push_size _ rfl
  have sz':h₅.objs.size=s.heap.objs.size:=sz
  rw[sz'] at e9
  exact(pz _ nz).trans e9
 ·rw[sb8.1,sb7.1,Heap.size_push]
  exact congrArg (· + 1) (show h₅.objs.size=s.heap.objs.size from sz)
 ·intro c o c1 c2 c3 c4 e
  exact old c o c1 ((sb5.2 c c2).trans ((sb4.2 c c4).trans ((sb3.2 c c2).trans ((sb2.2 c c3).trans ((hs₁.2 c c1).trans e)))))
theorem d4 {z TI TO i1 i2 l1 l2:Addr}{k1 k2:Nat}{xs ys:Array Value}{x y a b:Value}{Q:Option Value->Shared->Prop} (D:ZipApart z TI TO i1 i2 l1 l2) (hz:IsZip s.heap z TI TO .none) (hTI:IsPair s.heap TI (.ref i1) (.ref i2)) (hTO:IsPair s.heap TO a b)
  (h1:s.heap.IsTupleIter i1 l1 k1) (h2:s.heap.IsTupleIter i2 l2 k2) (p1:s.heap.IsTuple l1 xs) (p2:s.heap.IsTuple l2 ys) (hx:xs[k1]?=some x) (hy:ys[k2]?=some y)
  (h:∀ h',IsZip h' z TI TO (rawInt s.heap.objs.size)->IsPair h' TO x y->h'.IsTupleIter i1 l1 (k1+1)->h'.IsTupleIter i2 l2 (k2+1)->IsPair h' s.heap.objs.size x y->h'.objs.size=s.heap.objs.size+1 ->
   (∀ c o,c≠z->c≠TO->c≠i1->c≠i2->s.heap.get? c=some o->h'.get? c=some o)->Q (some (.ref s.heap.objs.size)) { s with heap:=h' }) :
  wpAny (model prog w) A (pyNext (.ref z)) Q E s:=by
 have tz:Shared.TypeIs s (.ref z) "zip":=⟨_,hz,U⟩
 unfold pyNext
 refine wpAny_bind (wpAny_attempt (wpAny_callSpecial?_slot tz F.slot_zip_next (wpAny_call_entry F.slot_zip_next tz F.entry_zip_next ?_ (F.args_zip_next_1 _))))
 refine ft D hz hTI hTO h1 h2 p1 p2 hx hy fun h' a1 a2 a3 a4 a5 a6 a7=>?_
 exact wpAny_pure (h h' a1 a2 a3 a4 a5 a6 a7)
theorem gi {z TI TO i1 i2 l1 l2:Addr}{k1 k2:Nat}{xs ys:Array Value}{a b:Value}{Q:PySem.Fin->Shared->Prop} (hh:A.handled=none) (D:ZipApart z TI TO i1 i2 l1 l2) (hz:IsZip s.heap z TI TO .none) (hTI:IsPair s.heap TI (.ref i1) (.ref i2)) (hTO:IsPair s.heap TO a b)
  (h1:s.heap.IsTupleIter i1 l1 k1) (h2:s.heap.IsTupleIter i2 l2 k2) (p1:s.heap.IsTuple l1 xs) (p2:s.heap.IsTuple l2 ys) (hxy:xs[k1]?=none∨ys[k2]?=none)
  (h:∀ h' e,(∀ c o,c≠z->c≠TO->c≠i1->c≠i2->s.heap.get? c=some o->h'.get? c=some o)->(∃ o,h'.get? e=some o/\o.cls=.type "StopIteration")->E (.ref e) { s with heap:=h' }) :
  wpAny (model prog w) A (Builtin.«zip.__next__» { pos:=[.ref z] }) Q E s:=by
 unfold Builtin.«zip.__next__»
 refine wpAny_bind (wpAny_of_eq (a:=(Value.ref z,[])) rfl ?_)
 dsimp only
 refine wpAny_bind (wpAny_field (x:=.bool false) hz rfl rfl ?_)
 refine wpAny_bind (wpAny_field (x:=.ref TI) hz rfl rfl ?_)
 refine wpAny_bind (wpAny_seqItems hTI rfl ?_)
 dsimp only
 rw[if_neg (by simp)]
 refine wpAny_bind ?_
 unfold Builtin.SmallTypes.ownedTupleIsFree
 refine wpAny_bind (wpAny_field (x:=.none) hz rfl rfl (wpAny_pure ?_))
 rw[if_pos rfl]
 refine wpAny_bind (wpAny_rule ?_)
 refine wpAny_bind (wpAny_field (x:=.ref TO) hz rfl rfl ?_)
 refine wpAny_bind (wpAny_setField_rec hz (by simp) fun h₁ hz₁ hs₁=>?_)
 refine wpAny_bind ?_
 show wpAny _ _ (forIn [(Value.ref i1,0),(Value.ref i2,1)] (none,()) _) _ _ _
 rw[List.forIn_cons]
 refine wpAny_bind ?_
 refine wpAny_bind (wpAny_onRaise ?_)
 have fin:∀ (g g':Heap) (e:Addr) (f0:Value),Heap.get? g z=some { cls:=.type "zip",data:=.fields #[f0,.bool false,.bool false,.ref TI,.ref TO] }->(∀ c o,c≠z->c≠TO->c≠i1->c≠i2->s.heap.get? c=some o->g.get? c=some o)->(∃ o,g.get? e=some o/\o.cls=.type "StopIteration") ->
   wpAny (model prog w) A (setField (.ref z) 0 .none) (fun _ s''=>E (.ref e) s'') E { s with heap:=g }:=fun g g' e f0 ez kk he=>by
  refine wpAny_setField_rec ez (by simp) fun g2 e2 sb2=>h g2 e (fun c o c1 c2 c3 c4 eo=>(sb2.2 c c1).trans (kk c o c1 c2 c3 c4 eo)) ?_
  obtain⟨o,eo,ec⟩:=he
  exact⟨o,(sb2.2 e (fun z'=>by rw[z',ez] at eo; cases eo; exact absurd (show Value.type "zip" = Value.type "StopIteration" from ec) (by decide +kernel))).trans eo,ec⟩
 cases hx:xs[k1]? with
 | none=>
  refine wpAny_bind (cy hh (h1.extBut hs₁.extBut D.i1z) (dv p1 hs₁ D.l1z) hx fun h₂ e sb2 he=>?_)
  exact fin h₂ h₂ e _ (sb2 _ _ D.i1z.symm hz₁) (fun c o c1 c2 c3 c4 eo=>sb2 _ _ c3 ((hs₁.2 c c1).trans eo)) he
 | some x=>
  have hy:ys[k2]?=none:=hxy.resolve_left (fun q=>by rw[hx] at q; cases q)
  refine wpAny_bind (bH (h1.extBut hs₁.extBut D.i1z) (dv p1 hs₁ D.l1z) hx fun h₂ g1 sb2=>?_)
  refine wpAny_pure ?_
  have hTO2:IsPair h₂ TO a b:=(sb2.2 _ D.TOi1).trans ((hs₁.2 _ D.TOz).trans hTO)
  refine wpAny_bind (wpAny_seqItems hTO2 rfl ?_)
  refine wpAny_bind (wpAny_updateSeq_pair hTO2 fun h₃ e3 sb3=>?_)
  refine wpAny_bind (wpAny_letGo ?_)
  refine wpAny_pure ?_
  dsimp only
  rw[List.forIn_cons]
  refine wpAny_bind ?_
  refine wpAny_bind (wpAny_onRaise ?_)
  have h2b:h₃.IsTupleIter i2 l2 k2:=((h2.extBut hs₁.extBut D.i2z).extBut sb2.extBut D.i12.symm).extBut sb3.extBut D.TOi2.symm
  refine wpAny_bind (cy hh h2b (dv (dv (dv p2 hs₁ D.l2z) sb2 D.l2i1) sb3 D.l2TO) hy fun h₄ e sb4 he=>?_)
  refine fin h₄ h₄ e _ (sb4 _ _ D.i2z.symm ((sb3.2 _ D.TOz.symm).trans ((sb2.2 _ D.i1z.symm).trans hz₁))) (fun c o c1 c2 c3 c4 eo=>sb4 _ _ c4 ((sb3.2 c c2).trans ((sb2.2 c c3).trans ((hs₁.2 c c1).trans eo)))) he
theorem eZ {z TI TO i1 i2 l1 l2:Addr}{k1 k2:Nat}{xs ys:Array Value}{a b:Value}{Q:Option Value->Shared->Prop} (hh:A.handled=none) (D:ZipApart z TI TO i1 i2 l1 l2) (hz:IsZip s.heap z TI TO .none) (hTI:IsPair s.heap TI (.ref i1) (.ref i2)) (hTO:IsPair s.heap TO a b)
  (h1:s.heap.IsTupleIter i1 l1 k1) (h2:s.heap.IsTupleIter i2 l2 k2) (p1:s.heap.IsTuple l1 xs) (p2:s.heap.IsTuple l2 ys) (hxy:xs[k1]?=none∨ys[k2]?=none)
  (h:∀ h',(∀ c o,c≠z->c≠TO->c≠i1->c≠i2->s.heap.get? c=some o->h'.get? c=some o)->Q none { s with heap:=h' }) :
  wpAny (model prog w) A (pyNext (.ref z)) Q E s:=by
 have tz:Shared.TypeIs s (.ref z) "zip":=⟨_,hz,U⟩
 unfold pyNext
 refine wpAny_bind (wpAny_attempt (wpAny_callSpecial?_slot tz F.slot_zip_next (wpAny_call_entry F.slot_zip_next tz F.entry_zip_next ?_ (F.args_zip_next_1 _))))
 refine gi hh D hz hTI hTO h1 h2 p1 p2 hxy fun h' e kk he=>?_
 obtain⟨o,eo,ec⟩:=he
 refine wpAny_bind (wpAny_isInstance (T := "StopIteration") ⟨o,eo,ec⟩ isSubtype_stop ?_)
 rw[if_pos rfl]
 exact wpAny_pure (h h' kk)
theorem kM {l1 l2:Addr}{xs ys:Array Value} (p1:s.heap.IsTuple l1 xs) (p2:s.heap.IsTuple l2 ys)
  (h:∀ h',IsZip h' (s.heap.objs.size+4) (s.heap.objs.size+2) (s.heap.objs.size+3) .none->IsPair h' (s.heap.objs.size+2) (.ref s.heap.objs.size) (.ref (s.heap.objs.size+1))->IsPair h' (s.heap.objs.size+3) .none .none ->
   h'.IsTupleIter s.heap.objs.size l1 0->h'.IsTupleIter (s.heap.objs.size+1) l2 0->h'.objs.size=s.heap.objs.size+5->(∀ c o,s.heap.get? c=some o->h'.get? c=some o)->Q (.ref (s.heap.objs.size+4)) { s with heap:=h' }) :
  wpAny (model prog w) A (call (.type "zip") [.ref l1,.ref l2]) Q E s:=by
 have hM:Meets (Builtin.«zip.__new__» { pos:=[.type "zip",.ref l1,.ref l2] }) (fun _ R s=>s.heap.IsTuple l1 xs/\s.heap.IsTuple l2 ys /\
   ∀ h',IsZip h' (s.heap.objs.size+4) (s.heap.objs.size+2) (s.heap.objs.size+3) .none->IsPair h' (s.heap.objs.size+2) (.ref s.heap.objs.size) (.ref (s.heap.objs.size+1))->IsPair h' (s.heap.objs.size+3) .none .none ->
   h'.IsTupleIter s.heap.objs.size l1 0->h'.IsTupleIter (s.heap.objs.size+1) l2 0->h'.objs.size=s.heap.objs.size+5->(∀ c o,s.heap.get? c=some o->h'.get? c=some o)->R (.ok (.ret (.ref (s.heap.objs.size+4)))) { s with heap:=h' }) :=
  .of_wp fun prog w A R s ⟨q1,q2,hq⟩=>by
   unfold Builtin.«zip.__new__»
   refine wpAny_bind ?_
   unfold Builtin.SmallTypes.newClass
   refine wpAny_bind (wpAny_of_eq (a:=true) rfl ?_)
   rw[if_neg (by decide)]
   refine wpAny_bind (wpAny_of_eq (a:=true) sub_zip ?_)
   rw[if_neg (by decide)]
   refine wpAny_pure ?_
   dsimp only
   rw[if_neg (by decide)]
   refine wpAny_bind ?_
   unfold Builtin.SmallTypes.iterAll
   refine wpAny_bind ?_
   rw[List.forIn_cons]
   refine wpAny_bind (wpAny_bind (wpAny_holding (wpAny_pyIter_tuple q1 (wpAny_pure ?_))))
   dsimp only
   rw[List.forIn_cons]
   have q2':(s.heap.push { cls:=.type "tuple_iterator",data:=.fields #[.ref l1,.int 0 0] }).IsTuple l2 ys:=by
    obtain⟨o,e,r⟩:=q2
    exact⟨o,Heap.get?_push_of_some _ e,r⟩
   refine wpAny_bind (wpAny_bind (wpAny_holding (wpAny_pyIter_tuple q2' (wpAny_pure ?_))))
   dsimp only
   rw[List.forIn_nil]
   refine wpAny_pure (wpAny_pure ?_)
   refine wpAny_bind (wpAny_newTuple ?_ (by simp[sizeLine_eq]))
   refine wpAny_bind (wpAny_newTuple ?_ (by simp[sizeLine_eq]))
   refine wpAny_bind ?_
   unfold Builtin.SmallTypes.newRecord
   refine wpAny_newObj_type ?_ (by simp[PySem.sizeOk,Builtin.SmallTypes.ownedTupleFields,sizeLine_eq])
   refine wpAny_pure ⟨_,U,?_⟩
   have n1:(s.heap.push { cls:=.type "tuple_iterator",data:=.fields #[.ref l1,.int 0 0] }).objs.size=s.heap.objs.size+1:=Heap.size_push _ _
   have n2:((s.heap.push { cls:=.type "tuple_iterator",data:=.fields #[.ref l1,.int 0 0] }).push { cls:=.type "tuple_iterator",data:=.fields #[.ref l2,.int 0 0] }).objs.size=s.heap.objs.size+2:=by rw[Heap.size_push,n1]
   generalize hg1:s.heap.push { cls:=.type "tuple_iterator",data:=.fields #[.ref l1,.int 0 0] }=g1 at *
   generalize hg2:g1.push { cls:=.type "tuple_iterator",data:=.fields #[.ref l2,.int 0 0] }=g2 at *
   show R (.ok (.ret (.ref ((g2.push { cls:=.type "tuple",data:=.seq #[.ref s.heap.objs.size,.ref g1.objs.size] }).push { cls:=.type "tuple",data:=.seq #[.none,.none] }).objs.size))) { s with heap:=((g2.push { cls:=.type "tuple",data:=.seq #[.ref s.heap.objs.size,.ref g1.objs.size] }).push { cls:=.type "tuple",data:=.seq #[.none,.none] }).push { cls:=.type "zip",data:=.fields #[.none,.bool false,.bool false,.ref g2.objs.size,.ref (g2.push { cls:=.type "tuple",data:=.seq #[.ref s.heap.objs.size,.ref g1.objs.size] }).objs.size] } }
   have n3:(g2.push { cls:=.type "tuple",data:=.seq #[.ref s.heap.objs.size,.ref g1.objs.size] }).objs.size=s.heap.objs.size+3:=by rw[Heap.size_push,n2]
   have i1:g1.get? s.heap.objs.size=some { cls:=.type "tuple_iterator",data:=.fields #[.ref l1,.int 0 0] }:=by rw[<- hg1]; exact Heap.get?_push_size _ rfl
   have i2:g2.get? (s.heap.objs.size+1)=some { cls:=.type "tuple_iterator",data:=.fields #[.ref l2,.int 0 0] }:=by rw[<- hg2,<- n1]; exact Heap.get?_push_size _ rfl
   have i1':g2.get? s.heap.objs.size=some { cls:=.type "tuple_iterator",data:=.fields #[.ref l1,.int 0 0] }:=by rw[<- hg2]; exact Heap.get?_push_of_some _ i1
   have k2:∀ c o,s.heap.get? c=some o->g2.get? c=some o:=fun c o e=>by rw[<- hg2,<- hg1]; exact Heap.get?_push_of_some _ (Heap.get?_push_of_some _ e)
   rw[n1]
   rw[n1] at n3
   generalize hg3:g2.push { cls:=.type "tuple",data:=.seq #[.ref s.heap.objs.size,.ref (s.heap.objs.size+1)] }=g3 at *
   have i3:g3.get? (s.heap.objs.size+2)=some { cls:=.type "tuple",data:=.seq #[.ref s.heap.objs.size,.ref (s.heap.objs.size+1)] }:=by rw[<- hg3,<- n2]; exact Heap.get?_push_size _ rfl
   have k3:∀ c o,g2.get? c=some o->g3.get? c=some o:=fun c o e=>by rw[<- hg3]; exact Heap.get?_push_of_some _ e
   have n4:(g3.push { cls:=.type "tuple",data:=.seq #[.none,.none] }).objs.size=s.heap.objs.size+4:=by rw[Heap.size_push,n3]
   generalize hg4:g3.push { cls:=.type "tuple",data:=.seq #[.none,.none] }=g4 at *
   have i4:g4.get? (s.heap.objs.size+3)=some { cls:=.type "tuple",data:=.seq #[.none,.none] }:=by rw[<- hg4,<- n3]; exact Heap.get?_push_size _ rfl
   have k4:∀ c o,g3.get? c=some o->g4.get? c=some o:=fun c o e=>by rw[<- hg4]; exact Heap.get?_push_of_some _ e
   rw[n2,n3,n4]
   have k5:∀ c o,g4.get? c=some o->(g4.push { cls:=.type "zip",data:=.fields #[.none,.bool false,.bool false,.ref (s.heap.objs.size+2),.ref (s.heap.objs.size+3)] }).get? c=some o:=fun c o e=>Heap.get?_push_of_some _ e
   refine hq _ ?_ (k5 _ _ (k4 _ _ i3)) (k5 _ _ i4) ⟨_,k5 _ _ (k4 _ _ (k3 _ _ i1')),U,U⟩ ⟨_,k5 _ _ (k4 _ _ (k3 _ _ i2)),U,U⟩ ?_ (fun c o e=>k5 _ _ (k4 _ _ (k3 _ _ (k2 _ _ e))))
   ·show Heap.get? _ (s.heap.objs.size+4)=_
    rw[<- n4]; exact Heap.get?_push_size _ rfl
   ·rw[Heap.size_push,n4]
 refine callType_new F.called_zip (by decide) (F.typeCall_zip_2 _ _) (F.newCall_zip_2 _ _) (fun obj=>F.args_object_init_3 _ _ _) F.entry_zip_new hM ⟨p1,p2,fun h' a1 a2 a3 a4 a5 a6 a7=>?_⟩
 exact⟨⟨_,a1,U⟩,h h' a1 a2 a3 a4 a5 a6 a7⟩
end
theorem jA {X:Cx}{pins:List (Addr×Obj)}{σ:St}{H:Hp}{s:Shared}{a b:Addr}{xs:List V} (I:Inv X pins σ H s) (f:c6 X pins H b) (q:SqT X.K H a xs):a≠b:=fun e=>by
 subst e
 rcases q with (q | ⟨o,q⟩) | ⟨o,its,n,hk,_⟩
 ·rw[f.1] at q; cases q
 ·rw[f.1] at q; cases q
 ·have hb:=I.ok.mod.kin a o hk
  rcases f.2.2.2.1 with hx | hx
  ·exact I.ok.noex a o hb hx
  ·exact absurd (Nat.lt_of_lt_of_le (Heap.lt_size hb) (Nat.le_trans I.ok.bsz hx)) (Nat.lt_irrefl _)
noncomputable def nC (K:PySem.W.Frag) (a b:Addr):It :=
 ⟨fun i H=>∃ xs x ys y,SqT K H a xs/\xs[i]?=some x/\SqT K H b ys/\ys[i]?=some y,
  fun i H v H'=>∃ p x y,v=.ref p/\H p=none/\H'=upd H p (.tup [x,y])/\(∀ xs,SqT K H a xs->xs[i]?=some x)/\∀ ys,SqT K H b ys->ys[i]?=some y,
  fun i H=>∃ xs ys,SqT K H a xs/\SqT K H b ys/\(xs.length<=i∨ys.length<=i)⟩
theorem j0 {P:Program}{w:World}{K:PySem.W.Frag}{es:List Expr} {x1} {pos:Pos} (a b z TI TO i1 i2:Addr):Turn P w K (.Tuple es x1 pos) (nC K a b) [z,TI,TO,i1,i2] z
  (fun i h=>IsZip h z TI TO .none/\IsPair h TI (.ref i1) (.ref i2)/\(∃ u v,IsPair h TO u v)/\h.IsTupleIter i1 a i/\h.IsTupleIter i2 b i/\TI≠TO/\i1≠i2) where
 mem:=by simp
 obj:=fun i h ⟨hz,hTI,⟨u,v,hTO⟩,h1,h2,_⟩ c hc=>by
  simp only[tX,ua,or_false] at hc
  rcases hc with rfl | rfl | rfl | rfl | rfl
  ·exact⟨_,hz,fun v q=>by cases (show Data.fields _=Data.cell v from q)⟩
  ·exact⟨_,hTI,fun v q=>by cases (show Data.seq _ _=Data.cell v from q)⟩
  ·exact⟨_,hTO,fun v q=>by cases (show Data.seq _ _=Data.cell v from q)⟩
  ·obtain⟨o,e,_,d⟩:=h1
   exact⟨o,e,fun v q=>by rw[d] at q; cases q⟩
  ·obtain⟨o,e,_,d⟩:=h2
   exact⟨o,e,fun v q=>by rw[d] at q; cases q⟩
 keep:=fun i h h' ⟨hz,hTI,⟨u,v,hTO⟩,h1,h2,n1,n2⟩ k=>⟨k z (by simp) _ hz,k TI (by simp) _ hTI,⟨u,v,k TO (by simp) _ hTO⟩,h1.at fun o e=>k i1 (by simp) o e,h2.at fun o e=>k i2 (by simp) o e,n1,n2⟩
 item:=by
  intro X hP hw hK hc i pins s σ H E I hf ⟨hz,hTI,⟨u,v,hTO⟩,h1,h2,n1,n2⟩ hg
  subst hP hw hK
  obtain⟨xs,x,ys,y,hqa,hx,hqb,hy⟩:=hg
  obtain⟨its,rv,p,hsz⟩:=I.tuple hqa
  obtain⟨jts,rw',p',hsz'⟩:=I.tuple hqb
  obtain⟨ux,hux,rux⟩:=rv.get hx
  obtain⟨uy,huy,ruy⟩:=rw'.get hy
  have D:ZipApart z TI TO i1 i2 a b:=by
   obtain⟨oa,ea,ca,_,_⟩:=p
   obtain⟨ob,eb,cb,_,_⟩:=p'
   obtain⟨o1,e1,c1,_⟩:=h1
   obtain⟨o2,e2,c2,_⟩:=h2
   have dz:∀ {c:Addr}{o:Obj}{T:String},s.heap.get? c=some o->o.cls=.type T->T ≠ "zip" -> c≠z:=fun e q n r=>by
    rw[r,hz] at e; cases e; cases q; exact n rfl
   have dT:∀ {c d:Addr}{o q:Obj}{T U:String},s.heap.get? c=some o->o.cls=.type T->s.heap.get? d=some q->q.cls=.type U->T≠U->c≠d:=fun e1 c1 e2 c2 n r=>by
    subst r; rw[e1] at e2; cases e2; rw[c1] at c2; cases c2; exact n rfl
   exact⟨dz hTI rfl (by decide),dz hTO rfl (by decide),dz e1 c1 (by decide),dz e2 c2 (by decide),n1,dT hTI rfl e1 c1 (by decide),dT hTI rfl e2 c2 (by decide),dT hTO rfl e1 c1 (by decide),dT hTO rfl e2 c2 (by decide),n2,
    dz ea ca (by decide),jA I (hf TO (by simp)) hqa,dT ea ca e1 c1 (by decide),dT ea ca e2 c2 (by decide),dz eb cb (by decide),jA I (hf TO (by simp)) hqb,dT eb cb e1 c1 (by decide),dT eb cb e2 c2 (by decide)⟩
  refine d4 D hz hTI hTO h1 h2 (show s.heap.IsTuple a its.toArray from p) (show s.heap.IsTuple b jts.toArray from p') (x:=ux) (y:=uy) (by simpa using hux) (by simpa using huy) fun h' a1 a2 a3 a4 a5 a6 hk=>?_
  refine⟨_,O,?_⟩
  refine wpAny_letOwnedTupleGo_zip (s:={ s with heap:=h' }) a1 fun h2' hz' hs'=>?_
  have lt:∀ b ∈ [z,TI,TO,i1,i2],b<s.heap.objs.size:=fun c hcm=>by
   simp only[tX,ua,or_false] at hcm
   rcases hcm with rfl | rfl | rfl | rfl | rfl
   ·exact Heap.lt_size hz
   ·exact Heap.lt_size hTI
   ·exact Heap.lt_size hTO
   ·obtain⟨o,e,_⟩:=h1; exact Heap.lt_size e
   ·obtain⟨o,e,_⟩:=h2; exact Heap.lt_size e
  have hTI2:IsPair h2' TI (.ref i1) (.ref i2):=hs'.extBut _ _ D.TIz (hk _ _ D.TIz D.TITO D.TIi1 D.TIi2 hTI)
  have hTO2:IsPair h2' TO ux uy:=hs'.extBut _ _ D.TOz a2
  have h12:h2'.IsTupleIter i1 a (i+1):=a3.extBut hs'.extBut D.i1z
  have h22:h2'.IsTupleIter i2 b (i+1):=a4.extBut hs'.extBut D.i2z
  have pz:s.heap.objs.size≠z:=Nat.ne_of_gt (Heap.lt_size hz)
  have hp2:IsPair h2' s.heap.objs.size ux uy:=hs'.extBut _ _ pz a5
  have kk:∀ c o,c ∉ [z,TI,TO,i1,i2]->s.heap.get? c=some o->h2'.get? c=some o:=fun c o hcm e=>by
   simp only[tX,ua,or_false,not_or] at hcm
   exact hs'.extBut _ _ hcm.1 (hk c o hcm.1 hcm.2.2.1 hcm.2.2.2.1 hcm.2.2.2.2 e)
  have I1:Inv X pins σ H { s with heap:=h2',toks:=s.toks }:=I.turnedL kk hf
  have fP:c6 X pins H s.heap.objs.size:=I.fpOk (Nat.le_refl _) (I.hok.fresh (Nat.le_refl _))
  have I2:Inv X pins σ (upd H s.heap.objs.size (.tup [x,y])) { s with heap:=h2',toks:=s.toks }:=by
   refine I1.track I.sz (fP.2.1) fP.2.2.2.2.1 fP.2.2.2.2.2 fP.1 ?_
   exact⟨(show 2<=sizeLine by decide),[ux,uy],.cons rux (.cons ruy .nil),⟨_,hp2,O,_,O⟩⟩
  refine⟨.ref s.heap.objs.size,_,I2,O,⟨_,x,y,O,fP.1,O,fun zs hzs=>by rw[I.tuple_inj hzs hqa]; exact hx,fun zs hzs=>by rw[I.tuple_inj hzs hqb]; exact hy⟩,⟨hz',hTI2,⟨_,_,hTO2⟩,h12,h22,n1,n2⟩,fun c hcm=>?_⟩
  rw[aH (Nat.ne_of_lt (lt c hcm))]
  exact(hf c hcm).1
 done:=by
  intro X hP hw hK hc i pins s σ H E I hf ⟨hz,hTI,⟨u,v,hTO⟩,h1,h2,n1,n2⟩ hg
  subst hP hw hK
  obtain⟨xs,ys,hqa,hqb,hend⟩:=hg
  obtain⟨its,rv,p,hsz⟩:=I.tuple hqa
  obtain⟨jts,rw',p',hsz'⟩:=I.tuple hqb
  have D:ZipApart z TI TO i1 i2 a b:=by
   obtain⟨oa,ea,ca,_,_⟩:=p
   obtain⟨ob,eb,cb,_,_⟩:=p'
   obtain⟨o1,e1,c1,_⟩:=h1
   obtain⟨o2,e2,c2,_⟩:=h2
   have dz:∀ {c:Addr}{o:Obj}{T:String},s.heap.get? c=some o->o.cls=.type T->T ≠ "zip" -> c≠z:=fun e q n r=>by
    rw[r,hz] at e; cases e; cases q; exact n rfl
   have dT:∀ {c d:Addr}{o q:Obj}{T U:String},s.heap.get? c=some o->o.cls=.type T->s.heap.get? d=some q->q.cls=.type U->T≠U->c≠d:=fun e1 c1 e2 c2 n r=>by
    subst r; rw[e1] at e2; cases e2; rw[c1] at c2; cases c2; exact n rfl
   exact⟨dz hTI rfl (by decide),dz hTO rfl (by decide),dz e1 c1 (by decide),dz e2 c2 (by decide),n1,dT hTI rfl e1 c1 (by decide),dT hTI rfl e2 c2 (by decide),dT hTO rfl e1 c1 (by decide),dT hTO rfl e2 c2 (by decide),n2,
    dz ea ca (by decide),jA I (hf TO (by simp)) hqa,dT ea ca e1 c1 (by decide),dT ea ca e2 c2 (by decide),dz eb cb (by decide),jA I (hf TO (by simp)) hqb,dT eb cb e1 c1 (by decide),dT eb cb e2 c2 (by decide)⟩
  have e1:=rv.length
  have e2:=rw'.length
  refine eZ (I.ok.hd hc) D hz hTI hTO h1 h2 (show s.heap.IsTuple a its.toArray from p) (show s.heap.IsTuple b jts.toArray from p') (k1:=i) (k2:=i) (by
   rcases hend with h | h
   ·left; simp; omega
   ·right; simp; omega) fun h' hk=>⟨O,?_⟩
  exact I.turnedL (t':=s.toks) (fun c o hcm e=>by
   simp only[tX,ua,or_false,not_or] at hcm
   exact hk c o hcm.1 hcm.2.2.1 hcm.2.2.2.1 hcm.2.2.2.2 e) hf
 self:=fun _ _ _ _ _ st h=>wpAny_pyIter_zip st.1 h
section
variable {X:Cx}
noncomputable def iZipT (K:PySem.W.Frag) (ta:TA):TI:=fun σ H R=>ta σ H fun vs H1=>∃ a b,vs=[.ref a,.ref b]/\(∃ xs,SqT K H1 a xs)/\(∃ ys,SqT K H1 b ys)/\R (nC K a b) H1
theorem lQ {es:List Expr} {x1} {tpos:Pos}{e1 e2:Expr}{ta:TA}{p pos:Pos} (hg:Gl X "zip") (hm:X.mg "zip" = none) (ha:PA X [e1,e2] ta) (hs:starEach [e1,e2] X.env=[(false,eval e1 X.env),(false,eval e2 X.env)]:=by rfl) (hs2:starEach [e2] X.env=[(false,eval e2 X.env)]:=by rfl) :
  PI X (.Tuple es x1 tpos) (.Call (.Name "zip" p) [e1,e2] [] pos) (iZipT X.K ta):=by
 intro pins s σ H R I h
 refine Call_ (cR I hg hm (by rfl) (PyProof.Rows.callWith_type1 (thn (ha pos pins s σ H _ I h) fun us s1 ⟨vs,H1,I1,r1,q1⟩=>?_) (by rw[hs,hs2]) (by rw[hs2]; rfl)))
 obtain⟨a,b,rfl,⟨xs,hqa⟩,⟨ys,hqb⟩,q⟩:=q1
 obtain⟨u1,u2,rfl,ru1,ru2⟩:=jw r1
 cases (show u1=Value.ref a from ru1)
 cases (show u2=Value.ref b from ru2)
 obtain⟨its,rv,pa,hsz⟩:=I1.tuple hqa
 obtain⟨jts,rw',pb,hsz'⟩:=I1.tuple hqb
 refine kM (show s1.heap.IsTuple a its.toArray from pa) (show s1.heap.IsTuple b jts.toArray from pb) fun h' hz hTI hTO h1 h2 hsize hk=>?_
 refine wpAny_pyIter_zip (s:={ s1 with heap:=h' }) hz ?_
 refine⟨_,_,_,_,H1,U,I1.kept (t':=s1.toks) hk,j0 a b (s1.heap.objs.size+4) (s1.heap.objs.size+2) (s1.heap.objs.size+3) s1.heap.objs.size (s1.heap.objs.size+1),⟨hz,hTI,⟨_,_,hTO⟩,h1,h2,(fun z=>by have:s1.heap.objs.size+2=s1.heap.objs.size+3:=z; omega),(fun z=>by have:s1.heap.objs.size=s1.heap.objs.size+1:=z; omega)⟩,fun c hc=>?_,q⟩
 have hge:s1.heap.objs.size<=c:=by
  simp only[tX,ua,or_false] at hc
  rcases hc with h | h | h | h | h <;> (rw[h]; omega)
 exact I1.fpOk hge (I1.hok.fresh hge)
end
noncomputable def jz:List Value->List Str->Bool
 | [],[]=>true
 | .str x _::vs,y::ys=>(x == y) && jz vs ys
 | _,_=>false
noncomputable def fA (get:Addr->Option Obj) (ss:List Str) (v:Value):Bool :=
 match v with
 | .ref b=>(match get b with
  | some o=>(o.cls == .type "tuple") && (match o.data with | .seq its _=>jz its.toList ss | _=>false)
  | none=>false)
 | _=>false
noncomputable abbrev rR (K:PySem.W.Frag) (a:Addr) (D:List (Str×List Str)):Prop:=KTD.tabLook (fA fun b=>K.lookup b) (fun b=>K.lookup b) a D=true
theorem eu:∀ {vs:List Value}{ss:List Str},jz vs ss=true->KTD.Flats vs (ss.map PyData.str)
 | [],[],_=>.nil
 | .str x t::vs,y::ys,h=>by
  have h:((x == y) && jz vs ys)=true:=h
  rw[Bool.and_eq_true] at h
  have e:x=y:=by simpa using h.1
  subst e
  exact .cons (.str x t) (eu h.2)
theorem fV:∀ {vs:List Value}{ss:List Str},KTD.Flats vs (ss.map PyData.str)->Vals (ss.map V.str) vs
 | _,[],h=>by cases h; exact .nil
 | _,y::ys,h=>by
  cases h with
  | cons f r=>exact .cons (PyProof.V.Flat.str_inv f) (fV r)
theorem gM:∀ {vs:List Value}{ds:List PyData},KTD.Flats vs ds->vs.length=ds.length
 | _,_,.nil=>rfl
 | _,_,.cons _ r=>by rw[t6,t6,gM r]
section
variable {X:Cx}{pins:List (Addr×Obj)}{σ:St}{H:Hp}{s:Shared}
noncomputable def fL (K:PySem.W.Frag) (h:Heap):Heap:=PySem.W.hideAll h ((List.range h.objs.size).filter fun b=>(K.lookup b).isNone)
theorem gH (kin:∀ a o,X.K.lookup a=some o->s.heap.get? a=some o) {a:Addr}{o:Obj} (h:X.K.lookup a=some o):(fL X.K s.heap).get? a=some o :=
 PySem.W.hideAll_get _ (kin a o h) fun hm=>by
  have:=(List.mem_filter.mp hm).2
  rw[h] at this; cases this
theorem lZ {a:Addr}{o:Obj} (kin:∀ a o,X.K.lookup a=some o->s.heap.get? a=some o) (h:(fL X.K s.heap).get? a=some o):X.K.lookup a=some o:=by
 have h1:s.heap.get? a=some o:=PySem.W.of_hideAll _ h
 cases hk:X.K.lookup a with
 | some o'=>rw[kin a o' hk] at h1; exact h1
 | none=>
  have:(fL X.K s.heap).get? a=none:=PySem.W.hideAll_none _ (List.mem_filter.mpr ⟨ug.mpr (Heap.lt_size h1),by rw[hk]; rfl⟩)
  rw[h] at this; cases this
theorem mI (kin:∀ a o,X.K.lookup a=some o->s.heap.get? a=some o) (ss:List Str) (v:Value) (h:fA (fun b=>X.K.lookup b) ss v=true):KTD.Dat.At (fL X.K s.heap) (.tup (ss.map PyData.str)) v:=by
 unfold fA at h
 split at h
 ·rename_i b
  split at h
  ·rename_i o ho
   rw[Bool.and_eq_true] at h
   obtain⟨h1,h2⟩:=h
   split at h2
   ·rename_i its n hd
    exact⟨b,its.toList,U,⟨o,gH kin ho,by simpa using h1,n,by simpa using hd⟩,eu h2⟩
   ·cases h2
  ·cases h
 ·cases h
theorem j5 (I:Inv X pins σ H s) {a:Addr}{D:List (Str×List Str)} (T:rR X.K a D):KTD.Here (fL X.K s.heap) s.heap a (D.map fun p=>(p.1,KTD.Dat.tup (p.2.map PyData.str))):=by
 have kin:∀ a o,X.K.lookup a=some o->s.heap.get? a=some o:=fun b o e=>I.kIn b o e
 obtain⟨h1,o,es,ep,h2,h3,h4,h5⟩:=KTD.tab_of_look (h:=fL X.K s.heap) (R:=fun(d:List Str) v=>KTD.Dat.At (fL X.K s.heap) (.tup (d.map PyData.str)) v) (fun d v h=>mI kin d v h) (fun b o e=>gH kin e) T
 exact⟨⟨h1,o,es,ep,h2,h3,h4,h5.mono (f:=fun d:List Str=>KTD.Dat.tup (d.map PyData.str)) (fun d v h=>h)⟩,fun b o e=>PySem.W.of_hideAll _ e⟩
theorem gO (k : Str) : ∀ D : List (Str×List Str), KTD.datumAt k (D.map fun p=>(p.1, KTD.Dat.tup (p.2.map PyData.str)))=(D.lookup k).map fun ss=>KTD.Dat.tup (ss.map PyData.str)
  | []=>rfl
  | (x, d) :: D => by
    rw[t5, KTD.datumAt, ud, gO k D]
    by_cases hk : k=x
    · subst hk; simp
    · have : (k == x)=false := beq_eq_false_iff_ne.mpr hk
      simp[hk, this]
noncomputable def tIxT (td ty:TE) (K:PySem.W.Frag):TE:=fun σ H Q=>td σ H fun x H1=>ty σ H1 fun y H2=>∃ k a D ss,x=V.ref a/\y=V.str k/\rR K a D/\D.lookup k=some ss/\ss.length<=1000/\∀ b,(∀ H3,SqT K H3 b (ss.map V.str))->Q (.ref b) H2
theorem qD {o i:Expr}{pos:Pos}{td ty:TE} (ho:PE X o td) (hi:PE X i ty) (hs:rT i):PE X (.Subscript o i pos) (tIxT td ty X.K):=by
 intro pins s σ H Q I h
 refine jy PySem.F.slot_dict_getitem.lookup hs (thn (ho pins s σ H _ I h) fun u s1 ⟨x,H1,I1,rx,q1⟩=>thn (hi pins s1 σ H1 _ I1 q1) fun iv s2 ⟨y,H2,I2,ry,k,a,D,ss,ex,ey,T,l,sb,q2⟩=>?_)
 subst ex ey
 obtain rfl:u=Value.ref a:=rx
 obtain⟨t,rfl⟩:=(show ∃ t,iv=Value.str k t from ry)
 have hT:=j5 I2 T
 refine⟨hT.typeIs,?_⟩
 have hat:KTD.datumAt k (D.map fun p=>(p.1,KTD.Dat.tup (p.2.map PyData.str)))=some (KTD.Dat.tup (ss.map PyData.str)):=by rw[gO,l]; rfl
 have hmem:KTD.inKeys k (D.map fun p=>(p.1,KTD.Dat.tup (p.2.map PyData.str)))=true:=by rw[<- KTD.isSome_datumAt,hat]; rfl
 unfold getItem
 try with_reducible refine wpAny_holding ?_
 refine wpAny_bind (wpAny_sequenceKey hT.typeIs (by decide) ?_)
 refine wpAny_bind (wpAny_callSpecial?_slot (name:=Str.ofString "__getitem__") hT.typeIs slot_dict_getitem
  (wpAny_call_entry slot_dict_getitem hT.typeIs entry_dict_getitem ?_ (args_dict_getitem _ _)))
 show wpAny _ _ (dictGet a (.str k t) >>= _) _ _ s2
 refine wpAny_bind (KTD.dictGet_text hT (fun d v ha hv=>wpAny_pure ⟨v,U,wpAny_pure ?_⟩) fun hn=>absurd hn (KTD.at_of_mem hmem))
 rw[hat] at ha
 cases ha
 obtain⟨b,vs,rfl,⟨ob,e1,e2,n,e3⟩,fl⟩:=hv
 have lv:vs.length=ss.length:=by have:=gM fl; rw[tP] at this; exact this
 exact⟨.ref b,H2,I2.tok _,U,q2 b fun _=>(.inr ⟨ob,vs.toArray,n,lZ (fun b o e=>I2.kIn b o e) e1,e2,e3,by rw[t0,lv]; exact Nat.le_of_lt (sizeOk (by omega)),by simpa using fV fl⟩)⟩
theorem mR {K:PySem.W.Frag}{a b:Addr}{xs ys:List V}{g:TG}{tb:TS}{D:Ends}{σ:St}{H:Hp} (hl:xs.length=ys.length) (Pv:Nat->St->Hp->Prop) (h0:Pv 0 σ H) (ha:∀ i σ H,i<=xs.length->Pv i σ H->SqT K H a xs/\SqT K H b ys)
  (hs:∀ i x y σ H p,xs[i]?=some x->ys[i]?=some y->Pv i σ H->H p=none->g (.ref p) σ (upd H p (.tup [x,y])) fun σ2 H2=>tb { D with nx:=Pv (i+1),ct:=Pv (i+1),bk:=D.nx } σ2 H2) (hd:∀ σ H,Pv xs.length σ H->D.nx σ H) :
  ∃ W:Nat->Nat->St->Hp->Prop,(∃ m,W 0 m σ H)/\∀ i m σ H,W i m σ H ->
   ((nC K a b).stop i H/\D.nx σ H)∨((nC K a b).go i H/\∃ N:St->Hp->Prop,(∀ σ' H',N σ' H'->∃ m',m'<m/\W (i+1) m' σ' H')/\∀ x H',(nC K a b).yld i H x H'->g x σ H' fun σ2 H2=>tb { D with nx:=N,ct:=N,bk:=D.nx } σ2 H2):=by
 refine⟨fun i m σ H=>m=xs.length - i/\i<=xs.length/\Pv i σ H,⟨_,U,Nat.zero_le _,h0⟩,?_⟩
 rintro i m σ H ⟨rfl,hi,hp⟩
 obtain⟨qa,qb⟩:=ha i σ H hi hp
 by_cases c:i<xs.length
 ·refine .inr ⟨⟨xs,xs[i],ys,ys[i]'(by omega),qa,tN c,qb,tN (by omega)⟩,Pv (i+1),fun σ' H' h'=>⟨_,by omega,U,by omega,h'⟩,?_⟩
  rintro v H' ⟨p,x,y,rfl,hpn,rfl,hx,hy⟩
  exact hs i x y σ H p (hx _ qa) (hy _ qb) hp hpn
 ·have e:i=xs.length:=by omega
  subst e
  exact .inl ⟨⟨xs,ys,qa,qb,.inl (Nat.le_refl _)⟩,hd σ H hp⟩
end
section
variable {X:Cx}
theorem iW:c7 X (.type "range") (fun xs H Q=>∃ i j:Int,xs=[.int i,.int j]/\∀ p,H p=none->Q (.ref p) (upd H p (.rng i j))):=by
 intro pins s σ H xs us Q I r h
 obtain⟨i,j,rfl,q⟩:=h
 obtain⟨u,u',rfl,⟨t,rfl⟩,⟨t',rfl⟩⟩:=jw r
 refine call_range_2 ⟨.ref s.heap.objs.size,_,I.laid (fun b o e=>Heap.get?_push_of_some _ e) (Nat.le_refl _) ?_,U,q _ (I.hok.fresh (Nat.le_refl _))⟩
 exact⟨_,_,_,Heap.get?_push_size _ rfl⟩
noncomputable def di (lo:Int) (n:Nat):List V:=(List.range n).map fun(i:Nat)=>V.int (lo+(i:Int))
theorem bW (lo:Int) (n:Nat):(di lo n).length=n:=by simp[di]
theorem kx {lo:Int}{n i:Nat} (h:i<n):(di lo n)[i]?=some (.int (lo+(i:Int))):=by simp[di,h]
theorem f7 (hc:X.calm=true):c7 X (.type "list") (fun xs H Q=>∃ p i j,xs=[.ref p]/\H p=some (.rng i j)/\0<=i/\i<=2 ^ 24/\0<=j/\j<=2 ^ 24/\∀ l,H l=none->Q (.ref l) (upd H l (.lst (di i (j - i).toNat)))):=by
 intro pins s σ H xs us Q I r h
 obtain⟨p,i0,j,rfl,hp,h2,h3,h0,h1,q⟩:=h
 obtain⟨u,rfl,ru⟩:=du r
 cases (show u=Value.ref p from ru)
 obtain⟨t,u,v,e⟩:=(show ObjOk X.prog X.w H s.heap p (.rng i0 j) from I.hok p _ hp)
 have sz:((j - i0).toNat:Nat)<=sizeLine:=by rw[sizeLine_eq]; omega
 refine call_list_range (n:=(j - i0).toNat) (I.ok.hd hc) e (small_one (by omega) (by omega) (by omega) (by omega)) (by rw[rangeSize_one]; split <;> omega) (by omega) fun h' tk acc c hk hS hi=>?_
 refine⟨.ref s.heap.objs.size,_,I.laid hk (Nat.le_refl _) ?_,U,q _ (I.hok.fresh (Nat.le_refl _))⟩
 refine⟨by rw[bW]; exact sz,acc.toList,c,gj (P:=fun i v=>∃ t,v=.int (i0+i*1) t) (by rw[bW,Array.length_toList]; exact hi.1) (fun i v e=>hi.2 i v (by simpa using e)) (fun i v x ⟨t,e⟩ ex=>?_),by simpa using hS⟩
 subst e
 have hlt:i<(j - i0).toNat:=by
  have:=(List.getElem?_eq_some_iff.mp ex).1
  rw[bW] at this; exact this
 rw[kx hlt] at ex
 cases ex
 exact⟨t,by congr 1; omega⟩
end
mutual
noncomputable def DV (K:PySem.W.Frag) (H:Hp):PyData->V->Prop
 | .none,v=>v=.non
 | .bool b,v=>v=.bl b
 | .int i,v=>v=.int i
 | .str x,v=>v=.str x
 | .list ds,v=>∃ (a:Addr) (xs:List V),v=.ref a/\SqL K H a xs/\DVs K H ds xs
 | .tuple ds,v=>∃ (a:Addr) (xs:List V),v=.ref a/\SqT K H a xs/\DVs K H ds xs
 | .dict _,_=>False
noncomputable def DVs (K:PySem.W.Frag) (H:Hp):List PyData->List V->Prop
 | [],xs=>xs=[]
 | d::ds,xs=>∃ v r,xs=v::r/\DV K H d v/\DVs K H ds r
end
section
variable {X:Cx}{pins:List (Addr×Obj)}{s:Shared}{σ:St}{H:Hp}
mutual
theorem DV.reads (I:Inv X pins σ H s):∀ (d:PyData) (v:V) (u:Value),DV X.K H d v->RelV v u->∃ as,Reads s.heap u d as
 | .none,v,u,h,r=>by
  unfold DV at h; subst h; cases (show u=Value.none from r); exact⟨[],.none⟩
 | .bool b,v,u,h,r=>by
  unfold DV at h; subst h; cases (show u=Value.bool b from r); exact⟨[],.bool b⟩
 | .int i,v,u,h,r=>by
  unfold DV at h; subst h; obtain⟨t,e⟩:=(show ∃ t,u=Value.int i t from r); subst e; exact⟨[],.int i t⟩
 | .str x,v,u,h,r=>by
  unfold DV at h; subst h; obtain⟨t,e⟩:=(show ∃ t,u=Value.str x t from r); subst e; exact⟨[],.str x t⟩
 | .list ds,v,u,h,r=>by
  unfold DV at h
  obtain⟨a,xs,rfl,hs,hd⟩:=h
  cases (show u=Value.ref a from r)
  obtain⟨its,r2,⟨o,n,e,c,d,dd⟩,hz⟩:=I.list hs
  obtain⟨as,ra⟩:=DVs.reads I ds xs its hd r2
  exact⟨a::as,.list e c dd (by simpa using ra)⟩
 | .tuple ds,v,u,h,r=>by
  unfold DV at h
  obtain⟨a,xs,rfl,hs,hd⟩:=h
  cases (show u=Value.ref a from r)
  obtain⟨its,r2,⟨o,e,c,n,dd⟩,hz⟩:=I.tuple hs
  obtain⟨as,ra⟩:=DVs.reads I ds xs its hd r2
  exact⟨as,.tuple e c dd (by simpa using ra)⟩
 | .dict _,v,u,h,r=>by unfold DV at h; exact h.elim
theorem DVs.reads (I:Inv X pins σ H s):∀ (ds:List PyData) (xs:List V) (us:List Value),DVs X.K H ds xs->Vals xs us->∃ as,ReadsAll s.heap us ds as
 | [],xs,us,h,r=>by
  unfold DVs at h; subst h; cases r; exact⟨[],.nil⟩
 | d::ds,xs,us,h,r=>by
  unfold DVs at h
  obtain⟨v,r',rfl,h1,h2⟩:=h
  cases r with
  | cons ru rs=>
   obtain⟨as,ra⟩:=DV.reads I d v _ h1 ru
   obtain⟨bs,rb⟩:=DVs.reads I ds r' _ h2 rs
   exact⟨as++bs,.cons ra rb⟩
end
end
noncomputable def CXr (P:Program) (w:World):CXT:=fun outer H s E e s'=>∃ (a:Addr) (C a0:Value) (H':Hp) (B:Heap),e=.ref a/\Heap.FlyingW B outer a C a0 s'.heap/\s'.os=s.os/\AllBare s'.gens/\Un (frs outer) [] H H' s.heap s'.heap /\
 (∀ b o,s.heap.get? b=some o->H b=none->b ∉ frs outer->B.get? b=some o)/\(∀ b o,s.heap.get? b=some o->b ∉ frs outer->∃ o',B.get? b=some o')/\HOk P w H' B/\E C (some a) H'
noncomputable abbrev TJ:=Str->St->Hp->VK->Prop
end L2
namespace L2
open PySem PySem.Spec PyProof.Rows PySem.Calls
noncomputable def ExcAt (x D:Addr) (h:Heap):Prop:=∃ o vs,h.get? x=some o/\o.cls=.ref D/\o.data=.fields vs
structure ExcCls (K:PySem.W.Frag) (D:Addr):Prop where
 ga:W.findIn K (.ref D) "__getattribute__" = some (some (.builtin "BaseException.__getattribute__"))
 gh:W.findIn K (.ref D) "__getattr__" = some none
 be:PySem.W.mroIn K D (.type "BaseException")=some true
 hd:W.hasDictIn K D=true
 at_:W.findIn K (.ref D) "__class__" = some (some (.builtin "object.__class__"))
 gt:PySem.W.specialIn K (.builtin "object.__class__") "__get__" = some (some (.builtin "getset_descriptor.__get__"))
 tk:PySem.W.takesIn K (.builtin "object.__class__")=some true
 ob:PySem.W.mroIn K D (.type "object")=some true
section
variable {K:PySem.W.Frag}{x D:Addr}
open PySem.W Builtin Builtin.ObjectAttr in
open PySem.W Builtin Builtin.ObjectAttr Builtin.Getset_descriptor in
open PySem.W Builtin Builtin.ObjectAttr in
open PySem.W Builtin Builtin.ObjectAttr in
open PySem.W Builtin Builtin.ObjectAttr in
end
end L2
namespace L2
open PySem PySem.Spec PyProof.Rows
structure Flt (P:Program) (w:World) (outer:List Env) (H:Hp) (s:Shared) (H':Hp) (B h:Heap):Prop where
 stays:B.StaysIn h
 frames:h.FunFrames B outer
 slot:∀ b o,s.heap.get? b=some o->H b=none->b ∈ frs outer->∃ sl,h.get? b=some { o with slots:=sl }
 free:∀ b o,s.heap.get? b=some o->H b=none->H' b=none
 tups:∀ b xs,H b=some (.tup xs)->H' b=some (.tup xs)
 frzs:∀ b o u,H b=some (.frz o u)->H' b=some (.frz o u)
 tbls:∀ b ps,H b=some (.tbl ps)->∃ more,H' b=some (.tbl (ps++more))
 kb:∀ b o,s.heap.get? b=some o->H b=none->b ∉ frs outer->B.get? b=some o
 tb:∀ b o,s.heap.get? b=some o->b ∉ frs outer->∃ o',B.get? b=some o'
 hok:HOk P w H' B
noncomputable abbrev Cx.marked (X:Cx) (e:Addr):Cx:={ X with A:=X.A.mark (some (.ref e)),calm:=false,xe:=fun _ _=>False }
structure RoomQ (k:Nat) (A:Around):Prop where
 dp:A.depth+3*k+5<recursionLimit
 un:A.units+16*k+200<cLine
structure FnOkQ (P:Program) (w:World) (K:PySem.W.Frag) (mg:Str->Option Value) (base:Heap) (k:Nat) (f:Addr) (fd:FuncData) (ps:List Str) (sp:Sp):Prop where
 len:∀ vs H Q E,sp vs H Q E->vs.length=ps.length
 run:∀ (A:Around) (outer:List Env) (s:Shared) (H:Hp) (args:Args) (us:List Value) (vs:List V) (Q:VK) (E:XK),RoomQ k A->Env0 P w K mg base A outer s H->BindsTo s fd args (ps.zip us)->Vals vs us->sp vs H Q E ->
  codeAny (model P w) A (.call (.ref f) args) (CR CX0 outer P w H s Q E) s
structure Deed (P:Program) (w:World) (K:PySem.W.Frag) (mg:Str->Option Value) (base:Heap) (k:Nat) (s:Shared) (H:Hp) (outer:List Env) (g:Addr) (sp:Hp->VK->XK->Prop):Prop where
 fn:PySem.W.FnAt g s.heap
 un:H g=none
 nf:g ∉ frs outer
 run:∀ (A':Around) (outer':List Env) (s':Shared) (H':Hp) (Q:VK) (E:XK),Room k A'->Env0 P w K mg base A' outer' s' H' ->
  (∀ b o,s.heap.get? b=some o->H b=none->b ∉ frs outer->s'.heap.get? b=some o/\H' b=none)->(∀ b o u,H b=some (.frz o u)->H' b=some (.frz o u))->sp H' Q E->codeAny (model P w) A' (.call (.ref g) ⟨[],[]⟩) (CR (CXr P w) outer' P w H' s' Q E) s'
structure LamAt (h:Heap) (H:Hp) (fs:List Addr) (N:List Str) (σ:St) (qual:Str) (params:Arguments) (body:Expr) (scope:Scope) (cl:List (Str×Addr)) (g c':Addr):Prop where
 fn:∃ pm ctv,h.get? g=some (PySem.W.kla_obj "<lambda>" qual params body scope cl pm c' ctv)
 gn:H g=none/\g ∉ fs
 code:∃ o vs t,H c'=some (.frz o (.own 0))/\o.data=.fields vs/\vs[1]?=some (.str qual t)
 cells:∀ x c,cl.lookup x=some c->(∃ v,h.IsCell c v)/\H c=none/\c ∉ fs
 vals:∀ (i:Nat) (x:Str) (v:V),N[i]?=some x->σ[i]?=some (some v)->∃ u c,RelV v u/\cl.lookup x=some c/\h.IsCell c (some u)
structure RefOk (P:Program) (w:World) (K:PySem.W.Frag) (mg:Str->Option Value) (base:Heap) (k kd:Nat) (f:Addr) (rs:(Hp->VK->XK->Prop)->Hp->VK->Prop):Prop where
 run:∀ (A:Around) (outer:List Env) (s:Shared) (H:Hp) (g:Addr) (spD:Hp->VK->XK->Prop) (Q:VK),Room k A->Env0 P w K mg base A outer s H->Deed P w K mg base kd s H outer g spD->rs spD H Q ->
  codeAny (model P w) A (.call (.ref f) ⟨[.ref g],[]⟩) (CR CX0 outer P w H s Q E0) s
noncomputable def jZ (i:Int):Prop:=i.natAbs.log2<1920
noncomputable def Asc (n:Nat) (y:Str):Prop:=y.length<=n/\∀ c ∈ y.cps.toList,c<128
noncomputable def tCut (t:TS):TS:=fun D σ H=>∃ Pn:St->Hp->Prop,t { D with nx:=Pn } σ H/\∀ σ' H',Pn σ' H'->D.nx σ' H'
theorem g8 {X:Cx}{st:Stmt}{t:TS} (h:PS X st t):PS X st (tCut t):=by
 intro pins s σ H D I ⟨Pn,ht,hn⟩
 refine thn (h pins s σ H { D with nx:=Pn } I ht) fun f s1 q=>?_
 cases f with
 | next=>obtain⟨σ',H',I',q⟩:=q; exact⟨σ',H',I',hn _ _ q⟩
 | ret v=>exact q
 | brk=>exact q
 | cont=>exact q
structure Tb (L:Kn) (Pt:Addr) (qual:Str):Prop where
 ex:∃ ps:Array Value,(Pt,HO.tbl ps) ∈ L/\TriplesOk ps.toList/\∀ pos,codeAmong pos ps.toList=none∨∃ (c':Addr) (oc:Obj) (vs:Array Value) (t:Tok),codeAmong pos ps.toList=some (.ref c')/\(c',HO.frz oc (.own 0)) ∈ L/\oc.data=.fields vs/\vs[1]?=some (.str qual t)
noncomputable def SqB (b:Bool) (K:PySem.W.Frag) (H:Hp) (a:Addr) (xs:List V):Prop:=match b with | true=>SqL K H a xs | false=>SqT K H a xs
noncomputable def ItB (b:Bool) (K:PySem.W.Frag) (a:Addr):It:=match b with | true=>Itl K a | false=>Itt K a
noncomputable def nT (n:Int):Str:=Str.ofString (toString n)
section
variable {X:Cx}{pins:List (Addr×Obj)}{σ:St}{H:Hp}{s:Shared}
theorem Inv.thaw {p:Addr}{ob:Obj}{u:HO} (I:Inv X pins σ H s) (e:H p=some (.frz ob u)) (hn:∀ o v,X.H₀ p≠some (.frz o v)) (hu:∀ xs,u≠.tup xs):Inv X pins σ (upd H p u) s:=by
 obtain⟨_,ok⟩:=(show s.heap.get? p=some ob/\ObjOk X.prog X.w H s.heap p u from I.hok p _ e)
 have np:∀ b,H b=none->b≠p:=fun b q z=>by rw[z,e] at q; cases q
 refine⟨I.ok,I.os,I.bare,⟨I.base.keep,I.base.slot,fun b ob e2 n hx=>?_,I.base.there,fun b xs e2=>?_,fun b ob2 u2 e2=>?_,fun b ps e2=>?_⟩,I.loc,I.cell,by rw[aH (fun z=>np _ I.free z)]; exact I.free,fun x c q=>by rw[aH (np c (I.freeC x c q))]; exact I.freeC x c q,fun q hq=>?_,fun b u2 e2=>?_,I.len⟩
 ·have:=I.base.free b ob e2 n hx
  rw[aH (np b this)]; exact this
 ·have:=I.base.tups b xs e2
  rw[aH (fun z=>by rw[z,e] at this; cases this)]; exact this
 ·have:=I.base.frzs b ob2 u2 e2
  rw[aH (fun z=>by rw[z] at e2; exact hn _ _ e2)]; exact this
 ·obtain⟨more,e3⟩:=I.base.tbls b ps e2
  exact⟨more,by rw[aH (fun z=>by rw[z,e] at e3; cases e3)]; exact e3⟩
 ·obtain⟨a1,a2,a3,a4,a5⟩:=I.pin q hq
  exact⟨a1,by rw[aH (np _ a2)]; exact a2,a3,a4,a5⟩
 ·have own:∀ c y,H c=some (.own y)->upd H p u c=some (.own y):=fun c y q=>by rw[aH (fun z=>by rw[z,e] at q; cases q)]; exact q
  have tup:∀ c xs,H c=some (.tup xs)->upd H p u c=some (.tup xs):=fun c xs q=>by rw[aH (fun z=>by rw[z,e] at q; cases q)]; exact q
  by_cases hb:b=p
  ·subst hb; rw[bF] at e2; cases e2
   exact ok.stay (fun _ _ _ q=>q) (fun c q=>own c _ q) fun c xs q=>tup c xs q
  ·rw[aH hb] at e2
   exact(I.hok b u2 e2).stay (fun _ _ _ q=>q) (fun c q=>own c _ q) fun c xs q=>tup c xs q
theorem Inv.unfrz {p:Addr}{u:HO} (I:Inv X pins σ H s) (e:H p=some u) (hu:∀ o v,u≠.frz o v):∀ o v,X.H₀ p≠some (.frz o v):=fun o v q=>by
 have:=I.base.frzs p o v q
 rw[e] at this
 cases this
 exact hu o v rfl
end
theorem fW:entryFor table "dict_itemiterator.__iter__" = some Builtin.«dict_keyiterator.__iter__» :=
 entryFor_alias (id' := "dict_keyiterator.__iter__") (by kernel_rfl) rfl (by decide +kernel) (by kernel_rfl)
end L2
namespace L2
open PySem PySem.Spec PyProof.Rows
noncomputable def Itv (K:PySem.W.Frag) (a:Addr) (n:Nat):It :=
 ⟨fun i H=>i<n/\∃ xs x,SqL K H a xs/\xs[n - 1 - i]?=some x,fun i H x H'=>H'=H/\∀ xs,SqL K H a xs->xs[n - 1 - i]?=some x,fun i _=>i=n⟩
theorem kY {P:Program}{w:World}{K:PySem.W.Frag}{tg:Expr} (a it:Addr) (n:Nat):Turn P w K tg (Itv K a n) [it] it (fun i h=>h.IsRevIter it a ((n:Int) - 1 - i)) where
 mem:=by simp
 obj:=fun i h st b hb=>by
  have e:b=it:=by simpa using hb
  subst e
  obtain⟨o,e,c,d⟩:=st
  exact⟨o,e,fun v z=>by rw[d] at z; cases z⟩
 keep:=fun i h h' st k=>st.at fun o e=>k it (by simp) o e
 item:=by
  intro X hP hw hK hc i pins s σ H E I hf st hg
  subst hP hw hK
  obtain⟨hi,xs,x,hq,hx⟩:=hg
  obtain⟨its,rv,p,hz⟩:=I.list hq
  obtain⟨u,hu,ru⟩:=rv.get hx
  obtain⟨f0,f1,f2,f3,f4,f5⟩:=hf it (by simp)
  have e1:(n:Int) - 1 - i=((n - 1 - i:Nat):Int):=by omega
  have e2:((n - 1 - i:Nat):Int) - 1=(n:Int) - 1 - ((i+1:Nat):Int):=by omega
  rw[e1] at st
  refine wpAny_pyNext_rev_item st p.isList (x:=u) (by simpa using hu) fun h' st' sb=>?_
  rw[e2] at st'
  have I1:Inv X pins σ H { s with heap:=h' }:=I.turned (t':=s.toks) (fun b o hb e=>(sb.2 b hb).trans e) f0 f1 f3 f4 f5
  obtain⟨o,e,c,d⟩:=id st'
  exact⟨u,U,jQ (s:={ s with heap:=h' }) e c d (by decide) ⟨x,H,I1,ru,⟨U,fun ys hy=>by rw[I.list_inj hy hq]; exact hx⟩,st',fun b hb=>(hf b hb).1⟩⟩
 done:=by
  intro X hP hw hK hc i pins s σ H E I hf st hg
  subst hP hw hK
  obtain⟨f0,f1,f2,f3,f4,f5⟩:=hf it (by simp)
  have hg:i=n:=hg
  rw[show(n:Int) - 1 - i = -1 by omega] at st
  exact wpAny_pyNext_rev_end (I.ok.hd hc) st fun h' eb=>⟨U,I.turned (t':=s.toks) (fun b o hb e=>eb b o hb e) f0 f1 f3 f4 f5⟩
 self:=fun _ _ _ _ _ st h=>wpAny_pyIter_revIter st h
section
variable {X:Cx}
noncomputable def iRev (K:PySem.W.Frag) (ta:TA):TI:=fun σ H R=>ta σ H fun vs H1=>∃ a xs,vs=[.ref a]/\SqL K H1 a xs/\R (Itv K a xs.length) H1
theorem qA {tg:Expr}{e1:Expr}{ta:TA}{p pos:Pos} (hg:Gl X "reversed") (hm:X.mg "reversed" = none) (ha:PA X [e1] ta) (hs:starEach [e1] X.env=[(false,eval e1 X.env)]:=by rfl) :
  PI X tg (.Call (.Name "reversed" p) [e1] [] pos) (iRev X.K ta):=by
 intro pins s σ H R I h
 refine Call_ (cR I hg hm (by rfl) (PyProof.Rows.callWith_type1 (thn (ha pos pins s σ H _ I h) fun us s1 ⟨vs,H1,I1,r1,q1⟩=>?_) hs rfl))
 obtain⟨a,xs,rfl,hqa,q⟩:=q1
 obtain⟨u1,rfl,ru1⟩:=du r1
 cases (show u1=Value.ref a from ru1)
 obtain⟨its,rv,pa,hsz⟩:=I1.list hqa
 have hl:=rv.length
 refine call_reversed_list pa.isList ?_
 have st:(s1.heap.push (revObj a ((its.toArray.size:Int) - 1))).IsRevIter s1.heap.objs.size a ((xs.length:Int) - 1 - (0:Nat)):=by
  rw[show((xs.length:Int) - 1 - (0:Nat))=(its.toArray.size:Int) - 1 by rw[t0]; omega]
  exact⟨_,Heap.get?_push_size _ rfl,U,U⟩
 refine wpAny_pyIter_revIter (s:={ s1 with heap:=s1.heap.push (revObj a ((its.toArray.size:Int) - 1)) }) st ?_
 refine⟨s1.heap.objs.size,[s1.heap.objs.size],_,_,H1,U,I1.kept (t':=s1.toks) fun b o e=>Heap.get?_push_of_some _ e,kY a _ xs.length,st,fun b hb=>?_,q⟩
 have e:b=s1.heap.objs.size:=by simpa using hb
 subst e
 exact I1.fpOk (Nat.le_refl _) (I1.hok.fresh (Nat.le_refl _))
end
theorem oh {K:PySem.W.Frag}{a:Addr}{xs:List V}{g:TG}{tb:TS}{D:Ends}{σ:St}{H:Hp} (Pv:Nat->St->Hp->Prop) (h0:Pv 0 σ H) (hl:∀ i σ H,i<=xs.length->Pv i σ H->SqL K H a xs)
  (hs:∀ i x σ H,i<xs.length->xs[xs.length - 1 - i]?=some x->Pv i σ H->g x σ H fun σ2 H2=>tb { D with nx:=Pv (i+1),ct:=Pv (i+1),bk:=D.nx } σ2 H2) (hd:∀ σ H,Pv xs.length σ H->D.nx σ H) :
  ∃ W:Nat->Nat->St->Hp->Prop,(∃ m,W 0 m σ H)/\∀ i m σ H,W i m σ H ->
   ((Itv K a xs.length).stop i H/\D.nx σ H)∨((Itv K a xs.length).go i H/\∃ N:St->Hp->Prop,(∀ σ' H',N σ' H'->∃ m',m'<m/\W (i+1) m' σ' H')/\∀ x H',(Itv K a xs.length).yld i H x H'->g x σ H' fun σ2 H2=>tb { D with nx:=N,ct:=N,bk:=D.nx } σ2 H2):=by
 refine⟨fun i m σ H=>m=xs.length - i/\i<=xs.length/\Pv i σ H,⟨xs.length,by simp,Nat.zero_le _,h0⟩,?_⟩
 rintro i m σ H ⟨rfl,hi,p⟩
 have hq:=hl i σ H hi p
 by_cases hlt:i<xs.length
 ·refine .inr ⟨⟨hlt,xs,xs[xs.length - 1 - i]'(by omega),hq,tN (by omega)⟩,Pv (i+1),fun σ' H' p'=>⟨xs.length - (i+1),by omega,U,hlt,p'⟩,fun x H' y=>?_⟩
  obtain⟨rfl,hz⟩:=y
  exact hs i x σ H' hlt (hz xs hq) p
 ·have e:i=xs.length:=by omega
  exact .inl ⟨e,hd σ H (by rw[<- e]; exact p)⟩
end L2
set_option maxHeartbeats 4000000
namespace P
open PySem L2
noncomputable def top (i:Nat):Stmt:=PySem.Challenge.pw_lazyrails_k42_rows_without_calls.main.body.getD i (.Pass ⟨0,0,0,0⟩)
noncomputable abbrev lA:Stmt:=top 78
noncomputable abbrev jF:Stmt:=top 67
noncomputable abbrev lE:Stmt:=top 74
noncomputable abbrev jD:Stmt:=top 73
noncomputable abbrev oR:Stmt:=top 72
noncomputable abbrev iB:Stmt:=top 60
noncomputable abbrev pc:Stmt:=top 61
noncomputable abbrev sf:Stmt:=top 64
noncomputable abbrev oS:Stmt:=top 41
noncomputable abbrev jE:Stmt:=top 39
noncomputable abbrev sw:Stmt:=top 65
noncomputable abbrev s_Jh1:Stmt:=top 40
noncomputable abbrev oX:Stmt:=top 62
noncomputable abbrev o8:Stmt:=top 63
noncomputable abbrev jC:Stmt:=top 42
noncomputable abbrev oU:Stmt:=top 54
noncomputable abbrev jG:Stmt:=top 77
noncomputable abbrev lD:Stmt:=top 71
noncomputable abbrev rZ:Stmt:=top 69
noncomputable abbrev jB:Stmt:=top 68
noncomputable abbrev oT:Stmt:=top 70
noncomputable abbrev lx:Stmt:=top 76
noncomputable abbrev o7:Stmt:=top 37
noncomputable abbrev oQ:Stmt:=top 35
noncomputable abbrev se:Stmt:=top 33
noncomputable abbrev oW:Stmt:=top 30
noncomputable abbrev r9:Stmt:=top 27
noncomputable abbrev oV:Stmt:=top 25
noncomputable abbrev o6:Stmt:=top 26
noncomputable abbrev sq:Stmt:=top 28
noncomputable abbrev sI:Stmt:=top 31
noncomputable abbrev lC:Stmt:=top 75
noncomputable abbrev lB:Stmt:=top 34
noncomputable abbrev su:Stmt:=top 49
noncomputable abbrev so:Stmt:=top 29
noncomputable abbrev sk:Stmt:=top 47
noncomputable abbrev sH:Stmt:=top 48
noncomputable abbrev r8:Stmt:=top 51
noncomputable abbrev sG:Stmt:=top 50
noncomputable abbrev r6:Stmt:=aO (top 58) 0
noncomputable abbrev qt:Stmt:=aO (top 52) 0
noncomputable abbrev sS:Stmt:=aO (top 52) 6
noncomputable abbrev sA:Stmt:=aO (top 52) 3
noncomputable abbrev sQ:Stmt:=aO (top 52) 7
noncomputable abbrev sP:Stmt:=aO (top 52) 8
noncomputable abbrev sR:Stmt:=aO (top 52) 9
noncomputable abbrev nJ:Stmt:=aO (top 59) 0
noncomputable abbrev py:Stmt:=aO (top 56) 0
noncomputable abbrev o0:Stmt:=aO (top 56) 7
noncomputable abbrev sO:Stmt:=aO (top 56) 25
noncomputable abbrev sN:Stmt:=aO (top 56) 23
noncomputable abbrev sM:Stmt:=aO (top 56) 22
noncomputable abbrev sy:Stmt:=aO (top 56) 2
noncomputable abbrev px:Stmt:=aO (top 58) 1
noncomputable abbrev sF:Stmt:=aO (top 52) 1
noncomputable abbrev sK:Stmt:=aO (top 52) 2
noncomputable abbrev oZ:Stmt:=aO (top 56) 1
noncomputable abbrev sJ:Stmt:=aO (top 56) 24
noncomputable abbrev sx:Stmt:=aO (top 52) 4
noncomputable abbrev pw:Stmt:=aO (top 56) 4
noncomputable abbrev pq:Stmt:=aO (top 59) 1
noncomputable abbrev sD:Stmt:=aO (top 58) 4
noncomputable abbrev sC:Stmt:=aO (top 58) 3
noncomputable abbrev sB:Stmt:=aO (top 58) 2
noncomputable abbrev sr:Stmt:=aO (top 56) 19
noncomputable abbrev sj:Stmt:=aO (top 56) 20
noncomputable abbrev si:Stmt:=aO (top 58) 6
noncomputable abbrev pj:Stmt:=aO (top 56) 17
noncomputable abbrev ph:Stmt:=aO (top 58) 5
noncomputable abbrev sg:Stmt:=aO (top 56) 9
noncomputable abbrev pf:Stmt:=aO (top 56) 14
noncomputable abbrev pe:Stmt:=aO (top 56) 18
noncomputable abbrev oY:Stmt:=aO (top 56) 16
set_option genInjectivity false in
set_option genSizeOf false in
structure Adr where
 f_law:Addr
 d_law:FuncData
 v_law:Value
 f_draws:Addr
 d_draws:FuncData
 f_Jf1:Addr
 d_Jf1:FuncData
 f_parts:Addr
 d_parts:FuncData
 f_row:Addr
 d_row:FuncData
 f_Jg1:Addr
 d_Jg1:FuncData
 f_J81:Addr
 d_J81:FuncData
 f_Ju:Addr
 d_Ju:FuncData
 f_fan:Addr
 d_fan:FuncData
 f_merge:Addr
 d_merge:FuncData
 f_Jl:Addr
 d_Jl:FuncData
 f_Jh1:Addr
 d_Jh1:FuncData
 f_Ji1:Addr
 d_Ji1:FuncData
 f_J91:Addr
 d_J91:FuncData
 f_tally:Addr
 d_tally:FuncData
 f_Jm1:Addr
 d_Jm1:FuncData
 f_Jj1:Addr
 d_Jj1:FuncData
 f_Jn1:Addr
 d_Jn1:FuncData
 f_is:Addr
 d_is:FuncData
 f_whole:Addr
 d_whole:FuncData
 f_Jo1:Addr
 d_Jo1:FuncData
 f_next:Addr
 d_next:FuncData
 f_Ja1:Addr
 d_Ja1:FuncData
 f_run:Addr
 d_run:FuncData
 f_Jv:Addr
 d_Jv:FuncData
 f_Jk1:Addr
 d_Jk1:FuncData
 f_Jw:Addr
 d_Jw:FuncData
 f_Jl1:Addr
 d_Jl1:FuncData
 f_Jb1:Addr
 d_Jb1:FuncData
 f_Jo:Addr
 d_Jo:FuncData
 f_Ja:Addr
 d_Ja:FuncData
 f_Jp1:Addr
 d_Jp1:FuncData
 f_held:Addr
 d_held:FuncData
 f_Jm:Addr
 d_Jm:FuncData
 f_Jp:Addr
 d_Jp:FuncData
 f_Jq:Addr
 d_Jq:FuncData
 f_Jb:Addr
 d_Jb:FuncData
 f_Jx:Addr
 d_Jx:FuncData
 f_Jc:Addr
 d_Jc:FuncData
 f_Jy:Addr
 d_Jy:FuncData
 f_Jh:Addr
 d_Jh:FuncData
 f_J0:Addr
 d_J0:FuncData
 f_Ji:Addr
 d_Ji:FuncData
 f_J2:Addr
 d_J2:FuncData
 f_J3:Addr
 d_J3:FuncData
 f_J1:Addr
 d_J1:FuncData
 f_Jz:Addr
 d_Jz:FuncData
 f_J01:Addr
 d_J01:FuncData
 f_Jc1:Addr
 d_Jc1:FuncData
 f_J5:Addr
 d_J5:FuncData
 f_J6:Addr
 d_J6:FuncData
 f_J7:Addr
 d_J7:FuncData
 f_Jj:Addr
 d_Jj:FuncData
 v_Jj:Value
 f_J11:Addr
 d_J11:FuncData
 f_Jd:Addr
 d_Jd:FuncData
 f_J8:Addr
 d_J8:FuncData
 f_Jd1:Addr
 d_Jd1:FuncData
 v_Jd1:Value
 f_J9:Addr
 d_J9:FuncData
 f_Jk:Addr
 d_Jk:FuncData
 f_J21:Addr
 d_J21:FuncData
 f_J31:Addr
 d_J31:FuncData
 f_Je:Addr
 d_Je:FuncData
 f_Jf:Addr
 d_Jf:FuncData
 f_Jg:Addr
 d_Jg:FuncData
 f_Jn:Addr
 d_Jn:FuncData
 f_Jr:Addr
 d_Jr:FuncData
 f_Js:Addr
 d_Js:FuncData
 f_J41:Addr
 d_J41:FuncData
 f_J51:Addr
 d_J51:FuncData
 f_Jt:Addr
 d_Jt:FuncData
 f_J61:Addr
 d_J61:FuncData
 f_J71:Addr
 d_J71:FuncData
 f_Je1:Addr
 d_Je1:FuncData
 c_Laid:Addr
 c_Program:Addr
 c_Ways:Addr
 c_Yard:Addr
 u_ENDS:Value
 u_LAST_NOTE:Value
 u_LAST_WORDS:Value
 u_PARTS:Value
 u_POINTS:Value
 u_STEM:Value
 u_WIDEST:Value
structure Txt (K:PySem.W.Frag) (mg:Str->Option Value) (t:Adr):Prop where
 F_law:FunG K "law" "law" lA t.v_law t.f_law t.d_law
 F_draws:FunG K "_law_draws" "_law_draws" jF .none t.f_draws t.d_draws
 F_Jf1:FunG K "_law_program" "_law_program" lE .none t.f_Jf1 t.d_Jf1
 F_parts:FunG K "_law_parts" "_law_parts" jD .none t.f_parts t.d_parts
 F_row:FunG K "_law_row" "_law_row" oR .none t.f_row t.d_row
 F_Jg1:FunG K "lay_out" "lay_out" iB .none t.f_Jg1 t.d_Jg1
 F_J81:FunG K "lay_ways" "lay_ways" pc .none t.f_J81 t.d_J81
 F_Ju:FunG K "lay_calls" "lay_calls" sf .none t.f_Ju t.d_Ju
 F_fan:FunG K "fan" "fan" oS .none t.f_fan t.d_fan
 F_merge:FunG K "merge" "merge" jE .none t.f_merge t.d_merge
 F_Jl:FunG K "lay_doorway" "lay_doorway" sw .none t.f_Jl t.d_Jl
 F_Jh1:FunG K "doorway" "doorway" s_Jh1 .none t.f_Jh1 t.d_Jh1
 F_Ji1:FunG K "lay_row" "lay_row" oX .none t.f_Ji1 t.d_Ji1
 F_J91:FunG K "lay_deed" "lay_deed" o8 .none t.f_J91 t.d_J91
 F_tally:FunG K "tally" "tally" jC .none t.f_tally t.d_tally
 F_Jm1:FunG K "onward" "onward" oU .none t.f_Jm1 t.d_Jm1
 F_Jj1:FunG K "_law_laid_is" "_law_laid_is" jG .none t.f_Jj1 t.d_Jj1
 F_Jn1:FunG K "_law_is_row" "_law_is_row" lD .none t.f_Jn1 t.d_Jn1
 F_is:FunG K "_law_is" "_law_is" rZ .none t.f_is t.d_is
 F_whole:FunG K "_law_whole" "_law_whole" jB .none t.f_whole t.d_whole
 F_Jo1:FunG K "_law_is_end" "_law_is_end" oT .none t.f_Jo1 t.d_Jo1
 F_next:FunG K "_law_next" "_law_next" lx .none t.f_next t.d_next
 F_Ja1:FunG K "next_row" "next_row" o7 .none t.f_Ja1 t.d_Ja1
 F_run:FunG K "run" "run" oQ .none t.f_run t.d_run
 F_Jv:FunG K "next_step" "next_step" se .none t.f_Jv t.d_Jv
 F_Jk1:FunG K "passage" "passage" oW .none t.f_Jk1 t.d_Jk1
 F_Jw:FunG K "check_end" "check_end" r9 .none t.f_Jw t.d_Jw
 F_Jl1:FunG K "ends_of" "ends_of" oV .none t.f_Jl1 t.d_Jl1
 F_Jb1:FunG K "is_point" "is_point" o6 .none t.f_Jb1 t.d_Jb1
 F_Jo:FunG K "check_side" "check_side" sq .none t.f_Jo t.d_Jo
 F_Ja:FunG K "point_passage" "point_passage" sI .none t.f_Ja t.d_Ja
 F_Jp1:FunG K "_law_copied" "_law_copied" lC .none t.f_Jp1 t.d_Jp1
 F_held:FunG K "held" "held" lB .none t.f_held t.d_held
 F_Jm:FunG K "check_width" "check_width" su .none t.f_Jm t.d_Jm
 F_Jp:FunG K "check_note" "check_note" so .none t.f_Jp t.d_Jp
 F_Jq:FunG K "check_mark" "check_mark" sk .none t.f_Jq t.d_Jq
 F_Jb:FunG K "check_counter" "check_counter" sH .none t.f_Jb t.d_Jb
 F_Jx:FunG K "check_row" "check_row" r8 .none t.f_Jx t.d_Jx
 F_Jc:FunG K "check_stretch" "check_stretch" sG .none t.f_Jc t.d_Jc
 F_Jy:FunG K "__init__" "Laid.__init__" r6 .none t.f_Jy t.d_Jy
 F_Jh:FunG K "__init__" "Program.__init__" qt .none t.f_Jh t.d_Jh
 F_J0:FunG K "check_beginning" "Program.check_beginning" sS .none t.f_J0 t.d_J0
 F_Ji:FunG K "many" "Program.many" sA .none t.f_Ji t.d_Ji
 F_J2:FunG K "check_rows" "Program.check_rows" sQ .none t.f_J2 t.d_J2
 F_J3:FunG K "check_part" "Program.check_part" sP .none t.f_J3 t.d_J3
 F_J1:FunG K "check_called" "Program.check_called" sR .none t.f_J1 t.d_J1
 F_Jz:FunG K "__init__" "Ways.__init__" nJ .none t.f_Jz t.d_Jz
 F_J01:FunG K "__init__" "Yard.__init__" py .none t.f_J01 t.d_J01
 F_Jc1:FunG K "put" "Yard.put" o0 .none t.f_Jc1 t.d_Jc1
 F_J5:FunG K "check_there" "Yard.check_there" sO .none t.f_J5 t.d_J5
 F_J6:FunG K "check_piece" "Yard.check_piece" sN .none t.f_J6 t.d_J6
 F_J7:FunG K "end_trail" "Yard.end_trail" sM .none t.f_J7 t.d_J7
 F_Jj:FunG K "new_rod" "Yard.new_rod" sy t.v_Jj t.f_Jj t.d_Jj
 F_J11:FunG K "door" "Laid.door" px .none t.f_J11 t.d_J11
 F_Jd:FunG K "marks" "Program.marks" sF .none t.f_Jd t.d_Jd
 F_J8:FunG K "widths" "Program.widths" sK .none t.f_J8 t.d_J8
 F_Jd1:FunG K "lay" "Yard.lay" oZ t.v_Jd1 t.f_Jd1 t.d_Jd1
 F_J9:FunG K "check_rod" "Yard.check_rod" sJ .none t.f_J9 t.d_J9
 F_Jk:FunG K "rows" "Program.rows" sx .none t.f_Jk t.d_Jk
 F_J21:FunG K "link" "Yard.link" pw .none t.f_J21 t.d_J21
 F_J31:FunG K "lead" "Ways.lead" pq .none t.f_J31 t.d_J31
 F_Je:FunG K "bit_rods" "Laid.bit_rods" sD .none t.f_Je t.d_Je
 F_Jf:FunG K "mark_rod" "Laid.mark_rod" sC .none t.f_Jf t.d_Jf
 F_Jg:FunG K "row_here" "Laid.row_here" sB .none t.f_Jg t.d_Jg
 F_Jn:FunG K "engine" "Yard.engine" sr .none t.f_Jn t.d_Jn
 F_Jr:FunG K "bells" "Yard.bells" sj .none t.f_Jr t.d_Jr
 F_Js:FunG K "reads" "Laid.reads" si .none t.f_Js t.d_Js
 F_J41:FunG K "side" "Yard.side" pj .none t.f_J41 t.d_J41
 F_J51:FunG K "lies" "Laid.lies" ph .none t.f_J51 t.d_J51
 F_Jt:FunG K "carry" "Yard.carry" sg .none t.f_Jt t.d_Jt
 F_J61:FunG K "kind" "Yard.kind" pf .none t.f_J61 t.d_J61
 F_J71:FunG K "mate" "Yard.mate" pe .none t.f_J71 t.d_J71
 F_Je1:FunG K "rod" "Yard.rod" oY .none t.f_Je1 t.d_Je1
 m_law:mg "law" = some (.ref t.f_law)
 e_law:t.v_law=.none
 m_draws:mg "_law_draws" = some (.ref t.f_draws)
 m_Jf1:mg "_law_program" = some (.ref t.f_Jf1)
 m_parts:mg "_law_parts" = some (.ref t.f_parts)
 m_row:mg "_law_row" = some (.ref t.f_row)
 m_Jg1:mg "lay_out" = some (.ref t.f_Jg1)
 m_J81:mg "lay_ways" = some (.ref t.f_J81)
 m_Ju:mg "lay_calls" = some (.ref t.f_Ju)
 m_fan:mg "fan" = some (.ref t.f_fan)
 m_merge:mg "merge" = some (.ref t.f_merge)
 m_Jl:mg "lay_doorway" = some (.ref t.f_Jl)
 m_Jh1:mg "doorway" = some (.ref t.f_Jh1)
 m_Ji1:mg "lay_row" = some (.ref t.f_Ji1)
 m_J91:mg "lay_deed" = some (.ref t.f_J91)
 m_tally:mg "tally" = some (.ref t.f_tally)
 m_Jm1:mg "onward" = some (.ref t.f_Jm1)
 m_Jj1:mg "_law_laid_is" = some (.ref t.f_Jj1)
 m_Jn1:mg "_law_is_row" = some (.ref t.f_Jn1)
 m_is:mg "_law_is" = some (.ref t.f_is)
 m_whole:mg "_law_whole" = some (.ref t.f_whole)
 m_Jo1:mg "_law_is_end" = some (.ref t.f_Jo1)
 m_next:mg "_law_next" = some (.ref t.f_next)
 m_Ja1:mg "next_row" = some (.ref t.f_Ja1)
 m_run:mg "run" = some (.ref t.f_run)
 m_Jv:mg "next_step" = some (.ref t.f_Jv)
 m_Jk1:mg "passage" = some (.ref t.f_Jk1)
 m_Jw:mg "check_end" = some (.ref t.f_Jw)
 m_Jl1:mg "ends_of" = some (.ref t.f_Jl1)
 m_Jb1:mg "is_point" = some (.ref t.f_Jb1)
 m_Jo:mg "check_side" = some (.ref t.f_Jo)
 m_Ja:mg "point_passage" = some (.ref t.f_Ja)
 m_Jp1:mg "_law_copied" = some (.ref t.f_Jp1)
 m_held:mg "held" = some (.ref t.f_held)
 m_Jm:mg "check_width" = some (.ref t.f_Jm)
 m_Jp:mg "check_note" = some (.ref t.f_Jp)
 m_Jq:mg "check_mark" = some (.ref t.f_Jq)
 m_Jb:mg "check_counter" = some (.ref t.f_Jb)
 m_Jx:mg "check_row" = some (.ref t.f_Jx)
 m_Jc:mg "check_stretch" = some (.ref t.f_Jc)
 M_J0:Meth K t.c_Program "check_beginning" t.f_J0
 M_Ji:Meth K t.c_Program "many" t.f_Ji
 M_J2:Meth K t.c_Program "check_rows" t.f_J2
 M_J3:Meth K t.c_Program "check_part" t.f_J3
 M_J1:Meth K t.c_Program "check_called" t.f_J1
 M_Jc1:Meth K t.c_Yard "put" t.f_Jc1
 M_J5:Meth K t.c_Yard "check_there" t.f_J5
 M_J6:Meth K t.c_Yard "check_piece" t.f_J6
 M_J7:Meth K t.c_Yard "end_trail" t.f_J7
 M_Jj:Meth K t.c_Yard "new_rod" t.f_Jj
 D_Jj:∃ (T:Addr) (od:Option Addr) (n:Nat) (sl:Array (Option Value)) (tk0:Tok),t.v_Jj=.ref T/\K.lookup T=some ⟨.type "tuple",od,.seq #[.int 1 tk0] n,sl⟩
 M_J11:Meth K t.c_Laid "door" t.f_J11
 M_Jd:Meth K t.c_Program "marks" t.f_Jd
 M_J8:Meth K t.c_Program "widths" t.f_J8
 M_Jd1:Meth K t.c_Yard "lay" t.f_Jd1
 D_Jd1:∃ (T:Addr) (od:Option Addr) (n:Nat) (sl:Array (Option Value)) (tk0:Tok),t.v_Jd1=.ref T/\K.lookup T=some ⟨.type "tuple",od,.seq #[.int 0 tk0,.none] n,sl⟩
 M_J9:Meth K t.c_Yard "check_rod" t.f_J9
 M_Jk:Meth K t.c_Program "rows" t.f_Jk
 M_J21:Meth K t.c_Yard "link" t.f_J21
 M_J31:Meth K t.c_Ways "lead" t.f_J31
 M_Je:Meth K t.c_Laid "bit_rods" t.f_Je
 M_Jf:Meth K t.c_Laid "mark_rod" t.f_Jf
 M_Jg:Meth K t.c_Laid "row_here" t.f_Jg
 M_Jn:Meth K t.c_Yard "engine" t.f_Jn
 M_Jr:Meth K t.c_Yard "bells" t.f_Jr
 M_Js:Meth K t.c_Laid "reads" t.f_Js
 M_J41:Meth K t.c_Yard "side" t.f_J41
 M_J51:Meth K t.c_Laid "lies" t.f_J51
 M_Jt:Meth K t.c_Yard "carry" t.f_Jt
 M_J61:Meth K t.c_Yard "kind" t.f_J61
 M_J71:Meth K t.c_Yard "mate" t.f_J71
 M_Je1:Meth K t.c_Yard "rod" t.f_Je1
 cl_Laid:Cls K t.c_Laid
 m_Laid:mg "Laid" = some (.ref t.c_Laid)
 mk_Laid:Mk K t.c_Laid t.f_Jy
 n_Laid_yard:NoAttr K t.c_Laid "yard"
 n_Laid_doors:NoAttr K t.c_Laid "doors"
 n_Laid_mark_rods:NoAttr K t.c_Laid "mark_rods"
 n_Laid_counter_rods:NoAttr K t.c_Laid "counter_rods"
 n_Laid_rows_at:NoAttr K t.c_Laid "rows_at"
 cl_Program:Cls K t.c_Program
 m_Program:mg "Program" = some (.ref t.c_Program)
 mk_Program:Mk K t.c_Program t.f_Jh
 n_Program_mark_sides:NoAttr K t.c_Program "mark_sides"
 n_Program_counter_widths:NoAttr K t.c_Program "counter_widths"
 n_Program_stretches:NoAttr K t.c_Program "stretches"
 cl_Ways:Cls K t.c_Ways
 m_Ways:mg "Ways" = some (.ref t.c_Ways)
 mk_Ways:Mk K t.c_Ways t.f_Jz
 n_Ways_to_doors:NoAttr K t.c_Ways "to_doors"
 n_Ways_to_stretches:NoAttr K t.c_Ways "to_stretches"
 n_Ways_to_callers:NoAttr K t.c_Ways "to_callers"
 cl_Yard:Cls K t.c_Yard
 m_Yard:mg "Yard" = some (.ref t.c_Yard)
 mk_Yard:Mk K t.c_Yard t.f_J01
 n_Yard_next_piece:NoAttr K t.c_Yard "next_piece"
 n_Yard_kinds:NoAttr K t.c_Yard "kinds"
 n_Yard_notes:NoAttr K t.c_Yard "notes"
 n_Yard_rods_under:NoAttr K t.c_Yard "rods_under"
 n_Yard_sides:NoAttr K t.c_Yard "sides"
 n_Yard_mates:NoAttr K t.c_Yard "mates"
 n_Jn_end:NoAttr K t.c_Yard "engine_end"
 n_Yard_rung:NoAttr K t.c_Yard "rung"
 n_Yard_trail:NoAttr K t.c_Yard "trail"
 z_abs:mg "abs" = none
 z_all:mg "all" = none
 z_bool:mg "bool" = none
 z_enumerate:mg "enumerate" = none
 z_int:mg "int" = none
 z_isinstance:mg "isinstance" = none
 z_len:mg "len" = none
 z_list:mg "list" = none
 z_range:mg "range" = none
 z_reversed:mg "reversed" = none
 z_tuple:mg "tuple" = none
 z_zip:mg "zip" = none
 g_ENDS:mg "ENDS" = some t.u_ENDS
 x_ENDS:∃ a,t.u_ENDS=.ref a/\oB K a [("line",.int 2),("bell",.int 2),("stop",.int 1),("still",.int 3),("lazy",.int 3),("turning",.int 3)]
 g_LAST_NOTE:mg "LAST_NOTE" = some t.u_LAST_NOTE
 r_LAST_NOTE:RelV (.int 9999) t.u_LAST_NOTE
 g_LAST_WORDS:mg "LAST_WORDS" = some t.u_LAST_WORDS
 x_LAST_WORDS:∃ (a:Addr) (o:Obj) (its:Array Value) (n:Nat),t.u_LAST_WORDS=.ref a/\K.lookup a=some o/\o.cls=.type "tuple" /\ o.data=.seq its n/\its.size<=sizeLine/\Vals [.str "ask",.str "go",.str "end"] its.toList
 g_PARTS:mg "PARTS" = some t.u_PARTS
 x_PARTS:∃ a,t.u_PARTS=.ref a/\rR K a [("bell",["note"]),("set",["mark","side"]),("ask",["mark","row","row"]),("bump",["counter","row"]),("go",["row"]),("call",["stretch"]),("end",[])]
 g_POINTS:mg "POINTS" = some t.u_POINTS
 x_POINTS:∃ (a:Addr) (o:Obj) (its:Array Value) (n:Nat),t.u_POINTS=.ref a/\K.lookup a=some o/\o.cls=.type "tuple" /\ o.data=.seq its n/\its.size<=sizeLine/\Vals [.str "still",.str "lazy",.str "turning"] its.toList
 g_STEM:mg "STEM" = some t.u_STEM
 r_STEM:RelV (.int 0) t.u_STEM
 g_WIDEST:mg "WIDEST" = some t.u_WIDEST
 r_WIDEST:RelV (.int 8) t.u_WIDEST
variable{fd:FuncData}{dV:Value}{st:Stmt}{f:Addr}
section
variable {K:PySem.W.Frag}{mg:Str->Option Value}{t:Adr}
theorem lS_ {us:List Value}{n:Nat} (h:us.length=n+1):∃ a t,us=a::t/\t.length=n:=by
 cases us with
 | nil=>cases h
 | cons a t=>exact⟨a,t,rfl,Nat.succ.inj h⟩
theorem l0_ {us:List Value} (h:us.length=0):us=[]:=List.eq_nil_of_length_eq_zero h
theorem bi1 {x q:Str}{a0:Str} (F:FunG K x q st dV f fd) (e:dV=.none:=by rfl) (h:∀ (kV doc pm:Value) (an:Option Addr) (cdv ct u0:Value),bindArgs (W.fnOf x q (bI st) (bC st) (aj st) .none kV doc pm an cdv ct) ⟨[u0],[]⟩=pure [(a0,u0)]:=by intros; rfl):Binds K fd [a0] []:=by
 subst e
 refine F.binds fun kV doc pm an cdv ct us hl=>?_
 obtain⟨u0,w0,rfl,g0⟩:=lS_ hl
 cases l0_ g0
 exact h kV doc pm an cdv ct u0
theorem bi2 {x q:Str}{a0 a1:Str} (F:FunG K x q st dV f fd) (e:dV=.none:=by rfl) (h:∀ (kV doc pm:Value) (an:Option Addr) (cdv ct u0 u1:Value),bindArgs (W.fnOf x q (bI st) (bC st) (aj st) .none kV doc pm an cdv ct) ⟨[u0,u1],[]⟩=pure [(a0,u0),(a1,u1)]:=by intros; rfl):Binds K fd [a0,a1] []:=by
 subst e
 refine F.binds fun kV doc pm an cdv ct us hl=>?_
 obtain⟨u0,w0,rfl,g0⟩:=lS_ hl
 obtain⟨u1,w1,rfl,g1⟩:=lS_ g0
 cases l0_ g1
 exact h kV doc pm an cdv ct u0 u1
theorem bi3 {x q:Str}{a0 a1 a2:Str} (F:FunG K x q st dV f fd) (e:dV=.none:=by rfl) (h:∀ (kV doc pm:Value) (an:Option Addr) (cdv ct u0 u1 u2:Value),bindArgs (W.fnOf x q (bI st) (bC st) (aj st) .none kV doc pm an cdv ct) ⟨[u0,u1,u2],[]⟩=pure [(a0,u0),(a1,u1),(a2,u2)]:=by intros; rfl):Binds K fd [a0,a1,a2] []:=by
 subst e
 refine F.binds fun kV doc pm an cdv ct us hl=>?_
 obtain⟨u0,w0,rfl,g0⟩:=lS_ hl
 obtain⟨u1,w1,rfl,g1⟩:=lS_ g0
 obtain⟨u2,w2,rfl,g2⟩:=lS_ g1
 cases l0_ g2
 exact h kV doc pm an cdv ct u0 u1 u2
theorem bi4 {x q:Str}{a0 a1 a2 a3:Str} (F:FunG K x q st dV f fd) (e:dV=.none:=by rfl) (h:∀ (kV doc pm:Value) (an:Option Addr) (cdv ct u0 u1 u2 u3:Value),bindArgs (W.fnOf x q (bI st) (bC st) (aj st) .none kV doc pm an cdv ct) ⟨[u0,u1,u2,u3],[]⟩=pure [(a0,u0),(a1,u1),(a2,u2),(a3,u3)]:=by intros; rfl):Binds K fd [a0,a1,a2,a3] []:=by
 subst e
 refine F.binds fun kV doc pm an cdv ct us hl=>?_
 obtain⟨u0,w0,rfl,g0⟩:=lS_ hl
 obtain⟨u1,w1,rfl,g1⟩:=lS_ g0
 obtain⟨u2,w2,rfl,g2⟩:=lS_ g1
 obtain⟨u3,w3,rfl,g3⟩:=lS_ g2
 cases l0_ g3
 exact h kV doc pm an cdv ct u0 u1 u2 u3
theorem bi5 {x q:Str}{a0 a1 a2 a3 a4:Str} (F:FunG K x q st dV f fd) (e:dV=.none:=by rfl) (h:∀ (kV doc pm:Value) (an:Option Addr) (cdv ct u0 u1 u2 u3 u4:Value),bindArgs (W.fnOf x q (bI st) (bC st) (aj st) .none kV doc pm an cdv ct) ⟨[u0,u1,u2,u3,u4],[]⟩=pure [(a0,u0),(a1,u1),(a2,u2),(a3,u3),(a4,u4)]:=by intros; rfl):Binds K fd [a0,a1,a2,a3,a4] []:=by
 subst e
 refine F.binds fun kV doc pm an cdv ct us hl=>?_
 obtain⟨u0,w0,rfl,g0⟩:=lS_ hl
 obtain⟨u1,w1,rfl,g1⟩:=lS_ g0
 obtain⟨u2,w2,rfl,g2⟩:=lS_ g1
 obtain⟨u3,w3,rfl,g3⟩:=lS_ g2
 obtain⟨u4,w4,rfl,g4⟩:=lS_ g3
 cases l0_ g4
 exact h kV doc pm an cdv ct u0 u1 u2 u3 u4
theorem bi7 {x q:Str}{a0 a1 a2 a3 a4 a5 a6:Str} (F:FunG K x q st dV f fd) (e:dV=.none:=by rfl) (h:∀ (kV doc pm:Value) (an:Option Addr) (cdv ct u0 u1 u2 u3 u4 u5 u6:Value),bindArgs (W.fnOf x q (bI st) (bC st) (aj st) .none kV doc pm an cdv ct) ⟨[u0,u1,u2,u3,u4,u5,u6],[]⟩=pure [(a0,u0),(a1,u1),(a2,u2),(a3,u3),(a4,u4),(a5,u5),(a6,u6)]:=by intros; rfl):Binds K fd [a0,a1,a2,a3,a4,a5,a6] []:=by
 subst e
 exact F.binds fun kV doc pm an cdv ct us hl=>match us,hl with | [u0,u1,u2,u3,u4,u5,u6],_=>h kV doc pm an cdv ct u0 u1 u2 u3 u4 u5 u6
theorem or (T:Txt K mg t):Binds K t.d_draws ["_law_script","_law_many"] []:=bi2 T.F_draws
theorem b_Jf1 (T:Txt K mg t):Binds K t.d_Jf1 ["_law_d"] []:=bi1 T.F_Jf1
theorem oq (T:Txt K mg t):Binds K t.d_parts ["_law_d","_law_at","_law_marks","_law_counters"] []:=bi4 T.F_parts
theorem b_row (T:Txt K mg t):Binds K t.d_row ["_law_d","_law_k","_law_more","_law_many","_law_marks","_law_counters","_law_later"] []:=bi7 T.F_row
theorem b_Jg1 (T:Txt K mg t):Binds K t.d_Jg1 ["program"] []:=bi1 T.F_Jg1
theorem b_J81 (T:Txt K mg t):Binds K t.d_J81 ["laid","program"] []:=bi2 T.F_J81
theorem b_Ju (T:Txt K mg t):Binds K t.d_Ju ["yard","ways","stretch"] []:=bi3 T.F_Ju
theorem b_fan (T:Txt K mg t):Binds K t.d_fan ["yard","many"] []:=bi2 T.F_fan
theorem fq (T:Txt K mg t):Binds K t.d_merge ["yard","outs","end"] []:=bi3 T.F_merge
theorem tq (T:Txt K mg t):Binds K t.d_Jl ["yard","ways","end","place"] []:=bi4 T.F_Jl
theorem b_Ji1 (T:Txt K mg t):Binds K t.d_Ji1 ["laid","ways","row","stretch","number"] []:=bi5 T.F_Ji1
theorem b_J91 (T:Txt K mg t):Binds K t.d_J91 ["laid","row","out"] []:=bi3 T.F_J91
theorem oo (T:Txt K mg t):Binds K t.d_tally ["yard","rods"] []:=bi2 T.F_tally
theorem b_Jm1 (T:Txt K mg t):Binds K t.d_Jm1 ["row","stretch","number"] []:=bi3 T.F_Jm1
theorem pW (T:Txt K mg t):Binds K t.d_Jj1 ["_law_laid","_law_here","_law_sides","_law_sums","_law_heard"] []:=bi5 T.F_Jj1
theorem b_Jn1 (T:Txt K mg t):Binds K t.d_Jn1 ["_law_found","_law_due"] []:=bi2 T.F_Jn1
theorem nh (T:Txt K mg t):Binds K t.d_is ["_law_found","_law_due"] []:=bi2 T.F_is
theorem om (T:Txt K mg t):Binds K t.d_whole ["_law_found"] []:=bi1 T.F_whole
theorem pV (T:Txt K mg t):Binds K t.d_Jo1 ["_law_found","_law_due"] []:=bi2 T.F_Jo1
theorem rN (T:Txt K mg t):Binds K t.d_next ["_law_parts_here","_law_here","_law_waiting","_law_sides","_law_sums","_law_widths","_law_heard"] []:=bi7 T.F_next
theorem pX (T:Txt K mg t):Binds K t.d_Ja1 ["laid"] []:=bi1 T.F_Ja1
theorem b_run (T:Txt K mg t):Binds K t.d_run ["yard","most"] []:=bi2 T.F_run
theorem sZ (T:Txt K mg t):Binds K t.d_Jv ["yard"] []:=bi1 T.F_Jv
theorem b_Jk1 (T:Txt K mg t):Binds K t.d_Jk1 ["kind","end","side"] []:=bi3 T.F_Jk1
theorem sY (T:Txt K mg t):Binds K t.d_Jw ["kind","end"] []:=bi2 T.F_Jw
theorem b_Jl1 (T:Txt K mg t):Binds K t.d_Jl1 ["kind"] []:=bi1 T.F_Jl1
theorem nj (T:Txt K mg t):Binds K t.d_Jb1 ["kind"] []:=bi1 T.F_Jb1
theorem ot (T:Txt K mg t):Binds K t.d_Jo ["side"] []:=bi1 T.F_Jo
theorem b_Ja (T:Txt K mg t):Binds K t.d_Ja ["kind","end","side"] []:=bi3 T.F_Ja
theorem b_Jp1 (T:Txt K mg t):Binds K t.d_Jp1 ["_law_parts_here"] []:=bi1 T.F_Jp1
theorem ni (T:Txt K mg t):Binds K t.d_held ["yard"] []:=bi1 T.F_held
theorem b_Jm (T:Txt K mg t):Binds K t.d_Jm ["width"] []:=bi1 T.F_Jm
theorem tj (T:Txt K mg t):Binds K t.d_Jp ["note"] []:=bi1 T.F_Jp
theorem tf (T:Txt K mg t):Binds K t.d_Jq ["mark","many"] []:=bi2 T.F_Jq
theorem tF (T:Txt K mg t):Binds K t.d_Jb ["counter","many"] []:=bi2 T.F_Jb
theorem sX (T:Txt K mg t):Binds K t.d_Jx ["row","many"] []:=bi2 T.F_Jx
theorem tD (T:Txt K mg t):Binds K t.d_Jc ["stretch","many"] []:=bi2 T.F_Jc
theorem b_Jy (T:Txt K mg t):Binds K t.d_Jy ["self","yard","doors","mark_rods","counter_rods"] []:=bi5 T.F_Jy
theorem b_Jh (T:Txt K mg t):Binds K t.d_Jh ["self","marks","widths","stretches"] []:=bi4 T.F_Jh
theorem b_J0 (T:Txt K mg t):Binds K t.d_J0 ["self"] []:=bi1 T.F_J0
theorem kQ (T:Txt K mg t):Binds K t.d_Ji ["self"] []:=bi1 T.F_Ji
theorem b_J2 (T:Txt K mg t):Binds K t.d_J2 ["self","stretch"] []:=bi2 T.F_J2
theorem b_J3 (T:Txt K mg t):Binds K t.d_J3 ["self","part","number","stretch"] []:=bi4 T.F_J3
theorem b_J1 (T:Txt K mg t):Binds K t.d_J1 ["self","called","stretch"] []:=bi3 T.F_J1
theorem b_Jz (T:Txt K mg t):Binds K t.d_Jz ["self","many"] []:=bi2 T.F_Jz
theorem b_J01 (T:Txt K mg t):Binds K t.d_J01 ["self"] []:=bi1 T.F_J01
theorem b_Jc1 (T:Txt K mg t):Binds K t.d_Jc1 ["self","end"] []:=bi2 T.F_Jc1
theorem ox (T:Txt K mg t):Binds K t.d_J5 ["self","end"] []:=bi2 T.F_J5
theorem rQ (T:Txt K mg t):Binds K t.d_J6 ["self","piece"] []:=bi2 T.F_J6
theorem ou (T:Txt K mg t):Binds K t.d_J7 ["self"] []:=bi1 T.F_J7
theorem nq (T:Txt K mg t):Binds K t.d_J11 ["self","stretch","row"] []:=bi3 T.F_J11
theorem b_Jd (T:Txt K mg t):Binds K t.d_Jd ["self"] []:=bi1 T.F_Jd
theorem b_J8 (T:Txt K mg t):Binds K t.d_J8 ["self"] []:=bi1 T.F_J8
theorem tG (T:Txt K mg t):Binds K t.d_J9 ["self","rod"] []:=bi2 T.F_J9
theorem tu (T:Txt K mg t):Binds K t.d_Jk ["self","stretch"] []:=bi2 T.F_Jk
theorem dY (T:Txt K mg t):Binds K t.d_J21 ["self","one","other"] []:=bi3 T.F_J21
theorem b_J31 (T:Txt K mg t):Binds K t.d_J31 ["self","end","place"] []:=bi3 T.F_J31
theorem tw (T:Txt K mg t):Binds K t.d_Je ["self","counter"] []:=bi2 T.F_Je
theorem rP (T:Txt K mg t):Binds K t.d_Jf ["self","mark"] []:=bi2 T.F_Jf
theorem rO (T:Txt K mg t):Binds K t.d_Jg ["self"] []:=bi1 T.F_Jg
theorem tm (T:Txt K mg t):Binds K t.d_Jn ["self"] []:=bi1 T.F_Jn
theorem b_Jr (T:Txt K mg t):Binds K t.d_Jr ["self"] []:=bi1 T.F_Jr
theorem b_Js (T:Txt K mg t):Binds K t.d_Js ["self","counter"] []:=bi2 T.F_Js
theorem nk (T:Txt K mg t):Binds K t.d_J41 ["self","rod"] []:=bi2 T.F_J41
theorem b_J51 (T:Txt K mg t):Binds K t.d_J51 ["self","mark"] []:=bi2 T.F_J51
theorem b_Jt (T:Txt K mg t):Binds K t.d_Jt ["self","end","side"] []:=bi3 T.F_Jt
theorem b_J61 (T:Txt K mg t):Binds K t.d_J61 ["self","piece"] []:=bi2 T.F_J61
theorem b_J71 (T:Txt K mg t):Binds K t.d_J71 ["self","end"] []:=bi2 T.F_J71
theorem b_Je1 (T:Txt K mg t):Binds K t.d_Je1 ["self","piece"] []:=bi2 T.F_Je1
theorem oy (T:Txt K mg t):∃ ds:List Value,Vals [] ds/\Binds K t.d_Jj ["self","side"] ds:=by
 obtain⟨Td,od,n,sl,tk0,e1,e2⟩:=T.D_Jj
 obtain⟨oc,od2,kV,doc,pm,an,cdv,ct,osl,e3,lk,hcd⟩:=T.F_Jj.ex
 refine⟨[],.nil,fun s us X hl=>?_⟩
 have hl2:us.length=2:=by simpa using hl
 rw[e3,e1]
 obtain⟨u0,w0,rfl,g0⟩:=lS_ hl2
 obtain⟨u1,w1,rfl,g1⟩:=lS_ g0
 cases l0_ g1
 exact W.binds_K X rfl e2 rfl rfl rfl
theorem jX (T:Txt K mg t):∃ ds:List Value,Vals [.int 1] ds/\Binds K t.d_Jj ["self","side"] ds:=by
 obtain⟨Td,od,n,sl,tk0,e1,e2⟩:=T.D_Jj
 obtain⟨oc,od2,kV,doc,pm,an,cdv,ct,osl,e3,lk,hcd⟩:=T.F_Jj.ex
 refine⟨[.int 1 tk0],.cons ⟨_,U⟩ (.nil),fun s us X hl=>?_⟩
 have hl2:us.length=1:=by simpa using hl
 rw[e3,e1]
 obtain⟨u0,w0,rfl,g0⟩:=lS_ hl2
 cases l0_ g0
 exact W.binds_K X rfl e2 rfl rfl rfl
theorem nt (T:Txt K mg t):∃ ds:List Value,Vals [.non] ds/\Binds K t.d_Jd1 ["self","kind","note","rod"] ds:=by
 obtain⟨Td,od,n,sl,tk0,e1,e2⟩:=T.D_Jd1
 obtain⟨oc,od2,kV,doc,pm,an,cdv,ct,osl,e3,lk,hcd⟩:=T.F_Jd1.ex
 refine⟨[.none],.cons rfl (.nil),fun s us X hl=>?_⟩
 have hl2:us.length=3:=by simpa using hl
 rw[e3,e1]
 obtain⟨u0,w0,rfl,g0⟩:=lS_ hl2
 obtain⟨u1,w1,rfl,g1⟩:=lS_ g0
 obtain⟨u2,w2,rfl,g2⟩:=lS_ g1
 cases l0_ g2
 exact W.binds_K X rfl e2 rfl rfl rfl
theorem cZ (T:Txt K mg t):∃ ds:List Value,Vals [.int 0,.non] ds/\Binds K t.d_Jd1 ["self","kind","note","rod"] ds:=by
 obtain⟨Td,od,n,sl,tk0,e1,e2⟩:=T.D_Jd1
 obtain⟨oc,od2,kV,doc,pm,an,cdv,ct,osl,e3,lk,hcd⟩:=T.F_Jd1.ex
 refine⟨[.int 0 tk0,.none],.cons ⟨_,U⟩ (.cons rfl (.nil)),fun s us X hl=>?_⟩
 have hl2:us.length=2:=by simpa using hl
 rw[e3,e1]
 obtain⟨u0,w0,rfl,g0⟩:=lS_ hl2
 obtain⟨u1,w1,rfl,g1⟩:=lS_ g0
 cases l0_ g1
 exact W.binds_K X rfl e2 rfl rfl rfl
noncomputable def dQ:List V->List V->List V:=fun us ws=>if us.length=2/\ws.length=1 then us++[.int 0]++ws++[] else []
theorem bw (T:Txt K mg t):∃ g,KBinds K t.d_Jd1 ["self","kind","note","rod"] ["rod"] g dQ:=by
 obtain⟨Td,od,n,sl,tk0,e1,e2⟩:=T.D_Jd1
 obtain⟨oc,od2,kV,doc,pm,an,cdv,ct,osl,e3,lk,hcd⟩:=T.F_Jd1.ex
 refine⟨fun us ws=>if us.length=2/\ws.length=1 then us++[.int 0 tk0]++ws++[] else [],⟨fun s us ws X hl=>?_,fun {vs us zs ws} r rz=>?_⟩⟩
 ·by_cases hc:us.length=2/\ws.length=1
  ·rw[if_pos hc]
   rw[e3,e1]
   match us,ws,hc with
   | [_,_],[_],_=>exact W.binds_K X rfl e2 rfl rfl rfl
  ·rw[if_neg hc] at hl
   cases hl
 ·have e4:=r.length
  have e5:=rz.length
  unfold dQ
  by_cases hc:vs.length=2/\zs.length=1
  ·rw[if_pos hc,if_pos (by omega)]
   exact((r.append (show Vals [.int 0] [.int 0 tk0] from .cons ⟨_,U⟩ (.nil))).append rz).append (show Vals [] [] from .nil)
  ·rw[if_neg hc,if_neg (by omega)]
   exact .nil
end
noncomputable def Dr (ds:List Int):Prop:=∀ d ∈ ds,0<=d/\d<10 ^ 18
inductive sp_draws (K:PySem.W.Frag) (vs:List V) (H:Hp) (Q:VK) (E_:XK):Prop
 | mk (a:Addr) (ns:List Int) (n:Int) (L:Kn) (_:vs=[.ref a,.int n]) (_:SqL K H a (ns.map V.int)) (_:ns.length<=63) (_:0<=n) (_:n<=1000) (_:Has H L) (_:∀ H' p ds,Has H' ((p,.lst (ds.map V.int))::L)->ds.length=n.toNat->Dr ds->Q (.ref p) H'):sp_draws K vs H Q E_
section
variable {P:Program}{w:World}{K:PySem.W.Frag}{mg:Str->Option Value}{base:Heap}{t:Adr}
theorem scD:FnScope ["_law_script","_law_many","_law_row_here","_law_base","_law_cell","_law_left","_law_turn"] ["_law_script","_law_many"] (aj jF):={}
theorem Dr.snoc {ds:List Int}{d:Int} (h:Dr ds) (h0:0<=d) (h1:d<10 ^ 18):Dr (ds++[d]):=fun x hx=>by
 rcases tV.mp hx with hx | hx
 ·exact h x hx
 ·have:x=d:=by simpa using hx
  subst this; exact⟨h0,h1⟩
theorem fN (ds:List Int) (d:Int):ds.map V.int++[V.int d]=(ds++[d]).map V.int:=by simp
theorem l9 (T:Txt K mg t):FnOk P w K mg base CX0 1 t.f_draws t.d_draws ["_law_script","_law_many"] (sp_draws K):=by
 refine T.F_draws.ok scD (fun vs H Q E h=>?_) (fun cdv A outer s H vs Q E hr h=>?_)
 ·obtain⟨_,_,_,_,rfl,_⟩:=h
  rfl
 ·obtain⟨a,ns,n,L,rfl,hS,hns,hn0,hn1,hL,k⟩:=h
  refine⟨_,(ae (ax (i:=2) scD.nd rfl (Or.inl rfl) (aX ag))
   (ae (ax (i:=3) scD.nd rfl (Or.inl rfl) ah)
   (ae (bi PassesOwn.never rfl (bG (cx dw (pv 0) dH (cC ah))) (aq (i:=4) scD.nd rfl (Or.inl rfl))
    (ae (ax (i:=5) scD.nd rfl (Or.inl rfl) (aN m9 (by rfl) T.z_abs (by rfl) (aa (pv 4) ag)))
     (ae (ax (i:=3) scD.nd rfl (Or.inl rfl) (aw aR (aw aQ (aw aQ (aw cD (pv 3) ah) (pv 5)) (aw cD ah (a9 gP (by rfl) T.z_int (by rfl) (aa (bU b8 (pv 4) ah (ao _)) ag)))) ah))
     (ai (aD (ak b8 (pv 5) (aw qF ah ah) (ao _))
      (ai (ar (bS PySem.F.plainAttrs_list PySem.F.slot_list_append PySem.F.type_list_append aU (pv 2) (aa (pv 5) ag))))
      (ai (bi PassesOwn.never rfl (bh (by rfl) T.z_range (aa ah ag)) (aq (i:=6) scD.nd rfl (Or.inl rfl))
        (ai (aD (ak cP (pv 5) ah (ao _))
          (ae (ar (bS PySem.F.plainAttrs_list PySem.F.slot_list_append PySem.F.type_list_append aU (pv 2) (aa (aw aR (pv 5) ah) ag)))
           (ai (ax (i:=5) scD.nd rfl (Or.inl rfl) (aw bV (pv 5) ah))))
          ap)))))))))
   (ae (dG PassesOwn.never (ak b8 (aN aI (by rfl) T.z_len (by rfl) (aa (pv 2) ag)) (pv 1) (ao _))
    (ae (ax (i:=3) scD.nd rfl (Or.inl rfl) (aw aR (aw aQ (aw cD (pv 3) ah) ah) ah))
     (ai (ar (bS PySem.F.plainAttrs_list PySem.F.slot_list_append PySem.F.type_list_append aU (pv 2) (aa (aw aR (aw bV (aw cD (pv 3) (pv 3)) ah) ah) ag))))))
   (ai (au (cx dw (pv 2) dH (cC (pv 1))))))))),?_⟩
  refine⟨by decide,fun r hr0=>?_⟩
  have h1:=hL.alloc hr0 (.lst [])
  have hS1:SqL K (upd H r (.lst [])) a (ns.map V.int):=hS.alloc hr0
  generalize upd H r (.lst [])=H1 at *
  refine⟨_,U,_,U,a,_,U,hS1,fun sl hsl=>?_⟩
  have h2:=h1.alloc hsl (.lst (bX (ns.map V.int) none (some 63)))
  generalize upd H1 sl (.lst (bX (ns.map V.int) none (some 63)))=H2 at *
  refine⟨sl,U,⟨_,SqL.of (h2.get 0 U)⟩,?_⟩
  refine cU (K:=K) (a:=sl) (xs:=bX (ns.map V.int) none (some 63)) (fun i σ H'=>∃ (row:List Int) (b:Int) (c l t:Option V),σ=[some (.ref a),some (.int n),some (.ref r),some (.int b),c,l,t] /\
   Has H' ((r,.lst (row.map V.int))::(sl,.lst (bX (ns.map V.int) none (some 63)))::L)/\row.length<=60*i/\Dr row/\0<=b/\b<2147483647)
   ⟨[],7,none,none,none,U,h2.swap2,Nat.zero_le _,(fun _ h=>nomatch h),by decide,by decide⟩ (fun i σ H' _ ⟨row,b,c,l,t,_,h,_⟩=>SqL.of (h.get 1 U)) ?_ ?_
  ·rintro i y σ H' hi ⟨row,b,c,l,t,rfl,h3,hlen,hd,b0,b1⟩
   have hi63:i<63:=by
    have h5:=(List.getElem?_eq_some_iff.mp hi).1
    rw[dU _ _ (by decide),ub,tP] at h5
    omega
   obtain⟨z,rfl⟩:∃ z,y=V.int z:=by
    rw[dU _ _ (by decide),List.getElem?_take_of_lt (by omega),tS] at hi
    cases e:ns[i]? with
    | none=>rw[e] at hi; cases hi
    | some z=>rw[e] at hi; exact⟨z,(Option.some.inj hi).symm⟩
   refine⟨_,U,_,U,?_⟩
   have hab:0<=(if z<0 then -z else z):=by split <;> omega
   generalize (if z<0 then -z else z)=left at *
   refine⟨_,U,_,_,U,U,.inl ⟨by omega,by omega⟩,_,U,_,_,U,U,_,U,_,_,U,U,.inr ⟨_,U,_,_,U,U,.inl ⟨by decide,by decide⟩,_,_,U,U,_,_,U,U,(show(0:Int)<2147483647 by decide),?_⟩⟩
   have hb0:=Int.emod_nonneg (b*48271+left+2*(if decide (z<0)=true then 1 else 0)) (show(2147483647:Int)≠0 by decide)
   have hb1:=Int.emod_lt_of_pos (b*48271+left+2*(if decide (z<0)=true then 1 else 0)) (show(0:Int)<2147483647 by decide)
   refine⟨_,U,_,_,U,U,⟨by decide,by decide,by decide⟩,_,_,U,U,_,U,?_⟩
   refine iR (fun hc=>?_) (fun hc=>?_)
   ·have hc':left<10 ^ 18:=of_decide_eq_true hc
    refine⟨_,U,.inl ⟨U,_,SqL.of (h3.get 0 U)⟩,_,U,r,_,_,U,U,h3.get 0 U,?_,?_⟩
    ·rw[tP]
     exact sizeOk (by omega)
    ·refine⟨row++[left],_,_,_,_,U,?_,?_,hd.snoc hab hc',hb0,hb1⟩
     ·rw[<- fN]
      exact h3.puti 0 U _
     ·rw[tW,t7]; omega
   ·-- for turn in range(60)
    refine⟨_,U,by decide,by decide,bB (n:=60) (fun j σ H2=>∃ (row2:List Int) (l2:Int) (t2:Option V) (b2:Int),0<=b2/\b2<2147483647/\σ=[some (.ref a),some (.int n),some (.ref r),some (.int b2),some (.int z),some (.int l2),t2] /\
     Has H2 ((r,.lst (row2.map V.int))::(sl,.lst (bX (ns.map V.int) none (some 63)))::L)/\row2.length<=row.length+j/\Dr row2/\0<=l2) ⟨row,_,_,_,hb0,hb1,U,h3,Nat.le_add_right _ _,hd,hab⟩ ?_ ?_⟩
    ·rintro j σ H2 hj ⟨row2,l2,t2,b2,hb20,hb21,rfl,h4,hlen2,hd2,hl2⟩
     refine⟨_,U,_,_,U,U,_,U,?_⟩
     refine iR (fun hc2=>?_) (fun hc2=>?_)
     ·refine⟨_,U,.inl ⟨U,_,SqL.of (h4.get 0 U)⟩,_,U,_,_,U,U,(show(0:Int)<10007 by decide),r,_,_,U,U,h4.get 0 U,?_,?_⟩
      ·rw[tP]
       exact sizeOk (by omega)
      ·refine⟨_,U,_,_,U,U,⟨by decide,by decide⟩,?_⟩
       refine⟨row2++[l2 % 10007],_,_,_,hb20,hb21,U,?_,?_,hd2.snoc (Int.emod_nonneg _ (by decide)) (Int.lt_trans (Int.emod_lt_of_pos _ (by decide)) (by decide)),Int.ediv_nonneg hl2 (by decide)⟩
       ·rw[<- fN]
        exact h4.puti 0 U _
       ·rw[tW,t7]; omega
     ·exact⟨row2,l2,_,b2,hb20,hb21,U,h4,by omega,hd2,hl2⟩
    ·rintro σ H2 ⟨row2,l2,t2,b2,hb20,hb21,rfl,h4,hlen2,hd2,hl2⟩
     exact⟨row2,b2,_,_,_,U,h4,by omega,hd2,hb20,hb21⟩
  ·rintro σ H' ⟨row,b,c,l,t,rfl,h3,hlen,hd,b0,b1⟩
   have hlx:(bX (ns.map V.int) none (some 63)).length<=63:=by
    rw[dU _ _ (by decide),ub]; omega
   refine kS (fun σ H'=>∃ (row:List Int) (b:Int) (c l t:Option V),σ=[some (.ref a),some (.int n),some (.ref r),some (.int b),c,l,t]/\Has H' ((r,.lst (row.map V.int))::L)/\row.length<=4000/\Dr row/\0<=b/\b<2147483647)
    (fun σ H'=>match H' r with | some (.lst xs)=>n.toNat - xs.length | _=>0) ⟨row,b,c,l,t,U,h3.swap2.tail,by omega,hd,b0,b1⟩ ?_ ?_
   ·rintro σ H' ⟨row,b,c,l,t,rfl,h4,hlen,hd,b0,b1⟩
    refine⟨_,U,r,_,U,.inl (SqL.of (h4.get 0 U)),_,U,_,_,U,U,_,U,?_⟩
    rw[tP]
    refine iR (fun hc=>?_) (fun hc=>?_)
    ·have hc':(row.length:Int)<n:=of_decide_eq_true hc
     refine⟨_,U,_,_,U,U,.inl ⟨by omega,by omega⟩,_,_,U,U,_,_,U,U,(show(0:Int)<2147483647 by decide),?_⟩
     have hb0:=Int.emod_nonneg (b*69621+12289) (show(2147483647:Int)≠0 by decide)
     have hb1:=Int.emod_lt_of_pos (b*69621+12289) (show(0:Int)<2147483647 by decide)
     refine⟨_,U,.inl ⟨U,_,SqL.of (h4.get 0 U)⟩,_,U,_,U,_,_,U,U,.inl ⟨?_,?_⟩,_,_,U,U,⟨by decide,by decide⟩,_,_,U,U,(show(0:Int)<10007 by decide),r,_,_,U,U,h4.get 0 U,?_,?_⟩
     ·show -(2 ^ 64)<(b*69621+12289) % 2147483647
      omega
     ·show(b*69621+12289) % 2147483647<2 ^ 64
      omega
     ·rw[tP]
      exact sizeOk (by omega)
     ·have hq0:=Int.emod_nonneg ((b*69621+12289) % 2147483647*((b*69621+12289) % 2147483647) / 4099) (show(10007:Int)≠0 by decide)
      have hq1:=Int.emod_lt_of_pos ((b*69621+12289) % 2147483647*((b*69621+12289) % 2147483647) / 4099) (show(0:Int)<10007 by decide)
      refine⟨⟨row++[(b*69621+12289) % 2147483647*((b*69621+12289) % 2147483647) / 4099 % 10007],_,_,_,_,U,?_,?_,hd.snoc hq0 (Int.lt_trans hq1 (by decide)),hb0,hb1⟩,?_⟩
      ·rw[<- fN]
       exact h4.puti 0 U _
      ·rw[tW,t7]; omega
      ·have e1:H' r=some (.lst (row.map V.int)):=h4.get 0 rfl
       simp only[e1,bF,tW,tP,t7]
       omega
    ·have hc':¬ (row.length:Int)<n:=fun z=>hc (decide_eq_true z)
     refine⟨_,U,_,U,_,U,r,_,U,SqL.of (h4.get 0 U),fun p hp=>?_⟩
     refine k _ p (row.take n.toNat) ?_ (by rw[ub]; omega) (fun d hd'=>hd d (List.mem_of_mem_take hd'))
     have h5:=(h4.tail).alloc hp (.lst (bX (row.map V.int) none (some n)))
     rw[dU _ _ hn0,<- List.map_take] at h5 ⊢
     exact h5
   ·rintro σ H' Q1 Q2 hQ ⟨v,e,p,ys,e2,h,w',e3,i,j,e4,e5,c,e6,q⟩
    exact⟨v,e,p,ys,e2,h,w',e3,i,j,e4,e5,c,e6,hQ _ _ q⟩
end
noncomputable def lg:Sp:=fun vs H Q _=>∃ i:Int,vs=[.int i]/\Q (.bl true) H
noncomputable def sp_is:Sp:=fun vs H Q _=>∃ i j:Int,vs=[.int i,.int j]/\Q (.bl (decide (i=j))) H
theorem rp (K:PySem.W.Frag):W.kitOne K (.type "int") (.type "int")=some true:=by kernel_rfl
theorem rq (K:PySem.W.Frag):W.kitOne K (.type "int") (.type "bool")=some false:=by kernel_rfl
theorem rk (K:PySem.W.Frag):W.kitOne K (.type "tuple") (.type "tuple")=some true:=by kernel_rfl
theorem rm (K:PySem.W.Frag):W.kitOne K (.type "list") (.type "list")=some true:=by kernel_rfl
section
variable {P:Program}{w:World}{K:PySem.W.Frag}{mg:Str->Option Value}{base:Heap}{t:Adr}
theorem scWh:FnScope ["_law_found"] ["_law_found"] (aj jB):={}
theorem l0 (T:Txt K mg t):FnOk P w K mg base CX0 1 t.f_whole t.d_whole ["_law_found"] lg:=by
 refine T.F_whole.ok scWh (fun vs H Q E h=>?_) (fun cdv A outer s H vs Q E hr h=>?_)
 ·obtain⟨_,rfl,_⟩:=h
  rfl
 ·obtain⟨i,rfl,k⟩:=h
  refine⟨_,(ai (au (hV (aN dX (by rfl) T.z_isinstance (by rfl) (aa (pv 0) (aa (fh (v:=.ty "int") (by rfl) T.z_int (by rfl) rfl) ag))) (hJ (qC (aN dX (by rfl) T.z_isinstance (by rfl) (aa (pv 0) (aa (fh (v:=.ty "bool") (by rfl) T.z_bool (by rfl) rfl) ag)))))))),?_⟩
  refine⟨_,U,_,_,_,_,U,.int i,rp K,_,U,dP ?_⟩
  exact⟨_,U,_,_,_,_,U,.int i,rq K,_,U,k⟩
theorem scIs:FnScope ["_law_found","_law_due"] ["_law_found","_law_due"] (aj rZ):={}
theorem iJ (T:Txt K mg t):FnOk P w K mg base CX0 2 t.f_is t.d_is ["_law_found","_law_due"] sp_is:=by
 refine T.F_is.ok scIs (fun vs H Q E h=>?_) (fun cdv A outer s H vs Q E hr h=>?_)
 ·obtain⟨_,_,rfl,_⟩:=h
  rfl
 ·obtain⟨i,j,rfl,k⟩:=h
  refine⟨_,(ai (au (hV (pcl (l0 T) hr T.m_whole T.F_whole.kp (om T) (aa (pv 0) ag)) (hJ (bU aW (pv 0) (pv 1) (ao _)))))),?_⟩
  refine⟨_,U,i,U,_,U,dP ?_⟩
  refine⟨_,U,_,U,U,?_⟩
  have e:decide (V.int i=V.int j)=decide (i=j):=by by_cases h:i=j <;> simp[h]
  rw[e]
  exact k
end
inductive Kd where | line | bell | still | lazy | turning | stop
 deriving DecidableEq
noncomputable def Kd.str:Kd->Str
 | .line => "line" | .bell => "bell" | .still => "still" | .lazy => "lazy" | .turning => "turning" | .stop => "stop"
noncomputable def Kd.many:Kd->Int
 | .line=>2 | .bell=>2 | .still=>3 | .lazy=>3 | .turning=>3 | .stop=>1
noncomputable def Kd.point:Kd->Bool
 | .still=>true | .lazy=>true | .turning=>true | _=>false
noncomputable def endsD:List (Str×PyData):=[("line",.int 2),("bell",.int 2),("stop",.int 1),("still",.int 3),("lazy",.int 3),("turning",.int 3)]
theorem Kd.inEnds (k:Kd):(endsD.any fun p=>decide (k.str=p.1))=true:=by cases k <;> decide +kernel
theorem Kd.atEnds (k:Kd):endsD.lookup k.str=some (.int k.many):=by cases k <;> rfl
theorem kF:(endsD.all fun p=>match p.2 with | .int _=>true | _=>false)=true:=by decide +kernel
theorem Kd.inPoints (k:Kd):inV (.str k.str) [.str "still",.str "lazy",.str "turning"]=k.point:=by cases k <;> decide +kernel
theorem Kd.isStop (k:Kd):decide (V.str k.str=V.str "stop")=decide (k=.stop):=by cases k <;> decide +kernel
theorem Kd.isTurning (k:Kd):decide (V.str k.str=V.str "turning")=decide (k=.turning):=by cases k <;> decide +kernel
theorem Kd.isLazy (k:Kd):decide (V.str k.str=V.str "lazy")=decide (k=.lazy):=by cases k <;> decide +kernel
theorem Kd.isBell (k:Kd):decide (V.str k.str=V.str "bell")=decide (k=.bell):=by cases k <;> decide +kernel
noncomputable def Kd.out (k:Kd) (e s:Int):V:=if k=.stop then .non else if k.point then(if e=0 then .int s else .int 0) else .int (1 - e)
noncomputable def Kd.side (k:Kd) (e s:Int):Int:=if k.point then(if e=0 then(if k=.turning then 3 - s else s) else(if k=.lazy then e else s)) else s
noncomputable def qo:Sp:=fun vs H Q _=>∃ k:Kd,vs=[.str k.str]/\Q (.int k.many) H
noncomputable def qp:Sp:=fun vs H Q _=>∃ k:Kd,vs=[.str k.str]/\Q (.bl k.point) H
inductive sp_Jw (vs:List V) (H:Hp) (Q:VK) (E_:XK):Prop
 | mk (k:Kd) (e:Int) (_:vs=[.str k.str,.int e]) (_:0<=e) (_:e<k.many) (_:Q .non H):sp_Jw vs H Q E_
inductive sp_Jo (vs:List V) (H:Hp) (Q:VK) (E_:XK):Prop
 | mk (s:Int) (_:vs=[.int s]) (_:(s=1∨s=2)) (_:Q .non H):sp_Jo vs H Q E_
inductive sp_Jk1 (vs:List V) (H:Hp) (Q:VK) (E_:XK):Prop
 | mk (k:Kd) (e s:Int) (v:V) (_:vs=[.str k.str,.int e,v]) (_:0<=e) (_:e<k.many) (_:(k.point=true->v=.int s/\(s=1∨s=2))) (_:∀ p,H p=none->Q (.ref p) (upd H p (.tup [k.out e s,if k.point then .int (k.side e s) else v]))):sp_Jk1 vs H Q E_
inductive sp_Ja (vs:List V) (H:Hp) (Q:VK) (E_:XK):Prop
 | mk (k:Kd) (e s:Int) (_:vs=[.str k.str,.int e,.int s]) (_:k.point=true) (_:∀ p,H p=none->Q (.ref p) (upd H p (.tup [k.out e s,.int (k.side e s)]))):sp_Ja vs H Q E_
section
variable {P:Program}{w:World}{K:PySem.W.Frag}{mg:Str->Option Value}{base:Heap}{t:Adr}
theorem cI (i j:Int):decide (V.int i=V.int j)=decide (i=j):=by by_cases h:i=j <;> simp[h]
theorem scEo:FnScope ["kind"] ["kind"] (aj oV):={}
theorem qP (T:Txt K mg t):FnOk P w K mg base CX0 1 t.f_Jl1 t.d_Jl1 ["kind"] qo:=by
 refine T.F_Jl1.ok scEo (fun vs H Q E h=>?_) (fun cdv A outer s H vs Q E hr h=>?_)
 ·obtain⟨_,rfl,_⟩:=h
  rfl
 ·obtain⟨k,rfl,q⟩:=h
  obtain⟨aE,eE,hE⟩:=T.x_ENDS
  have T_r_ENDS:RelV (.ref aE) t.u_ENDS:=by rw[eE]; rfl
  refine⟨_,(ae (aD (ak gF (pv 0) (bL (by rfl) T.g_ENDS T_r_ENDS) (by rfl))
    (ai aZ)
    ap)
   (ai (au (av ix_K (bL (by rfl) T.g_ENDS T_r_ENDS) (pv 0))))),?_⟩
  refine⟨_,U,_,aE,endsD,U,U,hE,_,U,?_⟩
  rw[k.inEnds]
  exact⟨_,U,_,aE,endsD,_,U,U,hE,k.atEnds,kF,q⟩
theorem scIp:FnScope ["kind"] ["kind"] (aj o6):={}
theorem jh (T:Txt K mg t):FnOk P w K mg base CX0 1 t.f_Jb1 t.d_Jb1 ["kind"] qp:=by
 refine T.F_Jb1.ok scIp (fun vs H Q E h=>?_) (fun cdv A outer s H vs Q E hr h=>?_)
 ·obtain⟨_,rfl,_⟩:=h
  rfl
 ·obtain⟨k,rfl,q⟩:=h
  obtain⟨aE,eE,hE⟩:=T.x_ENDS
  have T_r_ENDS:RelV (.ref aE) t.u_ENDS:=by rw[eE]; rfl
  obtain⟨aP,oP,its,n,eP,h1,h2,h3,h4,h5⟩:=T.x_POINTS
  have T_r_POINTS:RelV (.ref aP) t.u_POINTS:=by rw[eP]; rfl
  refine⟨_,(ae (aD (ak gF (pv 0) (bL (by rfl) T.g_ENDS T_r_ENDS) (by rfl))
    (ai aZ)
    ap)
   (ai (au (bU kg (pv 0) (bL (by rfl) T.g_POINTS T_r_POINTS) (by rfl))))),?_⟩
  refine⟨_,U,_,aE,endsD,U,U,hE,_,U,?_⟩
  rw[k.inEnds]
  refine⟨_,U,aP,_,U,.inr (.inr ⟨oP,its,n,h1,h2,h3,h4,h5⟩),U,by decide,?_⟩
  rw[if_neg Bool.false_ne_true,k.inPoints]
  exact q
theorem scCe:FnScope ["kind","end","many"] ["kind","end"] (aj r9):={}
theorem pD (T:Txt K mg t):FnOk P w K mg base CX0 2 t.f_Jw t.d_Jw ["kind","end"] sp_Jw:=by
 refine T.F_Jw.ok scCe (fun vs H Q E h=>?_) (fun cdv A outer s H vs Q E hr h=>?_)
 ·obtain⟨_,_,rfl,_⟩:=h
  rfl
 ·obtain⟨k,e,rfl,e0,e1,q⟩:=h
  refine⟨_,(ae (ax (i:=2) scCe.nd rfl (Or.inl rfl) (pcl (qP T) hr T.m_Jl1 T.F_Jl1.kp (b_Jl1 T) (aa (pv 0) ag)))
   (ai (aD (PW.pt (cK (ak b8 (pv 1) ah (ao _)) (b5 (ak gG (pv 1) (pv 2) (ao _)))))
    (ai aZ)
    ap))),?_⟩
  refine⟨_,U,k,U,?_⟩
  refine⟨_,U,_,_,U,U,_,U,?_⟩
  refine ifF (decide_eq_false (by omega)) ?_
  refine⟨_,U,_,U,_,_,U,U,_,U,?_⟩
  exact ifF (decide_eq_false (by omega)) q
theorem scCs:FnScope ["side"] ["side"] (aj sq):={}
theorem jL (T:Txt K mg t):FnOk P w K mg base CX0 1 t.f_Jo t.d_Jo ["side"] sp_Jo:=by
 refine T.F_Jo.ok scCs (fun vs H Q E h=>?_) (fun cdv A outer s H vs Q E hr h=>?_)
 ·obtain⟨_,rfl,_⟩:=h
  rfl
 ·obtain⟨z,rfl,hz,q⟩:=h
  refine⟨_,(ai (aD (PW.pt (bO (ak iI (pv 0) ah (ao _)) (bT (ak iI (pv 0) ah (ao _)))))
    (ai aZ)
    ap)),?_⟩
  refine⟨_,U,U,_,U,?_⟩
  rw[cI]
  refine sV (fun hc=>?_) (fun hc=>ce q)
  refine⟨_,U,U,_,U,?_⟩
  rw[cI]
  exact ifF (by simp; omega) q
theorem scPp:FnScope ["kind","end","side"] ["kind","end","side"] (aj sI):={}
theorem ok_Ja (T:Txt K mg t):FnOk P w K mg base CX0 1 t.f_Ja t.d_Ja ["kind","end","side"] sp_Ja:=by
 refine T.F_Ja.ok scPp (fun vs H Q E h=>?_) (fun cdv A outer s H vs Q E hr h=>?_)
 ·obtain⟨_,_,_,rfl,_⟩:=h
  rfl
 ·obtain⟨k,e,z,rfl,hk,q⟩:=h
  have ns:¬ k=.stop:=fun h=>by rw[h] at hk; cases hk
  refine⟨_,(ae (aD (ak aW (pv 1) (bL (by rfl) T.g_STEM T.r_STEM) (ao _))
    (ai (au (az (aa (pv 2) (aa (cO (ak aW (pv 0) aJ (ao _)) (aw fK ah (pv 2)) (pv 2)) ag)))))
    ap)
   (ai (au (az (aa (bL (by rfl) T.g_STEM T.r_STEM) (aa (cO (ak aW (pv 0) aJ (ao _)) (pv 1) (pv 2)) ag)))))),?_⟩
  refine⟨_,U,U,_,U,?_⟩
  rw[cI]
  refine iR (fun hc=>?_) (fun hc=>?_)
  ·have he:e=0:=of_decide_eq_true hc
   refine⟨_,U,_,U,U,_,U,?_⟩
   rw[k.isTurning]
   have o1:k.out e z=.int z:=by unfold Kd.out; rw[if_neg ns,if_pos hk,if_pos he]
   have o2:k.side e z=if k=.turning then 3 - z else z:=by unfold Kd.side; rw[if_pos hk,if_pos he]
   rw[o1,o2] at q
   refine iR (fun hc=>?_) (fun hc=>?_)
   ·rw[if_pos (of_decide_eq_true hc)] at q
    exact⟨_,U,_,_,U,U,(show 2<=sizeLine by decide),fun p hp=>q p hp⟩
   ·rw[if_neg (fun h=>hc (decide_eq_true h))] at q
    exact⟨_,U,(show 2<=sizeLine by decide),fun p hp=>q p hp⟩
  ·have he:¬ e=0:=fun h=>hc (decide_eq_true h)
   refine⟨_,U,U,_,U,?_⟩
   rw[k.isLazy]
   have o1:k.out e z=.int 0:=by unfold Kd.out; rw[if_neg ns,if_pos hk,if_neg he]
   have o2:k.side e z=if k=.lazy then e else z:=by unfold Kd.side; rw[if_pos hk,if_neg he]
   rw[o1,o2] at q
   refine iR (fun hc=>?_) (fun hc=>?_)
   ·rw[if_pos (of_decide_eq_true hc)] at q
    exact⟨_,U,(show 2<=sizeLine by decide),fun p hp=>q p hp⟩
   ·rw[if_neg (fun h=>hc (decide_eq_true h))] at q
    exact⟨_,U,(show 2<=sizeLine by decide),fun p hp=>q p hp⟩
theorem scPa:FnScope ["kind","end","side"] ["kind","end","side"] (aj oW):={}
theorem qQ (T:Txt K mg t):FnOk P w K mg base CX0 3 t.f_Jk1 t.d_Jk1 ["kind","end","side"] sp_Jk1:=by
 refine T.F_Jk1.ok scPa (fun vs H Q E h=>?_) (fun cdv A outer s H vs Q E hr h=>?_)
 ·obtain⟨_,_,_,_,rfl,_⟩:=h
  rfl
 ·obtain⟨k,e,z,v,rfl,e0,e1,hs,q⟩:=h
  refine⟨_,(ae (ar (pcl (pD T) hr T.m_Jw T.F_Jw.kp (sY T) (aa (pv 0) (aa (pv 1) ag))))
   (ae (aD (b6 (pcl (jh T) hr T.m_Jb1 T.F_Jb1.kp (nj T) (aa (pv 0) ag)))
    (ae (ar (pcl (jL T) hr T.m_Jo T.F_Jo.kp (ot T) (aa (pv 2) ag)))
     (ai (au (pcl (ok_Ja T) hr T.m_Ja T.F_Ja.kp (b_Ja T) (aa (pv 0) (aa (pv 1) (aa (pv 2) ag)))))))
    ap)
   (ae (aD (ak aW (pv 0) aJ (ao _))
    (ai (au (az (aa aS (aa (pv 2) ag)))))
    ap)
   (ai (au (az (aa (aw fK ah (pv 1)) (aa (pv 2) ag)))))))),?_⟩
  refine⟨_,U,_,U,k,e,U,e0,e1,?_⟩
  refine⟨_,U,k,U,_,U,?_⟩
  refine iR (fun hc=>?_) (fun hc=>?_)
  ·obtain⟨rfl,hz⟩:=hs hc
   rw[if_pos hc] at q
   exact⟨_,U,z,U,hz,_,U,_,U,_,U,k,e,z,U,hc,q⟩
  ·rw[if_neg hc] at q
   refine⟨_,U,U,_,U,?_⟩
   rw[k.isStop]
   refine iR (fun hc2=>?_) (fun hc2=>?_)
   ·have hk:k=.stop:=of_decide_eq_true hc2
    subst hk
    exact⟨_,U,(show 2<=sizeLine by decide),fun p hp=>q p hp⟩
   ·have hk:¬ k=.stop:=fun h=>hc2 (decide_eq_true h)
    have o1:k.out e z=.int (1 - e):=by unfold Kd.out; rw[if_neg hk,if_neg hc]
    rw[o1] at q
    exact⟨_,U,_,_,U,U,_,U,(show 2<=sizeLine by decide),fun p hp=>q p hp⟩
end
structure YA where
 p:Addr
 dx:Addr
 tr:Addr
 k:Addr
 n:Addr
 r:Addr
 s:Addr
 m:Addr
 g:Addr
structure YR where
 next:Int
 kinds:List (Key×V)
 notes:List (Key×V)
 rods:List (Key×V)
 sides:List V
 mates:List (List Key×V)
 eng:V
 rung:List V
 trail:List V
noncomputable def fl (A:YA) (next:Int) (eng:V):List (Str×V) :=
 [("next_piece",.int next),("kinds",.ref A.k),("notes",.ref A.n),("rods_under",.ref A.r),("sides",.ref A.s),("mates",.ref A.m),("engine_end",eng),("rung",.ref A.g),("trail",.ref A.tr)]
noncomputable def yL (C:Addr) (A:YA) (y:YR):Kn :=
 [(A.tr,.lst y.trail),(A.p,.ins C A.dx (fl A y.next y.eng)),(A.dx,.own A.p),(A.k,.dK y.kinds),(A.n,.dK y.notes),(A.r,.dK y.rods),(A.s,.lst y.sides),(A.m,.dT y.mates),(A.g,.lst y.rung)]
noncomputable def y0:YR:=⟨0,[],[],[],[],[],.non,[],[]⟩
section
variable (A:YA) (next:Int) (eng:V)
theorem jS:(fl A next eng).lookup ("next_piece" : Str)=some (.int next):=by kernel_rfl
theorem dS:(fl A next eng).lookup ("kinds" : Str)=some (.ref A.k):=by kernel_rfl
theorem cV:(fl A next eng).lookup ("notes" : Str)=some (.ref A.n):=by kernel_rfl
theorem dR:(fl A next eng).lookup ("rods_under" : Str)=some (.ref A.r):=by kernel_rfl
theorem cA:(fl A next eng).lookup ("sides" : Str)=some (.ref A.s):=by kernel_rfl
theorem cW:(fl A next eng).lookup ("mates" : Str)=some (.ref A.m):=by kernel_rfl
theorem jq:(fl A next eng).lookup ("engine_end" : Str)=some eng:=by kernel_rfl
theorem ic:(fl A next eng).lookup ("rung" : Str)=some (.ref A.g):=by kernel_rfl
theorem mW:(fl A next eng).lookup ("trail" : Str)=some (.ref A.tr):=by kernel_rfl
theorem ie (q:Addr):bg "trail" (.ref q) (fl A next eng)=fl { A with tr:=q } next eng:=by kernel_rfl
theorem iS (n':Int):bg "next_piece" (.int n') (fl A next eng)=fl A n' eng:=by kernel_rfl
theorem cc (e':V):bg "engine_end" e' (fl A next eng)=fl A next e':=by kernel_rfl
end
theorem bQ (A:YA) (next:Int) (eng:V):(fl A next eng).lookup ("lay" : Str)=none/\(fl A next eng).lookup ("new_rod" : Str)=none/\(fl A next eng).lookup ("throw" : Str)=none/\(fl A next eng).lookup ("rods" : Str)=none/\(fl A next eng).lookup ("rod" : Str)=none /\
  (fl A next eng).lookup ("side" : Str)=none/\(fl A next eng).lookup ("end_trail" : Str)=none/\(fl A next eng).lookup ("check_piece" : Str)=none/\(fl A next eng).lookup ("check_rod" : Str)=none :=
 ⟨by kernel_rfl,by kernel_rfl,by kernel_rfl,by kernel_rfl,by kernel_rfl,by kernel_rfl,by kernel_rfl,by kernel_rfl,by kernel_rfl⟩
inductive sp_init (C:Addr) (vs:List V) (H:Hp) (Q:VK) (E_:XK):Prop
 | mk (p dx:Addr) (L:Kn) (_:vs=[.ref p]) (_:Has H ((p,.ins C dx [])::(dx,.own p)::L)) (_:∀ H' A,A.p=p->Has H' (yL C A y0++L)->Q .non H'):sp_init C vs H Q E_
inductive sp_end_trail (C:Addr) (vs:List V) (H:Hp) (Q:VK) (E_:XK):Prop
 | mk (A:YA) (y:YR) (L:Kn) (_:vs=[.ref A.p]) (_:Has H (yL C A y++L)) (_:∀ H' q,Has H' (yL C { A with tr:=q } { y with trail:=[] }++L)->Q .non H'):sp_end_trail C vs H Q E_
theorem ky {H:Hp}{C p dx a1 a2 a3 a4 a5 a7 a8:Addr}{fs:List (Str×V)}{L:Kn} (h:Has H ((a8,.lst [])::(a7,.lst [])::(a5,.dT [])::(a4,.lst [])::(a3,.dK [])::(a2,.dK [])::(a1,.dK [])::(p,.ins C dx fs)::(dx,.own p)::L)) :
  Has H ([(a8,.lst []),(p,.ins C dx fs),(dx,.own p),(a1,.dK []),(a2,.dK []),(a3,.dK []),(a4,.lst []),(a5,.dT []),(a7,.lst [])]++L):=by
 refine h.perm ?_
 refine .cons _ ?_
 show List.Perm ([(a7,HO.lst []),(a5,.dT []),(a4,.lst []),(a3,.dK []),(a2,.dK []),(a1,.dK []),(p,.ins C dx fs),(dx,.own p)]++L) ([(p,.ins C dx fs),(dx,.own p),(a1,.dK []),(a2,.dK []),(a3,.dK []),(a4,.lst []),(a5,.dT []),(a7,.lst [])]++L)
 refine List.Perm.append_right L ?_
 have e:[(a7,HO.lst []),(a5,.dT []),(a4,.lst []),(a3,.dK []),(a2,.dK []),(a1,.dK []),(p,.ins C dx fs),(dx,.own p)]=[(a7,HO.lst []),(a5,.dT []),(a4,.lst []),(a3,.dK []),(a2,.dK []),(a1,.dK [])]++[(p,.ins C dx fs),(dx,.own p)]:=rfl
 rw[e]
 refine List.perm_append_comm.trans ?_
 refine .cons _ (.cons _ ?_)
 exact List.reverse_perm [(a1,HO.dK []),(a2,.dK []),(a3,.dK []),(a4,.lst []),(a5,.dT []),(a7,.lst [])]
section
variable {P:Program}{w:World}{K:PySem.W.Frag}{mg:Str->Option Value}{base:Heap}{t:Adr}
theorem scYi:FnScope ["self"] ["self"] (aj py):={}
theorem rh (T:Txt K mg t):FnOk P w K mg base CX0 1 t.f_J01 t.d_J01 ["self"] (sp_init t.c_Yard):=by
 refine T.F_J01.ok scYi (fun vs H Q E h=>?_) (fun cdv A outer s H vs Q E hr h=>?_)
 ·obtain⟨_,_,_,rfl,_⟩:=h
  rfl
 ·obtain⟨p,dx,L,rfl,hH,q⟩:=h
  refine⟨_,(ae (bj (pv 0) ah rfl)
   (ae (bj (pv 0) fI rfl)
   (ae (bj (pv 0) fI rfl)
   (ae (bj (pv 0) fI rfl)
   (ae (bj (pv 0) (aX ag) rfl)
   (ae (bj (pv 0) fH rfl)
   (ae (bj (pv 0) aS rfl)
   (ae (bj (pv 0) (aX ag) rfl)
   (ai (bj (pv 0) (aX ag) rfl)))))))))),?_⟩
  refine⟨_,U,p,_,dx,_,U,hH.get 0 U,T.cl_Yard,T.n_Yard_next_piece,(show 0<1000 by decide),?_⟩
  have h1:=hH.puti 0 U (.ins t.c_Yard dx (bg ("next_piece" : Str) (V.int 0) ([]:List (Str×V))))
  rw[show bg ("next_piece" : Str) (V.int 0) ([]:List (Str×V))=([(("next_piece" : Str),V.int 0)]:List (Str×V)) from by kernel_rfl] at h1 ⊢
  generalize upd H p _=H1 at h1 ⊢
  intro a1 n1
  refine⟨_,U,p,_,dx,_,U,(h1.alloc n1 (.dK [])).get 1 U,T.cl_Yard,T.n_Yard_kinds,(show 1<1000 by decide),?_⟩
  have h2:=(h1.alloc n1 (.dK [])).puti 1 U (.ins t.c_Yard dx (bg ("kinds" : Str) (V.ref a1) ([(("next_piece" : Str),V.int 0)]:List (Str×V))))
  rw[show bg ("kinds" : Str) (V.ref a1) ([(("next_piece" : Str),V.int 0)]:List (Str×V))=([(("next_piece" : Str),V.int 0),(("kinds" : Str),V.ref a1)]:List (Str×V)) from by kernel_rfl] at h2 ⊢
  generalize upd (upd H1 a1 _) p _=H2 at h2 ⊢
  intro a2 n2
  refine⟨_,U,p,_,dx,_,U,(h2.alloc n2 (.dK [])).get 2 U,T.cl_Yard,T.n_Yard_notes,(show 2<1000 by decide),?_⟩
  have h3:=(h2.alloc n2 (.dK [])).puti 2 U (.ins t.c_Yard dx (bg ("notes" : Str) (V.ref a2) ([(("next_piece" : Str),V.int 0),(("kinds" : Str),V.ref a1)]:List (Str×V))))
  rw[show bg ("notes" : Str) (V.ref a2) ([(("next_piece" : Str),V.int 0),(("kinds" : Str),V.ref a1)]:List (Str×V))=([(("next_piece" : Str),V.int 0),(("kinds" : Str),V.ref a1),(("notes" : Str),V.ref a2)]:List (Str×V)) from by kernel_rfl] at h3 ⊢
  generalize upd (upd H2 a2 _) p _=H3 at h3 ⊢
  intro a3 n3
  refine⟨_,U,p,_,dx,_,U,(h3.alloc n3 (.dK [])).get 3 U,T.cl_Yard,T.n_Yard_rods_under,(show 3<1000 by decide),?_⟩
  have h4:=(h3.alloc n3 (.dK [])).puti 3 U (.ins t.c_Yard dx (bg ("rods_under" : Str) (V.ref a3) ([(("next_piece" : Str),V.int 0),(("kinds" : Str),V.ref a1),(("notes" : Str),V.ref a2)]:List (Str×V))))
  rw[show bg ("rods_under" : Str) (V.ref a3) ([(("next_piece" : Str),V.int 0),(("kinds" : Str),V.ref a1),(("notes" : Str),V.ref a2)]:List (Str×V))=([(("next_piece" : Str),V.int 0),(("kinds" : Str),V.ref a1),(("notes" : Str),V.ref a2),(("rods_under" : Str),V.ref a3)]:List (Str×V)) from by kernel_rfl] at h4 ⊢
  generalize upd (upd H3 a3 _) p _=H4 at h4 ⊢
  refine⟨by decide,fun a4 n4=>?_⟩
  refine⟨_,U,p,_,dx,_,U,(h4.alloc n4 (.lst [])).get 4 U,T.cl_Yard,T.n_Yard_sides,(show 4<1000 by decide),?_⟩
  have h5:=(h4.alloc n4 (.lst [])).puti 4 U (.ins t.c_Yard dx (bg ("sides" : Str) (V.ref a4) ([(("next_piece" : Str),V.int 0),(("kinds" : Str),V.ref a1),(("notes" : Str),V.ref a2),(("rods_under" : Str),V.ref a3)]:List (Str×V))))
  rw[show bg ("sides" : Str) (V.ref a4) ([(("next_piece" : Str),V.int 0),(("kinds" : Str),V.ref a1),(("notes" : Str),V.ref a2),(("rods_under" : Str),V.ref a3)]:List (Str×V))=([(("next_piece" : Str),V.int 0),(("kinds" : Str),V.ref a1),(("notes" : Str),V.ref a2),(("rods_under" : Str),V.ref a3),(("sides" : Str),V.ref a4)]:List (Str×V)) from by kernel_rfl] at h5 ⊢
  generalize upd (upd H4 a4 _) p _=H5 at h5 ⊢
  intro a5 n5
  refine⟨_,U,p,_,dx,_,U,(h5.alloc n5 (.dT [])).get 5 U,T.cl_Yard,T.n_Yard_mates,(show 5<1000 by decide),?_⟩
  have h6:=(h5.alloc n5 (.dT [])).puti 5 U (.ins t.c_Yard dx (bg ("mates" : Str) (V.ref a5) ([(("next_piece" : Str),V.int 0),(("kinds" : Str),V.ref a1),(("notes" : Str),V.ref a2),(("rods_under" : Str),V.ref a3),(("sides" : Str),V.ref a4)]:List (Str×V))))
  rw[show bg ("mates" : Str) (V.ref a5) ([(("next_piece" : Str),V.int 0),(("kinds" : Str),V.ref a1),(("notes" : Str),V.ref a2),(("rods_under" : Str),V.ref a3),(("sides" : Str),V.ref a4)]:List (Str×V))=([(("next_piece" : Str),V.int 0),(("kinds" : Str),V.ref a1),(("notes" : Str),V.ref a2),(("rods_under" : Str),V.ref a3),(("sides" : Str),V.ref a4),(("mates" : Str),V.ref a5)]:List (Str×V)) from by kernel_rfl] at h6 ⊢
  generalize upd (upd H5 a5 _) p _=H6 at h6 ⊢
  refine⟨_,U,p,_,dx,_,U,h6.get 5 U,T.cl_Yard,T.n_Jn_end,(show 6<1000 by decide),?_⟩
  have h7:=h6.puti 5 U (.ins t.c_Yard dx (bg ("engine_end" : Str) (V.non) ([(("next_piece" : Str),V.int 0),(("kinds" : Str),V.ref a1),(("notes" : Str),V.ref a2),(("rods_under" : Str),V.ref a3),(("sides" : Str),V.ref a4),(("mates" : Str),V.ref a5)]:List (Str×V))))
  rw[show bg ("engine_end" : Str) (V.non) ([(("next_piece" : Str),V.int 0),(("kinds" : Str),V.ref a1),(("notes" : Str),V.ref a2),(("rods_under" : Str),V.ref a3),(("sides" : Str),V.ref a4),(("mates" : Str),V.ref a5)]:List (Str×V))=([(("next_piece" : Str),V.int 0),(("kinds" : Str),V.ref a1),(("notes" : Str),V.ref a2),(("rods_under" : Str),V.ref a3),(("sides" : Str),V.ref a4),(("mates" : Str),V.ref a5),(("engine_end" : Str),V.non)]:List (Str×V)) from by kernel_rfl] at h7 ⊢
  generalize upd H6 p _=H7 at h7 ⊢
  refine⟨by decide,fun a7 n7=>?_⟩
  refine⟨_,U,p,_,dx,_,U,(h7.alloc n7 (.lst [])).get 6 U,T.cl_Yard,T.n_Yard_rung,(show 7<1000 by decide),?_⟩
  have h8:=(h7.alloc n7 (.lst [])).puti 6 U (.ins t.c_Yard dx (bg ("rung" : Str) (V.ref a7) ([(("next_piece" : Str),V.int 0),(("kinds" : Str),V.ref a1),(("notes" : Str),V.ref a2),(("rods_under" : Str),V.ref a3),(("sides" : Str),V.ref a4),(("mates" : Str),V.ref a5),(("engine_end" : Str),V.non)]:List (Str×V))))
  rw[show bg ("rung" : Str) (V.ref a7) ([(("next_piece" : Str),V.int 0),(("kinds" : Str),V.ref a1),(("notes" : Str),V.ref a2),(("rods_under" : Str),V.ref a3),(("sides" : Str),V.ref a4),(("mates" : Str),V.ref a5),(("engine_end" : Str),V.non)]:List (Str×V))=([(("next_piece" : Str),V.int 0),(("kinds" : Str),V.ref a1),(("notes" : Str),V.ref a2),(("rods_under" : Str),V.ref a3),(("sides" : Str),V.ref a4),(("mates" : Str),V.ref a5),(("engine_end" : Str),V.non),(("rung" : Str),V.ref a7)]:List (Str×V)) from by kernel_rfl] at h8 ⊢
  generalize upd (upd H7 a7 _) p _=H8 at h8 ⊢
  refine⟨by decide,fun a8 n8=>?_⟩
  refine⟨_,U,p,_,dx,_,U,(h8.alloc n8 (.lst [])).get 7 U,T.cl_Yard,T.n_Yard_trail,(show 8<1000 by decide),?_⟩
  refine q _ ⟨p,dx,a8,a1,a2,a3,a4,a5,a7⟩ rfl ?_
  have h9:=(h8.alloc n8 (.lst [])).puti 7 U (.ins t.c_Yard dx (bg ("trail" : Str) (V.ref a8) ([(("next_piece" : Str),V.int 0),(("kinds" : Str),V.ref a1),(("notes" : Str),V.ref a2),(("rods_under" : Str),V.ref a3),(("sides" : Str),V.ref a4),(("mates" : Str),V.ref a5),(("engine_end" : Str),V.non),(("rung" : Str),V.ref a7)]:List (Str×V))))
  rw[show bg ("trail" : Str) (V.ref a8) ([(("next_piece" : Str),V.int 0),(("kinds" : Str),V.ref a1),(("notes" : Str),V.ref a2),(("rods_under" : Str),V.ref a3),(("sides" : Str),V.ref a4),(("mates" : Str),V.ref a5),(("engine_end" : Str),V.non),(("rung" : Str),V.ref a7)]:List (Str×V))=([(("next_piece" : Str),V.int 0),(("kinds" : Str),V.ref a1),(("notes" : Str),V.ref a2),(("rods_under" : Str),V.ref a3),(("sides" : Str),V.ref a4),(("mates" : Str),V.ref a5),(("engine_end" : Str),V.non),(("rung" : Str),V.ref a7),(("trail" : Str),V.ref a8)]:List (Str×V)) from by kernel_rfl] at h9 ⊢
  exact ky h9
end
noncomputable def bE (y:YR) (k:Kd) (note:Int) (rod:V):YR :=
 { y with next:=y.next+1,kinds:=aM y.kinds (Sum.inl y.next) (.str k.str),notes:=if k=.bell then aM y.notes (Sum.inl y.next) (.int note) else y.notes,rods:=if k.point then aM y.rods (Sum.inl y.next) (if rod=.non then .int y.sides.length else rod) else y.rods,sides:=if k.point/\rod=.non then y.sides++[.int 1] else y.sides,trail:=[] }
structure jZ (y:YR):Prop where
 k:y.kinds.length<=10000
 n:y.notes.length<=10000
 r:y.rods.length<=10000
 s:y.sides.length<=10000
 m:y.mates.length<=30000
 g:y.rung.length<=300000
 t:y.trail.length<=300000
inductive sp_check_piece (C:Addr) (vs:List V) (H:Hp) (Q:VK) (E_:XK):Prop
 | mk (A:YA) (y:YR) (L:Kn) (n:Int) (v:V) (_:vs=[.ref A.p,.int n]) (_:Has H (yL C A y++L)) (_:aG y.kinds (Sum.inl n)=some v) (_:Q .non H):sp_check_piece C vs H Q E_
inductive sp_check_rod (C:Addr) (vs:List V) (H:Hp) (Q:VK) (E_:XK):Prop
 | mk (A:YA) (y:YR) (L:Kn) (r:Int) (_:vs=[.ref A.p,.int r]) (_:Has H (yL C A y++L)) (_:0<=r) (_:r<y.sides.length) (_:Q .non H):sp_check_rod C vs H Q E_
inductive sp_Jp (vs:List V) (H:Hp) (Q:VK) (E_:XK):Prop
 | mk (n:Int) (_:vs=[.int n]) (_:0<=n) (_:n<=9999) (_:Q .non H):sp_Jp vs H Q E_
inductive sp_new_rod (C:Addr) (vs:List V) (H:Hp) (Q:VK) (E_:XK):Prop
 | mk (A:YA) (y:YR) (L:Kn) (s:Int) (_:vs=[.ref A.p,.int s]) (_:Has H (yL C A y++L)) (_:(s=1∨s=2)) (_:y.sides.length<=10000) (_:∀ H' q,Has H' (yL C { A with tr:=q } { y with sides:=y.sides++[.int s],trail:=[] }++L)->Q (.int y.sides.length) H'):sp_new_rod C vs H Q E_
inductive sp_throw (C:Addr) (vs:List V) (H:Hp) (Q:VK) (E_:XK):Prop
 | mk (A:YA) (y:YR) (L:Kn) (r s:Int) (_:vs=[.ref A.p,.int r,.int s]) (_:Has H (yL C A y++L)) (_:0<=r) (_:r<y.sides.length) (_:(s=1∨s=2)) (_:∀ H' q,Has H' (yL C { A with tr:=q } { y with sides:=y.sides.set r.toNat (.int s),trail:=[] }++L)->Q .non H'):sp_throw C vs H Q E_
inductive sp_rods (C:Addr) (vs:List V) (H:Hp) (Q:VK) (E_:XK):Prop
 | mk (A:YA) (y:YR) (L:Kn) (_:vs=[.ref A.p]) (_:Has H (yL C A y++L)) (_:jZ y) (_:∀ H' l,Has H' ((l,.lst (intsV y.sides.length))::(yL C A y++L))->Q (.ref l) H'):sp_rods C vs H Q E_
inductive sp_side (C:Addr) (vs:List V) (H:Hp) (Q:VK) (E_:XK):Prop
 | mk (A:YA) (y:YR) (L:Kn) (r:Int) (v:V) (_:vs=[.ref A.p,.int r]) (_:Has H (yL C A y++L)) (_:0<=r) (_:y.sides[r.toNat]?=some v) (_:Q v H):sp_side C vs H Q E_
inductive sp_rod (C:Addr) (vs:List V) (H:Hp) (Q:VK) (E_:XK):Prop
 | mk (A:YA) (y:YR) (L:Kn) (n:Int) (u v:V) (_:vs=[.ref A.p,.int n]) (_:Has H (yL C A y++L)) (_:aG y.kinds (Sum.inl n)=some u) (_:aG y.rods (Sum.inl n)=some v) (_:Q v H):sp_rod C vs H Q E_
inductive sp_lay (C:Addr) (vs:List V) (H:Hp) (Q:VK) (E_:XK):Prop
 | mk (A:YA) (y:YR) (L:Kn) (k:Kd) (note:Int) (rod:V) (_:vs=[.ref A.p,.str k.str,.int note,rod]) (_:Has H (yL C A y++L)) (_:jZ y) (_:(k=.bell->0<=note/\note<=9999)) (_:(k.point=true->rod≠.non->∃ r:Int,rod=.int r/\0<=r/\r<y.sides.length)) (_:∀ H' q,Has H' (yL C { A with tr:=q } (bE y k note rod)++L)->Q (.int y.next) H'):sp_lay C vs H Q E_
section
variable {P:Program}{w:World}{K:PySem.W.Frag}{mg:Str->Option Value}{base:Heap}{t:Adr}
theorem scEt:FnScope ["self"] ["self"] (aj sM):={}
theorem jM (T:Txt K mg t):FnOk P w K mg base CX0 1 t.f_J7 t.d_J7 ["self"] (sp_end_trail t.c_Yard):=by
 refine T.F_J7.ok scEt (fun vs H Q E h=>?_) (fun cdv A outer s H vs Q E hr h=>?_)
 ·obtain⟨_,_,_,rfl,_⟩:=h
  rfl
 ·obtain⟨A,y,L,rfl,hH,q⟩:=h
  refine⟨_,(ai (bj (pv 0) (aX ag) rfl)),?_⟩
  refine⟨by decide,fun a ha=>?_⟩
  have h1:=hH.alloc ha (.lst [])
  refine⟨_,U,A.p,_,A.dx,_,U,h1.get 2 U,T.cl_Yard,T.n_Yard_trail,(show 9<1000 by decide),?_⟩
  refine q _ a ?_
  rw[ie]
  have h2:=(h1.puti 2 U (.ins t.c_Yard A.dx (fl { A with tr:=a } y.next y.eng)))
  exact(h2.swap2).tail
theorem scCr:FnScope ["self","rod"] ["self","rod"] (aj sJ):={}
theorem pN (T:Txt K mg t):FnOk P w K mg base CX0 1 t.f_J9 t.d_J9 ["self","rod"] (sp_check_rod t.c_Yard):=by
 refine T.F_J9.ok scCr (fun vs H Q E h=>?_) (fun cdv A outer s H vs Q E hr h=>?_)
 ·obtain⟨_,_,_,_,rfl,_⟩:=h
  rfl
 ·obtain⟨A,y,L,r,rfl,hH,r0,r1,q⟩:=h
  refine⟨_,(ai (aD (PW.pt (cK (ak b8 (pv 1) ah (ao _)) (b5 (ak gG (pv 1) (aN aI (by rfl) T.z_len (by rfl) (aa (aA (pv 0) rfl) ag)) (ao _)))))
    (ai aZ)
    ap)),?_⟩
  refine⟨_,U,_,_,U,U,_,U,ifF (decide_eq_false (by omega)) ?_⟩
  refine⟨_,U,_,U,A.p,_,A.dx,_,_,U,hH.get 1 U,T.cl_Yard,T.n_Yard_sides,cA _ _ _,A.s,_,U,.inl (SqL.of (hH.get 6 U)),_,_,U,U,_,U,?_⟩
  exact ifF (decide_eq_false (by omega)) q
theorem scCn:FnScope ["note"] ["note"] (aj so):={}
theorem pG (T:Txt K mg t):FnOk P w K mg base CX0 1 t.f_Jp t.d_Jp ["note"] sp_Jp:=by
 refine T.F_Jp.ok scCn (fun vs H Q E h=>?_) (fun cdv A outer s H vs Q E hr h=>?_)
 ·obtain⟨_,rfl,_⟩:=h
  rfl
 ·obtain⟨n,rfl,n0,n1,q⟩:=h
  refine⟨_,(ai (aD (PW.pt (cK (ak b8 (pv 0) ah (ao _)) (b5 (ak cP (pv 0) (bL (by rfl) T.g_LAST_NOTE T.r_LAST_NOTE) (ao _)))))
    (ai aZ)
    ap)),?_⟩
  refine⟨_,U,_,_,U,U,_,U,ifF (decide_eq_false (by omega)) ?_⟩
  refine⟨_,U,_,_,U,U,_,U,ifF (decide_eq_false (by omega)) q⟩
theorem scCp:FnScope ["self","piece"] ["self","piece"] (aj sN):={}
theorem mE (T:Txt K mg t):FnOk P w K mg base CX0 1 t.f_J6 t.d_J6 ["self","piece"] (sp_check_piece t.c_Yard):=by
 refine T.F_J6.ok scCp (fun vs H Q E h=>?_) (fun cdv A outer s H vs Q E hr h=>?_)
 ·obtain⟨_,_,_,_,_,rfl,_⟩:=h
  rfl
 ·obtain⟨A,y,L,n,v,rfl,hH,hv,q⟩:=h
  have hu:=cS hr
  refine⟨_,(ai (aD (g7 (gE hu (pv 1) (aA (pv 0) rfl)))
    (ai aZ)
    ap)),?_⟩
  refine⟨_,U,_,U,A.p,_,A.dx,_,_,U,hH.get 1 U,T.cl_Yard,T.n_Yard_kinds,dS _ _ _,A.k,_,U,DGet.k (k:=Sum.inl n) (hH.get 3 U),_,U,?_⟩
  exact ifF (by rw[hv]; rfl) q
theorem scNr:FnScope ["self","side"] ["self","side"] (aj sy):={}
theorem mq (T:Txt K mg t):FnOk P w K mg base CX0 2 t.f_Jj t.d_Jj ["self","side"] (sp_new_rod t.c_Yard):=by
 refine T.F_Jj.ok scNr (fun vs H Q E h=>?_) (fun cdv A outer s H vs Q E hr h=>?_)
 ·obtain⟨_,_,_,_,rfl,_⟩:=h
  rfl
 ·obtain⟨A,y,L,z,rfl,hH,hz,sm,q⟩:=h
  refine⟨_,(ae (ar (pcl (jL T) hr T.m_Jo T.F_Jo.kp (ot T) (aa (pv 1) ag)))
   (ae (ar (bS PySem.F.plainAttrs_list PySem.F.slot_list_append PySem.F.type_list_append aU (aA (pv 0) rfl) (aa (pv 1) ag)))
   (ae (ar (aV (pv 0) T.cl_Yard T.M_J7 (jM T) hr (ou T) .nil aF))
   (ai (au (aw fK (aN aI (by rfl) T.z_len (by rfl) (aa (aA (pv 0) rfl) ag)) ah)))))),?_⟩
  refine⟨_,U,z,U,hz,?_⟩
  refine⟨_,U,A.p,_,A.dx,_,_,U,hH.get 1 U,T.cl_Yard,T.n_Yard_sides,cA _ _ _,.inl ⟨U,_,SqL.of (hH.get 6 U)⟩,_,U,A.s,_,_,U,U,hH.get 6 U,sizeOk (by omega),?_⟩
  have h1:Has _ (yL t.c_Yard A { y with sides:=y.sides++[.int z] }++L):=hH.puti 6 U (.lst (y.sides++[.int z]))
  refine⟨_,U,A.p,A.dx,_,U,h1.get 1 U,(bQ _ _ _).2.2.2.2.2.2.1,A,_,L,U,h1,fun H' a h2=>?_⟩
  refine⟨_,U,A.p,_,A.dx,_,_,U,h2.get 1 U,T.cl_Yard,T.n_Yard_sides,cA _ _ _,A.s,_,U,.inl (SqL.of (h2.get 6 U)),_,_,U,U,?_⟩
  have e:((y.sides++[V.int z]).length:Int) - 1=y.sides.length:=by rw[tW,t7]; omega
  show Q (.int (((y.sides++[V.int z]).length:Int) - 1)) H'
  rw[e]
  exact q H' a h2
theorem scSi:FnScope ["self","rod"] ["self","rod"] (aj pj):={}
theorem ji (T:Txt K mg t):FnOk P w K mg base CX0 2 t.f_J41 t.d_J41 ["self","rod"] (sp_side t.c_Yard):=by
 refine T.F_J41.ok scSi (fun vs H Q E h=>?_) (fun cdv A outer s H vs Q E hr h=>?_)
 ·obtain⟨_,_,_,_,_,rfl,_⟩:=h
  rfl
 ·obtain⟨A,y,L,r,v,rfl,hH,r0,hv,q⟩:=h
  have r1:r<y.sides.length:=by have:=(List.getElem?_eq_some_iff.mp hv).1; omega
  have er:(r.toNat:Int)=r:=by omega
  refine⟨_,(ae (ar (aC (pv 0) T.cl_Yard T.M_J9 (pN T) hr (tG T) .nil aF (aa (pv 1) ag)))
   (ai (au (av aB (aA (pv 0) rfl) (pv 1))))),?_⟩
  refine⟨_,U,A.p,A.dx,_,U,hH.get 1 U,(bQ _ _ _).2.2.2.2.2.2.2.2,_,U,A,y,L,r,U,hH,r0,r1,?_⟩
  exact⟨_,U,A.p,_,A.dx,_,_,U,hH.get 1 U,T.cl_Yard,T.n_Yard_sides,cA _ _ _,_,U,A.s,_,r,v,U,U,SqL.of (hH.get 6 U),(by rw[<- er]; exact am hv),q⟩
theorem scRo:FnScope ["self","piece"] ["self","piece"] (aj oY):={}
theorem qU (T:Txt K mg t):FnOk P w K mg base CX0 2 t.f_Je1 t.d_Je1 ["self","piece"] (sp_rod t.c_Yard):=by
 refine T.F_Je1.ok scRo (fun vs H Q E h=>?_) (fun cdv A outer s H vs Q E hr h=>?_)
 ·obtain⟨_,_,_,_,_,_,rfl,_⟩:=h
  rfl
 ·obtain⟨A,y,L,n,u,v,rfl,hH,hk,hv,q⟩:=h
  have hu:=cS hr
  refine⟨_,(ae (ar (aC (pv 0) T.cl_Yard T.M_J6 (mE T) hr (rQ T) .nil aF (aa (pv 1) ag)))
   (ae (aD (g7 (gE hu (pv 1) (aA (pv 0) rfl)))
    (ai aZ)
    ap)
   (ai (au (fg hu (aA (pv 0) rfl) (pv 1)))))),?_⟩
  refine⟨_,U,A.p,A.dx,_,U,hH.get 1 U,(bQ _ _ _).2.2.2.2.2.2.2.1,_,U,A,y,L,n,u,U,hH,hk,?_⟩
  refine⟨_,U,_,U,A.p,_,A.dx,_,_,U,hH.get 1 U,T.cl_Yard,T.n_Yard_rods_under,dR _ _ _,A.r,_,U,DGet.k (k:=Sum.inl n) (hH.get 5 U),_,U,ifF (by rw[hv]; rfl) ?_⟩
  refine⟨_,U,A.p,_,A.dx,_,_,U,hH.get 1 U,T.cl_Yard,T.n_Yard_rods_under,dR _ _ _,_,U,A.r,_,U,?_,q⟩
  rw[<- hv]
  exact DGet.k (k:=Sum.inl n) (hH.get 5 U)
theorem scLy:FnScope ["self","kind","note","rod","point","piece"] ["self","kind","note","rod"] (aj oZ):={}
theorem cE (T:Txt K mg t):FnOk P w K mg base CX0 3 t.f_Jd1 t.d_Jd1 ["self","kind","note","rod"] (sp_lay t.c_Yard):=by
 obtain⟨ds_nr,hd_Jj_1,hb_Jj_1⟩:=jX T
 refine T.F_Jd1.ok scLy (fun vs H Q E h=>?_) (fun cdv A outer s H vs Q E hr h=>?_)
 ·obtain⟨_,_,_,_,_,_,rfl,_⟩:=h
  rfl
 ·obtain⟨A,y,L,k,note,rod,rfl,hH,sm,hnote,hrod,q⟩:=h
  have hu:=cS hr
  refine⟨_,(ae (ax (i:=4) scLy.nd rfl (Or.inl rfl) (pcl (jh T) hr T.m_Jb1 T.F_Jb1.kp (nj T) (aa (pv 1) ag)))
   (ae (aD (ak aW (pv 1) aJ (ao _))
    (ai (ar (pcl (pG T) hr T.m_Jp T.F_Jp.kp (tj T) (aa (pv 2) ag))))
    ap)
   (ae (aD (PW.pt (bO (b6 (pv 4)) (bT (ak cf (pv 3) aS (ao _)))))
    (ai (ar (aC (pv 0) T.cl_Yard T.M_J9 (pN T) hr (tG T) .nil aF (aa (pv 3) ag))))
    ap)
   (ae (ax (i:=5) scLy.nd rfl (Or.inl rfl) (aA (pv 0) rfl))
   (ae (j9 (pv 0) ah rG)
   (ae (db hu (aA (pv 0) rfl) (pv 5) (pv 1) rfl)
   (ae (aD (ak aW (pv 1) aJ (ao _))
    (ai (db hu (aA (pv 0) rfl) (pv 5) (pv 2) rfl))
    ap)
   (ae (aD (b6 (pv 4))
    (ai (db hu (aA (pv 0) rfl) (pv 5) (cO (ak bP (pv 3) aS (ao _)) (aV (pv 0) T.cl_Yard T.M_Jj (mq T) hr hb_Jj_1 hd_Jj_1 aF) (pv 3)) rfl))
    ap)
   (ae (ar (aV (pv 0) T.cl_Yard T.M_J7 (jM T) hr (ou T) .nil aF))
   (ai (au (pv 5)))))))))))),?_⟩
  refine⟨_,U,k,U,?_⟩
  refine⟨_,U,U,_,U,ifJ (fun hc g=>?_) ?_⟩
  ·rw[k.isBell] at hc
   have hb:=hnote (of_decide_eq_true hc)
   exact⟨_,U,note,U,hb.1,hb.2,g⟩
  refine⟨_,U,_,U,?_⟩
  refine(fun(g:_)=>if2 (fun hp=>⟨_,U,U,_,U,ifJ (fun hc g'=>?a) g⟩) (fun hp=>ce g)) ?b
  case a=>
   have hn:rod≠.non:=by simpa using hc
   obtain⟨r,rfl,r0,r1⟩:=hrod hp hn
   exact⟨_,U,A.p,A.dx,_,U,hH.get 1 U,(bQ _ _ _).2.2.2.2.2.2.2.2,_,U,A,y,L,r,U,hH,r0,r1,g'⟩
  refine⟨_,U,A.p,_,A.dx,_,_,U,hH.get 1 U,T.cl_Yard,T.n_Yard_next_piece,jS _ _ _,?_⟩
  refine⟨_,U,A.p,_,A.dx,_,_,U,hH.get 1 U,T.cl_Yard,T.n_Yard_next_piece,jS _ _ _,_,_,U,U,_,_,hH.get 1 U,(show 9<1000 by decide),?_⟩
  rw[iS]
  have h1:Has _ (yL t.c_Yard A { y with next:=y.next+1 }++L):=hH.puti 1 U (.ins t.c_Yard A.dx (fl A (y.next+1) y.eng))
  generalize upd H A.p _=H1 at h1 ⊢
  refine⟨_,U,_,U,A.p,_,A.dx,_,_,U,h1.get 1 U,T.cl_Yard,T.n_Yard_kinds,dS _ _ _,_,U,A.k,_,U,DPut.k (k:=Sum.inl y.next) (h1.get 3 U) (sizeOk (show y.kinds.length<=1000000 by have:=sm.k; omega)),?_⟩
  have h2:Has _ (yL t.c_Yard A { y with next:=y.next+1,kinds:=aM y.kinds (Sum.inl y.next) (.str k.str) }++L):=h1.puti 3 U (.dK (aM y.kinds (Sum.inl y.next) (.str k.str)))
  generalize upd H1 A.k _=H2 at h2 ⊢
  refine⟨_,U,U,_,U,?_⟩
  rw[k.isBell]
  have fin:∀ (H3:Hp) (A3:YA) (y3:YR),A3.p=A.p->(∀ q,{ A3 with tr:=q }={ A with tr:=q })->{ y3 with trail:=[] }=bE y k note rod->Has H3 (yL t.c_Yard A3 y3++L) ->
    iq (oN (lf t.c_Yard "end_trail" (sp_end_trail t.c_Yard) [] E0 (nE 0) iu)) (rX (nE 5)) { nx:=fun _ H'=>Q .non H',rt:=Q } [some (.ref A.p),some (.str k.str),some (.int note),some rod,some (.bl k.point),some (.int y.next)] H3:=fun H3 A3 y3 e1 e2 e3 h3=>by
   have g1:=h3.get 1 rfl
   rw[e1] at g1
   refine⟨_,U,A.p,A3.dx,_,U,g1,(bQ _ _ _).2.2.2.2.2.2.1,A3,y3,L,(by rw[e1]; rfl),h3,fun H4 a h4=>⟨_,U,?_⟩⟩
   rw[e2,e3] at h4
   exact q H4 a h4
  refine ifd (fun hb=>?_) (fun hb=>?_)
  ·subst hb
   refine⟨_,U,_,U,A.p,_,A.dx,_,_,U,h2.get 1 U,T.cl_Yard,T.n_Yard_notes,cV _ _ _,_,U,A.n,_,U,DPut.k (k:=Sum.inl y.next) (h2.get 4 U) (sizeOk (show y.notes.length<=1000000 by have:=sm.n; omega)),?_⟩
   have h3:Has _ (yL t.c_Yard A { y with next:=y.next+1,kinds:=aM y.kinds (Sum.inl y.next) (.str Kd.bell.str),notes:=aM y.notes (Sum.inl y.next) (.int note) }++L):=h2.puti 4 U (.dK (aM y.notes (Sum.inl y.next) (.int note)))
   refine⟨_,U,_,U,ce ?_⟩
   exact fin _ A _ rfl (fun _=>rfl) rfl h3
  ·refine⟨_,U,_,U,if2 (fun hp=>?_) (fun hp=>?_)⟩
   ·refine⟨_,U,U,_,U,ifd (fun hn=>?_) (fun hn=>?_)⟩
    ·subst hn
     refine⟨_,U,A.p,A.dx,_,U,h2.get 1 U,(bQ _ _ _).2.1,A,_,L,1,U,h2,.inl rfl,sm.s,fun H3 a h3=>?_⟩
     refine⟨_,U,A.p,_,A.dx,_,_,U,h3.get 1 U,T.cl_Yard,T.n_Yard_rods_under,dR _ _ _,_,U,A.r,_,U,DPut.k (k:=Sum.inl y.next) (h3.get 5 U) (sizeOk (show y.rods.length<=1000000 by have:=sm.r; omega)),?_⟩
     have h4:Has _ (yL t.c_Yard { A with tr:=a } { y with next:=y.next+1,kinds:=aM y.kinds (Sum.inl y.next) (.str k.str),rods:=aM y.rods (Sum.inl y.next) (.int y.sides.length),sides:=y.sides++[.int 1],trail:=[] }++L):=h3.puti 5 U (.dK (aM y.rods (Sum.inl y.next) (.int y.sides.length)))
     exact fin _ { A with tr:=a } _ rfl (fun _=>rfl) (by unfold bE; rw[if_neg hb,if_pos hp,if_pos rfl,if_pos ⟨hp,U⟩]) h4
    ·refine⟨_,U,_,U,A.p,_,A.dx,_,_,U,h2.get 1 U,T.cl_Yard,T.n_Yard_rods_under,dR _ _ _,_,U,A.r,_,U,DPut.k (k:=Sum.inl y.next) (h2.get 5 U) (sizeOk (show y.rods.length<=1000000 by have:=sm.r; omega)),?_⟩
     have h3:Has _ (yL t.c_Yard A { y with next:=y.next+1,kinds:=aM y.kinds (Sum.inl y.next) (.str k.str),rods:=aM y.rods (Sum.inl y.next) rod }++L):=h2.puti 5 U (.dK (aM y.rods (Sum.inl y.next) rod))
     exact fin _ A _ rfl (fun _=>rfl) (by unfold bE; rw[if_neg hb,if_pos hp,if_neg hn,if_neg (fun z=>hn z.2)]) h3
   ·exact fin _ A _ rfl (fun _=>rfl) (by unfold bE; rw[if_neg hb,if_neg (by rw[hp]; exact Bool.false_ne_true),if_neg (fun z=>by rw[hp] at z; exact Bool.false_ne_true z.1)]) h2
end
noncomputable abbrev kE (n e:Int):List Key:=[Sum.inl n,Sum.inl e]
theorem cq (A:YA) (next:Int) (eng:V):(fl A next eng).lookup ("check_there" : Str)=none/\(fl A next eng).lookup ("mate" : Str)=none/\(fl A next eng).lookup ("link" : Str)=none/\(fl A next eng).lookup ("unlink" : Str)=none :=
 ⟨by kernel_rfl,by kernel_rfl,by kernel_rfl,by kernel_rfl⟩
noncomputable def There (y:YR) (n e:Int):Prop:=∃ k:Kd,aG y.kinds (Sum.inl n)=some (.str k.str)/\0<=e/\e<k.many
inductive sp_check_there (C:Addr) (vs:List V) (H:Hp) (Q:VK) (E_:XK):Prop
 | mk (A:YA) (y:YR) (L:Kn) (b:Addr) (n e:Int) (j:Nat) (_:vs=[.ref A.p,.ref b]) (_:Has H (yL C A y++L)) (_:L[j]?=some (b,.tup [.int n,.int e])) (_:There y n e) (_:Q .non H):sp_check_there C vs H Q E_
inductive sp_mate (C:Addr) (vs:List V) (H:Hp) (Q:VK) (E_:XK):Prop
 | mk (A:YA) (y:YR) (L:Kn) (b:Addr) (n e:Int) (j:Nat) (_:vs=[.ref A.p,.ref b]) (_:Has H (yL C A y++L)) (_:L[j]?=some (b,.tup [.int n,.int e])) (_:There y n e) (_:Q ((aG y.mates (kE n e)).getD .non) H):sp_mate C vs H Q E_
inductive sp_link (C:Addr) (vs:List V) (H:Hp) (Q:VK) (E_:XK):Prop
 | mk (A:YA) (y:YR) (L:Kn) (b1 b2:Addr) (n1 e1 n2 e2:Int) (j1 j2:Nat) (_:vs=[.ref A.p,.ref b1,.ref b2]) (_:Has H (yL C A y++L)) (_:L[j1]?=some (b1,.tup [.int n1,.int e1])) (_:L[j2]?=some (b2,.tup [.int n2,.int e2])) (_:There y n1 e1) (_:There y n2 e2) (_:¬ kE n1 e1=kE n2 e2) (_:aG y.mates (kE n1 e1)=none) (_:aG y.mates (kE n2 e2)=none) (_:y.mates.length<=30000) (_:∀ H' q,Has H' (yL C { A with tr:=q } { y with mates:=aM (aM y.mates (kE n1 e1) (.ref b2)) (kE n2 e2) (.ref b1),trail:=[] }++L)->Q .non H'):sp_link C vs H Q E_
inductive sp_unlink (C:Addr) (vs:List V) (H:Hp) (Q:VK) (E_:XK):Prop
 | mk (A:YA) (y:YR) (L:Kn) (b1 b2:Addr) (n1 e1 n2 e2:Int) (j1 j2:Nat) (v:V) (_:vs=[.ref A.p,.ref b1]) (_:Has H (yL C A y++L)) (_:L[j1]?=some (b1,.tup [.int n1,.int e1])) (_:L[j2]?=some (b2,.tup [.int n2,.int e2])) (_:There y n1 e1) (_:¬ kE n2 e2=kE n1 e1) (_:aG y.mates (kE n1 e1)=some (.ref b2)) (_:aG y.mates (kE n2 e2)=some v) (_:∀ H' q,Has H' (yL C { A with tr:=q } { y with mates:=pU (pU y.mates (kE n1 e1)) (kE n2 e2),trail:=[] }++L)->Q .non H'):sp_unlink C vs H Q E_
section
variable {P:Program}{w:World}{K:PySem.W.Frag}{mg:Str->Option Value}{base:Heap}{t:Adr}
theorem scCt:FnScope ["self","end","piece","place"] ["self","end"] (aj sO):={}
theorem jN (T:Txt K mg t):FnOk P w K mg base CX0 3 t.f_J5 t.d_J5 ["self","end"] (sp_check_there t.c_Yard):=by
 refine T.F_J5.ok scCt (fun vs H Q E h=>?_) (fun cdv A outer s H vs Q E hr h=>?_)
 ·obtain⟨_,_,_,_,_,_,_,rfl,_⟩:=h
  rfl
 ·obtain⟨A,y,L,b,n,e,j,rfl,hH,hj,⟨k,hk,e0,e1⟩,q⟩:=h
  have hu:=cS hr
  refine⟨_,(ae (bK (pv 1) (bx rfl (ay (aq (i:=2) scCt.nd rfl (Or.inl rfl)) (ay (aq (i:=3) scCt.nd rfl (Or.inl rfl)) bc))))
   (ae (ar (aC (pv 0) T.cl_Yard T.M_J6 (mE T) hr (rQ T) .nil aF (aa (pv 2) ag)))
   (ai (ar (pcl (pD T) hr T.m_Jw T.F_Jw.kp (sY T) (aa (fg hu (aA (pv 0) rfl) (pv 2)) (aa (pv 3) ag))))))),?_⟩
  have gb:=hH.get (j+9) (by simpa [yL] using hj)
  refine⟨_,U,b,_,U,SqT.of gb,U,_,_,U,_,_,U,U,?_⟩
  refine⟨_,U,A.p,A.dx,_,U,hH.get 1 U,(bQ _ _ _).2.2.2.2.2.2.2.1,_,U,A,y,L,n,_,U,hH,hk,?_⟩
  refine⟨_,U,A.p,_,A.dx,_,_,U,hH.get 1 U,T.cl_Yard,T.n_Yard_kinds,dS _ _ _,_,U,A.k,_,U,?_,_,U,k,e,U,e0,e1,q⟩
  rw[<- hk]
  exact DGet.k (k:=Sum.inl n) (hH.get 3 U)
theorem scMt:FnScope ["self","end"] ["self","end"] (aj pe):={}
theorem qY (T:Txt K mg t):FnOk P w K mg base CX0 4 t.f_J71 t.d_J71 ["self","end"] (sp_mate t.c_Yard):=by
 refine T.F_J71.ok scMt (fun vs H Q E h=>?_) (fun cdv A outer s H vs Q E hr h=>?_)
 ·obtain⟨_,_,_,_,_,_,_,rfl,_⟩:=h
  rfl
 ·obtain⟨A,y,L,b,n,e,j,rfl,hH,hj,th,q⟩:=h
  have hu:=cS hr
  refine⟨_,(ae (ar (aC (pv 0) T.cl_Yard T.M_J5 (jN T) hr (ox T) .nil aF (aa (pv 1) ag)))
   (ai (au (fJ hu (aA (pv 0) rfl) (pv 1) ⟨U,U,U,U⟩)))),?_⟩
  have gb:=hH.get (j+9) (by simpa [yL] using hj)
  refine⟨_,U,A.p,A.dx,_,U,hH.get 1 U,(cq _ _ _).1,_,U,A,y,L,b,n,e,j,U,hH,hj,th,?_⟩
  exact⟨_,U,A.p,_,A.dx,_,_,U,hH.get 1 U,T.cl_Yard,T.n_Yard_mates,cW _ _ _,A.m,U,.inr ⟨_,.inl (hH.get 7 U)⟩,_,U,_,DGet.t (k:=kE n e) (hH.get 7 U) gb,q⟩
theorem scLk:FnScope ["self","one","other","end"] ["self","one","other"] (aj pw):={}
theorem cF (T:Txt K mg t):FnOk P w K mg base CX0 4 t.f_J21 t.d_J21 ["self","one","other"] (sp_link t.c_Yard):=by
 refine T.F_J21.ok scLk (fun vs H Q E h=>?_) (fun cdv A outer s H vs Q E hr h=>?_)
 ·obtain⟨_,_,_,_,_,_,_,_,_,_,_,rfl,_⟩:=h
  rfl
 ·obtain⟨A,y,L,b1,b2,n1,e1,n2,e2,j1,j2,rfl,hH,hj1,hj2,t1,t2,ne,v1,v2,hl,q⟩:=h
  have hu:=cS hr
  refine⟨_,(ae (ar (aC (pv 0) T.cl_Yard T.M_J5 (jN T) hr (ox T) .nil aF (aa (pv 1) ag)))
   (ae (ar (aC (pv 0) T.cl_Yard T.M_J5 (jN T) hr (ox T) .nil aF (aa (pv 2) ag)))
   (ae (aD (ak (qG hr.units) (pv 1) (pv 2) (ao _))
    (ai aZ)
    ap)
   (ae (bi PassesOwn.never rfl (qz (az (aa (pv 1) (aa (pv 2) ag)))) (aq (i:=3) scLk.nd rfl (Or.inl rfl))
    (ai (aD (g7 (lY hu (pv 3) (aA (pv 0) rfl)))
      (ai aZ)
      ap)))
   (ae (db hu (aA (pv 0) rfl) (pv 1) (pv 2) rfl)
   (ae (db hu (aA (pv 0) rfl) (pv 2) (pv 1) rfl)
   (ai (ar (aV (pv 0) T.cl_Yard T.M_J7 (jM T) hr (ou T) .nil aF))))))))),?_⟩
  have g1:=hH.get (j1+9) (by simpa [yL] using hj1)
  have g2:=hH.get (j2+9) (by simpa [yL] using hj2)
  refine⟨_,U,A.p,A.dx,_,U,hH.get 1 U,(cq _ _ _).1,_,U,A,y,L,b1,n1,e1,j1,U,hH,hj1,t1,?_⟩
  refine⟨_,U,A.p,A.dx,_,U,hH.get 1 U,(cq _ _ _).1,_,U,A,y,L,b2,n2,e2,j2,U,hH,hj2,t2,?_⟩
  have ne':¬ [n1,e1]=[n2,e2]:=fun z=>ne (by cases z; rfl)
  refine⟨_,U,_,U,b1,b2,[n1,e1],[n2,e2],U,U,g1,g2,_,U,ifF (decide_eq_false ne') ?_⟩
  refine⟨_,U,_,U,(show 2<=sizeLine by decide),fun p hp=>?_⟩
  have h1:=(hH.alloc hp (.tup [.ref b1,.ref b2]))
  generalize upd H p _=H1 at h1 ⊢
  refine⟨p,U,⟨_,SqT.of (h1.get 0 U)⟩,og (xs:=[.ref b1,.ref b2]) (fun i σ H'=>H'=H1/\∃ o,σ=[some (.ref A.p),some (.ref b1),some (.ref b2),o]) ⟨U,_,U⟩ (fun i σ H' _ ⟨e,_⟩=>by rw[e]; exact SqT.of (h1.get 0 U)) ?_ ?_⟩
  ·rintro i x σ H' hx ⟨rfl,o,rfl⟩
   have k1:=h1.get (j1+10) (by simpa [yL] using hj1)
   have k2:=h1.get (j2+10) (by simpa [yL] using hj2)
   match i,hx with
   | 0,hx=>
    cases hx
    refine⟨_,U,_,U,A.p,_,A.dx,_,_,U,h1.get 2 U,T.cl_Yard,T.n_Yard_mates,cW _ _ _,A.m,_,U,DGet.t (k:=kE n1 e1) (h1.get 8 U) k1,_,U,ifF (by rw[v1]; rfl) ⟨U,_,U⟩⟩
   | 1,hx=>
    cases hx
    refine⟨_,U,_,U,A.p,_,A.dx,_,_,U,h1.get 2 U,T.cl_Yard,T.n_Yard_mates,cW _ _ _,A.m,_,U,DGet.t (k:=kE n2 e2) (h1.get 8 U) k2,_,U,ifF (by rw[v2]; rfl) ⟨U,_,U⟩⟩
  ·rintro σ H' ⟨rfl,o,rfl⟩
   have h2:=h1.tail
   have k1:=h2.get (j1+9) (by simpa [yL] using hj1)
   refine⟨_,U,_,U,A.p,_,A.dx,_,_,U,h2.get 1 U,T.cl_Yard,T.n_Yard_mates,cW _ _ _,_,U,A.m,_,U,DPut.t (k:=kE n1 e1) (h2.get 7 U) k1 (sizeOk (by omega)),?_⟩
   have h3:Has _ (yL t.c_Yard A { y with mates:=aM y.mates (kE n1 e1) (.ref b2) }++L):=h2.puti 7 U (.dT (aM y.mates (kE n1 e1) (.ref b2)))
   generalize upd H' A.m _=H3 at h3 ⊢
   have k2:=h3.get (j2+9) (by simpa [yL] using hj2)
   refine⟨_,U,_,U,A.p,_,A.dx,_,_,U,h3.get 1 U,T.cl_Yard,T.n_Yard_mates,cW _ _ _,_,U,A.m,_,U,DPut.t (k:=kE n2 e2) (h3.get 7 U) k2 (sizeOk (Nat.le_trans (bq _ _ _) (by omega))),?_⟩
   have h4:Has _ (yL t.c_Yard A { y with mates:=aM (aM y.mates (kE n1 e1) (.ref b2)) (kE n2 e2) (.ref b1) }++L):=h3.puti 7 U (.dT (aM (aM y.mates (kE n1 e1) (.ref b2)) (kE n2 e2) (.ref b1)))
   exact⟨_,U,A.p,A.dx,_,U,h4.get 1 U,(bQ _ _ _).2.2.2.2.2.2.1,A,_,L,U,h4,fun H' a h2=>q H' a h2⟩
end
theorem gN (A:YA) (next:Int) (eng:V):(fl A next eng).lookup ("put" : Str)=none/\(fl A next eng).lookup ("off" : Str)=none/\(fl A next eng).lookup ("carry" : Str)=none/\(fl A next eng).lookup ("pieces" : Str)=none/\(fl A next eng).lookup ("kind" : Str)=none /\
  (fl A next eng).lookup ("note" : Str)=none/\(fl A next eng).lookup ("engine" : Str)=none/\(fl A next eng).lookup ("bells" : Str)=none/\(fl A next eng).lookup ("steps" : Str)=none :=
 ⟨by kernel_rfl,by kernel_rfl,by kernel_rfl,by kernel_rfl,by kernel_rfl,by kernel_rfl,by kernel_rfl,by kernel_rfl,by kernel_rfl⟩
inductive sp_put (C:Addr) (vs:List V) (H:Hp) (Q:VK) (E_:XK):Prop
 | mk (A:YA) (y:YR) (L:Kn) (b:Addr) (n e:Int) (j:Nat) (_:vs=[.ref A.p,.ref b]) (_:Has H (yL C A y++L)) (_:L[j]?=some (b,.tup [.int n,.int e])) (_:There y n e) (_:∀ H' q,Has H' (yL C { A with tr:=q } { y with eng:=.ref b,trail:=[] }++L)->Q .non H'):sp_put C vs H Q E_
inductive sp_off (C:Addr) (vs:List V) (H:Hp) (Q:VK) (E_:XK):Prop
 | mk (A:YA) (y:YR) (L:Kn) (_:vs=[.ref A.p]) (_:Has H (yL C A y++L)) (_:∀ H' q,Has H' (yL C { A with tr:=q } { y with eng:=.non,trail:=[] }++L)->Q .non H'):sp_off C vs H Q E_
inductive sp_engine (C:Addr) (vs:List V) (H:Hp) (Q:VK) (E_:XK):Prop
 | mk (A:YA) (y:YR) (L:Kn) (_:vs=[.ref A.p]) (_:Has H (yL C A y++L)) (_:Q y.eng H):sp_engine C vs H Q E_
inductive sp_steps (C:Addr) (vs:List V) (H:Hp) (Q:VK) (E_:XK):Prop
 | mk (A:YA) (y:YR) (L:Kn) (_:vs=[.ref A.p]) (_:Has H (yL C A y++L)) (_:Q (.int y.trail.length) H):sp_steps C vs H Q E_
inductive sp_bells (C:Addr) (vs:List V) (H:Hp) (Q:VK) (E_:XK):Prop
 | mk (A:YA) (y:YR) (L:Kn) (_:vs=[.ref A.p]) (_:Has H (yL C A y++L)) (_:∀ H' l,Has H' ((l,.lst y.rung)::(yL C A y++L))->Q (.ref l) H'):sp_bells C vs H Q E_
inductive sp_pieces (C:Addr) (vs:List V) (H:Hp) (Q:VK) (E_:XK):Prop
 | mk (A:YA) (y:YR) (L:Kn) (_:vs=[.ref A.p]) (_:Has H (yL C A y++L)) (_:∀ H' l,Has H' ((l,.lst (y.kinds.map fun kv=>kV kv.1))::(yL C A y++L))->Q (.ref l) H'):sp_pieces C vs H Q E_
inductive sp_ykind (C:Addr) (vs:List V) (H:Hp) (Q:VK) (E_:XK):Prop
 | mk (A:YA) (y:YR) (L:Kn) (n:Int) (v:V) (_:vs=[.ref A.p,.int n]) (_:Has H (yL C A y++L)) (_:aG y.kinds (Sum.inl n)=some v) (_:Q v H):sp_ykind C vs H Q E_
inductive sp_ynote (C:Addr) (vs:List V) (H:Hp) (Q:VK) (E_:XK):Prop
 | mk (A:YA) (y:YR) (L:Kn) (n:Int) (u v:V) (_:vs=[.ref A.p,.int n]) (_:Has H (yL C A y++L)) (_:aG y.kinds (Sum.inl n)=some u) (_:aG y.notes (Sum.inl n)=some v) (_:Q v H):sp_ynote C vs H Q E_
section
variable {P:Program}{w:World}{K:PySem.W.Frag}{mg:Str->Option Value}{base:Heap}{t:Adr}
theorem scPu:FnScope ["self","end"] ["self","end"] (aj o0):={}
theorem qV (T:Txt K mg t):FnOk P w K mg base CX0 4 t.f_Jc1 t.d_Jc1 ["self","end"] (sp_put t.c_Yard):=by
 refine T.F_Jc1.ok scPu (fun vs H Q E h=>?_) (fun cdv A outer s H vs Q E hr h=>?_)
 ·obtain⟨_,_,_,_,_,_,_,rfl,_⟩:=h
  rfl
 ·obtain⟨A,y,L,b,n,e,j,rfl,hH,hj,th,q⟩:=h
  refine⟨_,(ae (ar (aC (pv 0) T.cl_Yard T.M_J5 (jN T) hr (ox T) .nil aF (aa (pv 1) ag)))
   (ae (bj (pv 0) (pv 1) rfl)
   (ai (ar (aV (pv 0) T.cl_Yard T.M_J7 (jM T) hr (ou T) .nil aF))))),?_⟩
  refine⟨_,U,A.p,A.dx,_,U,hH.get 1 U,(cq _ _ _).1,_,U,A,y,L,b,n,e,j,U,hH,hj,th,?_⟩
  refine⟨_,U,_,U,A.p,_,A.dx,_,U,hH.get 1 U,T.cl_Yard,T.n_Jn_end,(show 9<1000 by decide),?_⟩
  rw[cc]
  have h1:Has _ (yL t.c_Yard A { y with eng:=.ref b }++L):=hH.puti 1 U (.ins t.c_Yard A.dx (fl A y.next (.ref b)))
  exact⟨_,U,A.p,A.dx,_,U,h1.get 1 U,(bQ _ _ _).2.2.2.2.2.2.1,A,_,L,U,h1,fun H' a h2=>q H' a h2⟩
theorem scEg:FnScope ["self"] ["self"] (aj sr):={}
theorem pH (T:Txt K mg t):FnOk P w K mg base CX0 1 t.f_Jn t.d_Jn ["self"] (sp_engine t.c_Yard):=by
 refine T.F_Jn.ok scEg (fun vs H Q E h=>?_) (fun cdv A outer s H vs Q E hr h=>?_)
 ·obtain⟨_,_,_,rfl,_⟩:=h
  rfl
 ·obtain⟨A,y,L,rfl,hH,q⟩:=h
  refine⟨_,(ai (au (aA (pv 0) rfl))),?_⟩
  exact⟨_,U,A.p,_,A.dx,_,_,U,hH.get 1 U,T.cl_Yard,T.n_Jn_end,jq _ _ _,q⟩
theorem scBe:FnScope ["self"] ["self"] (aj sj):={}
theorem ok_Jr (T:Txt K mg t):FnOk P w K mg base CX0 1 t.f_Jr t.d_Jr ["self"] (sp_bells t.c_Yard):=by
 refine T.F_Jr.ok scBe (fun vs H Q E h=>?_) (fun cdv A outer s H vs Q E hr h=>?_)
 ·obtain⟨_,_,_,rfl,_⟩:=h
  rfl
 ·obtain⟨A,y,L,rfl,hH,q⟩:=h
  refine⟨_,(ai (au (a9 ba (by rfl) T.z_list (by rfl) (aa (aA (pv 0) rfl) ag)))),?_⟩
  exact⟨_,U,A.p,_,A.dx,_,_,U,hH.get 1 U,T.cl_Yard,T.n_Yard_rung,ic _ _ _,A.g,_,U,.inl (SqL.of (hH.get 8 U)),fun l hl=>q _ l (hH.alloc hl _)⟩
theorem scYk:FnScope ["self","piece"] ["self","piece"] (aj pf):={}
theorem qZ (T:Txt K mg t):FnOk P w K mg base CX0 2 t.f_J61 t.d_J61 ["self","piece"] (sp_ykind t.c_Yard):=by
 refine T.F_J61.ok scYk (fun vs H Q E h=>?_) (fun cdv A outer s H vs Q E hr h=>?_)
 ·obtain⟨_,_,_,_,_,rfl,_⟩:=h
  rfl
 ·obtain⟨A,y,L,n,v,rfl,hH,hv,q⟩:=h
  have hu:=cS hr
  refine⟨_,(ae (ar (aC (pv 0) T.cl_Yard T.M_J6 (mE T) hr (rQ T) .nil aF (aa (pv 1) ag)))
   (ai (au (fg hu (aA (pv 0) rfl) (pv 1))))),?_⟩
  refine⟨_,U,A.p,A.dx,_,U,hH.get 1 U,(bQ _ _ _).2.2.2.2.2.2.2.1,_,U,A,y,L,n,v,U,hH,hv,?_⟩
  refine⟨_,U,A.p,_,A.dx,_,_,U,hH.get 1 U,T.cl_Yard,T.n_Yard_kinds,dS _ _ _,_,U,A.k,_,U,?_,q⟩
  rw[<- hv]
  exact DGet.k (k:=Sum.inl n) (hH.get 3 U)
end
structure PA where
 p:Addr
 dx:Addr
 m:Addr
 w:Addr
 s:Addr
noncomputable def pfl (A:PA):List (Str×V):=[("mark_sides",.ref A.m),("counter_widths",.ref A.w),("stretches",.ref A.s)]
theorem lU (A:PA):(pfl A).lookup ("mark_sides" : Str)=some (.ref A.m):=by kernel_rfl
theorem lR (A:PA):(pfl A).lookup ("counter_widths" : Str)=some (.ref A.w):=by kernel_rfl
theorem iG (A:PA):(pfl A).lookup ("stretches" : Str)=some (.ref A.s):=by kernel_rfl
theorem cL (A:PA):(pfl A).lookup ("many" : Str)=none/\(pfl A).lookup ("marks" : Str)=none/\(pfl A).lookup ("widths" : Str)=none/\(pfl A).lookup ("row_at" : Str)=none/\(pfl A).lookup ("check_beginning" : Str)=none/\(pfl A).lookup ("check_rows" : Str)=none/\(pfl A).lookup ("check_part" : Str)=none :=
 ⟨by kernel_rfl,by kernel_rfl,by kernel_rfl,by kernel_rfl,by kernel_rfl,by kernel_rfl,by kernel_rfl⟩
inductive Rw where
 | bell (n:Int)
 | set (m s:Int)
 | ask (m a b:Int)
 | bump (c r:Int)
 | go (r:Int)
 | fin
noncomputable def Rw.ws:Rw->Str
 | .bell _ => "bell"
 | .set _ _ => "set"
 | .ask _ _ _ => "ask"
 | .bump _ _ => "bump"
 | .go _ => "go"
 | .fin => "end"
noncomputable def Rw.ns:Rw->List Int
 | .bell n=>[n]
 | .set m s=>[m,s]
 | .ask m a b=>[m,a,b]
 | .bump c r=>[c,r]
 | .go r=>[r]
 | .fin=>[]
noncomputable def Rw.v (x:Rw):List V:=.str x.ws::x.ns.map V.int
noncomputable def Rw.ps:Rw->List Str
 | .bell _=>["note"]
 | .set _ _=>["mark","side"]
 | .ask _ _ _=>["mark","row","row"]
 | .bump _ _=>["counter","row"]
 | .go _=>["row"]
 | .fin=>[]
noncomputable def Rw.last:Rw->Bool
 | .ask _ _ _=>true
 | .go _=>true
 | .fin=>true
 | _=>false
noncomputable def Rw.ok (nm nc nr k ns:Nat):Rw->Prop
 | .bell n=>0<=n/\n<=9999
 | .set m s=>0<=m/\m<nm/\(s=1∨s=2)
 | .ask m a b=>0<=m/\m<nm/\0<=a/\a<nr/\0<=b/\b<nr
 | .bump c r=>0<=c/\c<nc/\0<=r/\r<nr
 | .go r=>0<=r/\r<nr
 | .fin=>True
theorem Rw.len (x:Rw):x.ps.length=x.ns.length:=by cases x <;> rfl
theorem Rw.psl (x:Rw):x.ps.length<=1000:=by cases x <;> simp[Rw.ps]
theorem Rw.nsl (x:Rw):x.ns.length+1<=4:=by cases x <;> simp[Rw.ns]
theorem Rw.lastIn:∀ (x:Rw),x.last=true->(!inV (.str x.ws) [.str "ask",.str "go",.str "end"])=false
 | .ask _ _ _,_=>(by decide +kernel:(!inV (.str ("ask" : Str)) [.str "ask",.str "go",.str "end"])=false)
 | .go _,_=>(by decide +kernel:(!inV (.str ("go" : Str)) [.str "ask",.str "go",.str "end"])=false)
 | .fin,_=>(by decide +kernel:(!inV (.str ("end" : Str)) [.str "ask",.str "go",.str "end"])=false)
 | .bell _,h=>nomatch h
 | .set _ _,h=>nomatch h
 | .bump _ _,h=>nomatch h
theorem cutok {n:Nat} (h1:1<=n) (h2:n<=4):¬ (HT.sIx n 0 (some 1)=0/\HT.sIx n n none=n):=by
 match n with
 | 1=>decide
 | 2=>decide
 | 3=>decide
 | 4=>decide
noncomputable def partsD:List (Str×List Str):=[("bell",["note"]),("set",["mark","side"]),("ask",["mark","row","row"]),("bump",["counter","row"]),("go",["row"]),("call",["stretch"]),("end",[])]
theorem Rw.parts (x:Rw):partsD.lookup x.ws=some x.ps:=by cases x <;> rfl
noncomputable def rwV (rs:List (Addr×Rw)):List V:=rs.map fun x=>V.ref x.1
noncomputable abbrev Ss:=List (Addr×List (Addr×Rw))
noncomputable def ssV (ss:Ss):List V:=ss.map fun z=>V.ref z.1
noncomputable def nA (nm nc nr k ns:Nat) (p:Str) (n:Int):Prop :=
 (p = "note" /\ 0<=n/\n<=9999)∨(p = "mark" /\ 0<=n/\n<nm)∨(p = "side" /\ (n=1∨n=2))∨(p = "counter" /\ 0<=n/\n<nc)∨(p = "row" /\ 0<=n/\n<nr)
theorem Rw.part {nm nc nr k ns:Nat}{x:Rw} (h:x.ok nm nc nr k ns) {i:Nat}{p:Str}{n:Int} (hp:x.ps[i]?=some p) (hn:x.ns[i]?=some n):nA nm nc nr k ns p n:=by
 cases x with
 | bell k=>
  match i with
  | 0=>cases hp; cases hn; exact .inl ⟨U,h⟩
  | i+1=>cases hp
 | set m s=>
  match i with
  | 0=>cases hp; cases hn; exact .inr (.inl ⟨U,h.1,h.2.1⟩)
  | 1=>cases hp; cases hn; exact .inr (.inr (.inl ⟨U,h.2.2⟩))
  | i+2=>cases hp
 | ask m a b=>
  match i with
  | 0=>cases hp; cases hn; exact .inr (.inl ⟨U,h.1,h.2.1⟩)
  | 1=>cases hp; cases hn; exact .inr (.inr (.inr (.inr ⟨U,h.2.2.1,h.2.2.2.1⟩)))
  | 2=>cases hp; cases hn; exact .inr (.inr (.inr (.inr ⟨U,h.2.2.2.2.1,h.2.2.2.2.2⟩)))
  | i+3=>cases hp
 | bump c r=>
  match i with
  | 0=>cases hp; cases hn; exact .inr (.inr (.inr (.inl ⟨U,h.1,h.2.1⟩)))
  | 1=>cases hp; cases hn; exact .inr (.inr (.inr (.inr ⟨U,h.2.2.1,h.2.2.2⟩)))
  | i+2=>cases hp
 | go r=>
  match i with
  | 0=>cases hp; cases hn; exact .inr (.inr (.inr (.inr ⟨U,h.1,h.2⟩)))
  | i+1=>cases hp
 | fin=>cases hp
structure PIn (C:Addr) (A:PA) (ms ws:List Int) (ss:Ss) (L:Kn):Prop where
 p:(A.p,HO.ins C A.dx (pfl A)) ∈ L
 m:(A.m,HO.lst (ms.map V.int)) ∈ L
 w:(A.w,HO.lst (ws.map V.int)) ∈ L
 s:(A.s,HO.lst (ssV ss)) ∈ L
 l:∀ z ∈ ss,(z.1,HO.lst (rwV z.2)) ∈ L
 r:∀ z ∈ ss,∀ x ∈ z.2,(x.1,HO.tup x.2.v) ∈ L
structure PInN (C:Addr) (A:PA) (ms ws:List Int) (ss:Ss) (N:Kn):Prop where
 p:(A.p,HO.ins C A.dx (pfl A)) ∈ N
 m:(A.m,HO.lst (ms.map V.int)) ∈ N
 w:(A.w,HO.lst (ws.map V.int)) ∈ N
 s:(A.s,HO.lst (ssV ss)) ∈ N
 l:∀ z ∈ ss,(z.1,HO.lst (rwV z.2)) ∈ N
theorem PIn.mono {C:Addr}{A:PA}{ms ws:List Int}{ss:Ss}{L L':Kn} (h:PIn C A ms ws ss L) (s:∀ z ∈ L,z ∈ L'):PIn C A ms ws ss L' :=
 ⟨s _ h.p,s _ h.m,s _ h.w,s _ h.s,fun z hz=>s _ (h.l z hz),fun z hz x hx=>s _ (h.r z hz x hx)⟩
noncomputable def Good (nm nc:Nat) (ss:Ss):Prop:=∀ (k:Nat) z,ss[k]?=some z->(∀ x ∈ z.2,x.2.ok nm nc z.2.length k ss.length)/\∃ a y,z.2.getLast?=some (a,y)/\y.last=true
theorem c9 {ss:Ss}{k:Nat}{z:Addr×List (Addr×Rw)} (h:ss[k]?=some z):(ssV ss)[k]?=some (.ref z.1):=by unfold ssV; rw[tS,h]; rfl
theorem jH {rs:List (Addr×Rw)}{k:Nat}{z:Addr×Rw} (h:rs[k]?=some z):(rwV rs)[k]?=some (.ref z.1):=by unfold rwV; rw[tS,h]; rfl
theorem Good.tr {nm nc:Nat}{ss ss':Ss} (e:ss'.map (·.2)=ss.map (·.2)) (h:Good nm nc ss):Good nm nc ss':=by
 intro k z hz
 have hl:ss'.length=ss.length:=by simpa using congrArg List.length e
 have e2:(ss.map (·.2))[k]?=some z.2:=by rw[<- e,tS,hz]; rfl
 rw[tS] at e2
 obtain⟨z',h1,h2⟩:=Option.map_eq_some_iff.mp e2
 have:=h k z' h1
 rw[h2] at this
 rw[hl]
 exact this
inductive sp_Jq (vs:List V) (H:Hp) (Q:VK) (E_:XK):Prop
 | mk (n:Int) (m:Nat) (_:vs=[.int n,.int m]) (_:0<=n) (_:n<m) (_:Q .non H):sp_Jq vs H Q E_
inductive sp_Jm (vs:List V) (H:Hp) (Q:VK) (E_:XK):Prop
 | mk (n:Int) (_:vs=[.int n]) (_:1<=n) (_:n<=8) (_:Q .non H):sp_Jm vs H Q E_
inductive sp_greatest (vs:List V) (H:Hp) (Q:VK) (E_:XK):Prop
 | mk (n:Nat) (_:vs=[.int n]) (_:n<=8) (_:Q (.int (1*2 ^ n - 1)) H):sp_greatest vs H Q E_
inductive sp_many (C:Addr) (vs:List V) (H:Hp) (Q:VK) (E_:XK):Prop
 | mk (A:PA) (st:List V) (_:vs=[.ref A.p]) (_:H A.p=some (.ins C A.dx (pfl A))) (_:H A.s=some (.lst st)) (_:Q (.int st.length) H):sp_many C vs H Q E_
inductive sp_pmarks (C:Addr) (vs:List V) (H:Hp) (Q:VK) (E_:XK):Prop
 | mk (A:PA) (ms:List V) (L:Kn) (_:vs=[.ref A.p]) (_:Has H L) (_:(A.p,HO.ins C A.dx (pfl A)) ∈ L) (_:(A.m,HO.lst ms) ∈ L) (_:∀ H' l,Has H' ((l,.lst ms)::L)->Q (.ref l) H'):sp_pmarks C vs H Q E_
inductive sp_pwidths (C:Addr) (vs:List V) (H:Hp) (Q:VK) (E_:XK):Prop
 | mk (A:PA) (ms:List V) (L:Kn) (_:vs=[.ref A.p]) (_:Has H L) (_:(A.p,HO.ins C A.dx (pfl A)) ∈ L) (_:(A.w,HO.lst ms) ∈ L) (_:∀ H' l,Has H' ((l,.lst ms)::L)->Q (.ref l) H'):sp_pwidths C vs H Q E_
inductive sp_row_at (C:Addr) (vs:List V) (H:Hp) (Q:VK) (E_:XK):Prop
 | mk (A:PA) (st:List V) (k:Nat) (rl:Addr) (rs:List V) (n:Nat) (v:V) (_:vs=[.ref A.p,.int k,.int n]) (_:H A.p=some (.ins C A.dx (pfl A))) (_:H A.s=some (.lst st)) (_:st[k]?=some (.ref rl)) (_:H rl=some (.lst rs)) (_:rs[n]?=some v) (_:Q v H):sp_row_at C vs H Q E_
inductive sp_check_beginning (C:Addr) (vs:List V) (H:Hp) (Q:VK) (E_:XK):Prop
 | mk (A:PA) (ms ws:List Int) (ss:Ss) (L:Kn) (_:vs=[.ref A.p]) (_:Has H L) (_:PIn C A ms ws ss L) (_:(∀ x ∈ ms,x=1∨x=2)) (_:(∀ x ∈ ws,1<=x/\x<=8)) (_:ss≠[]) (_:Q .non H):sp_check_beginning C vs H Q E_
noncomputable def qq:Sp:=fun _ _ _ _=>False
inductive sp_check_part (C:Addr) (vs:List V) (H:Hp) (Q:VK) (E_:XK):Prop
 | mk (A:PA) (ms ws:List Int) (ss:Ss) (L:Kn) (k:Nat) (p:Str) (n:Int) (z:Addr×List (Addr×Rw)) (_:vs=[.ref A.p,.str p,.int n,.int k]) (_:Has H L) (_:PIn C A ms ws ss L) (_:ss[k]?=some z) (_:nA ms.length ws.length z.2.length k ss.length p n) (_:Q .non H):sp_check_part C vs H Q E_
inductive sp_check_rows (C:Addr) (vs:List V) (H:Hp) (Q:VK) (E_:XK):Prop
 | mk (A:PA) (ms ws:List Int) (ss:Ss) (L:Kn) (k:Nat) (z:Addr×List (Addr×Rw)) (_:vs=[.ref A.p,.int k]) (_:Has H L) (_:PIn C A ms ws ss L) (_:ss[k]?=some z) (_:(∀ x ∈ z.2,x.2.ok ms.length ws.length z.2.length k ss.length)) (_:(∃ a y,z.2.getLast?=some (a,y)/\y.last=true)) (_:∀ H',Has H' L->Q .non H'):sp_check_rows C vs H Q E_
inductive sp_Pinit (C:Addr) (vs:List V) (H:Hp) (Q:VK) (E_:XK):Prop
 | mk (p dx m0 w0 s0:Addr) (ms ws:List Int) (ss:Ss) (L:Kn) (_:vs=[.ref p,.ref m0,.ref w0,.ref s0]) (_:Has H ((p,.ins C dx [])::(dx,.own p)::L)) (_:(m0,HO.lst (ms.map V.int)) ∈ L) (_:(w0,HO.lst (ws.map V.int)) ∈ L) (_:(s0,HO.lst (ssV ss)) ∈ L) (_:(∀ z ∈ ss,(z.1,HO.lst (rwV z.2)) ∈ L)) (_:(∀ z ∈ ss,∀ x ∈ z.2,(x.1,HO.tup x.2.v) ∈ L)) (_:(∀ x ∈ ms,x=1∨x=2)) (_:(∀ x ∈ ws,1<=x/\x<=8)) (_:ss≠[]) (_:ss.length<=1000) (_:Good ms.length ws.length ss) (_:∀ H' A ss' N,A.p=p->ss'.map (·.2)=ss.map (·.2)->PInN C A ms ws ss' N->PIn C A ms ws ss' (N++L)->Has H' (N++L)->Q .non H'):sp_Pinit C vs H Q E_
section
variable {P:Program}{w:World}{K:PySem.W.Frag}{mg:Str->Option Value}{base:Heap}{t:Adr}
theorem scCm:FnScope ["mark","many"] ["mark","many"] (aj sk):={}
theorem pF (T:Txt K mg t):FnOk P w K mg base CX0 1 t.f_Jq t.d_Jq ["mark","many"] sp_Jq:=by
 refine T.F_Jq.ok scCm (fun vs H Q E h=>?_) (fun cdv A outer s H vs Q E hr h=>?_)
 ·obtain⟨_,_,rfl,_⟩:=h
  rfl
 ·obtain⟨n,m,rfl,n0,n1,q⟩:=h
  refine⟨_,(ai (aD (PW.pt (cK (ak b8 (pv 0) ah (ao _)) (b5 (ak gG (pv 0) (pv 1) (ao _)))))
    (ai aZ)
    ap)),?_⟩
  refine⟨_,U,_,_,U,U,_,U,ifF (decide_eq_false (by omega)) ?_⟩
  exact⟨_,U,_,U,_,_,U,U,_,U,ifF (decide_eq_false (by omega)) q⟩
theorem scCk:FnScope ["counter","many"] ["counter","many"] (aj sH):={}
theorem pM (T:Txt K mg t):FnOk P w K mg base CX0 1 t.f_Jb t.d_Jb ["counter","many"] sp_Jq:=by
 refine T.F_Jb.ok scCk (fun vs H Q E h=>?_) (fun cdv A outer s H vs Q E hr h=>?_)
 ·obtain⟨_,_,rfl,_⟩:=h
  rfl
 ·obtain⟨n,m,rfl,n0,n1,q⟩:=h
  refine⟨_,(ai (aD (PW.pt (cK (ak b8 (pv 0) ah (ao _)) (b5 (ak gG (pv 0) (pv 1) (ao _)))))
    (ai aZ)
    ap)),?_⟩
  refine⟨_,U,_,_,U,U,_,U,ifF (decide_eq_false (by omega)) ?_⟩
  exact⟨_,U,_,U,_,_,U,U,_,U,ifF (decide_eq_false (by omega)) q⟩
theorem scCw:FnScope ["row","many"] ["row","many"] (aj r8):={}
theorem pC (T:Txt K mg t):FnOk P w K mg base CX0 1 t.f_Jx t.d_Jx ["row","many"] sp_Jq:=by
 refine T.F_Jx.ok scCw (fun vs H Q E h=>?_) (fun cdv A outer s H vs Q E hr h=>?_)
 ·obtain⟨_,_,rfl,_⟩:=h
  rfl
 ·obtain⟨n,m,rfl,n0,n1,q⟩:=h
  refine⟨_,(ai (aD (PW.pt (cK (ak b8 (pv 0) ah (ao _)) (b5 (ak gG (pv 0) (pv 1) (ao _)))))
    (ai aZ)
    ap)),?_⟩
  refine⟨_,U,_,_,U,U,_,U,ifF (decide_eq_false (by omega)) ?_⟩
  exact⟨_,U,_,U,_,_,U,U,_,U,ifF (decide_eq_false (by omega)) q⟩
theorem scCi:FnScope ["width"] ["width"] (aj su):={}
theorem ok_Jm (T:Txt K mg t):FnOk P w K mg base CX0 1 t.f_Jm t.d_Jm ["width"] sp_Jm:=by
 refine T.F_Jm.ok scCi (fun vs H Q E h=>?_) (fun cdv A outer s H vs Q E hr h=>?_)
 ·obtain⟨_,rfl,_⟩:=h
  rfl
 ·obtain⟨n,rfl,n0,n1,q⟩:=h
  refine⟨_,(ai (aD (PW.pt (cK (ak b8 (pv 0) ah (ao _)) (b5 (ak cP (pv 0) (bL (by rfl) T.g_WIDEST T.r_WIDEST) (ao _)))))
    (ai aZ)
    ap)),?_⟩
  refine⟨_,U,_,_,U,U,_,U,ifF (decide_eq_false (by omega)) ?_⟩
  exact⟨_,U,_,_,U,U,_,U,ifF (decide_eq_false (by omega)) q⟩
theorem scCq:FnScope ["stretch","many"] ["stretch","many"] (aj sG):={}
theorem pL (T:Txt K mg t):FnOk P w K mg base CX0 1 t.f_Jc t.d_Jc ["stretch","many"] sp_Jq:=by
 refine T.F_Jc.ok scCq (fun vs H Q E h=>?_) (fun cdv A outer s H vs Q E hr h=>?_)
 ·obtain⟨_,_,rfl,_⟩:=h
  rfl
 ·obtain⟨n,m,rfl,n0,n1,q⟩:=h
  refine⟨_,(ai (aD (PW.pt (cK (ak b8 (pv 0) ah (ao _)) (b5 (ak gG (pv 0) (pv 1) (ao _)))))
    (ai aZ)
    ap)),?_⟩
  refine⟨_,U,_,_,U,U,_,U,ifF (decide_eq_false (by omega)) ?_⟩
  exact⟨_,U,_,U,_,_,U,U,_,U,ifF (decide_eq_false (by omega)) q⟩
theorem scPm:FnScope ["self"] ["self"] (aj sA):={}
theorem gI (T:Txt K mg t):FnOk P w K mg base CX0 1 t.f_Ji t.d_Ji ["self"] (sp_many t.c_Program):=by
 refine T.F_Ji.ok scPm (fun vs H Q E h=>?_) (fun cdv A outer s H vs Q E hr h=>?_)
 ·obtain⟨_,_,rfl,_⟩:=h
  rfl
 ·obtain⟨A,st,rfl,g1,g2,q⟩:=h
  refine⟨_,(ai (au (aN aI (by rfl) T.z_len (by rfl) (aa (aA (pv 0) rfl) ag)))),?_⟩
  exact⟨_,U,A.p,_,A.dx,_,_,U,g1,T.cl_Program,T.n_Program_stretches,iG _,A.s,_,U,.inl (SqL.of g2),q⟩
theorem scPk:FnScope ["self"] ["self"] (aj sF):={}
theorem ok_Jd (T:Txt K mg t):FnOk P w K mg base CX0 1 t.f_Jd t.d_Jd ["self"] (sp_pmarks t.c_Program):=by
 refine T.F_Jd.ok scPk (fun vs H Q E h=>?_) (fun cdv A outer s H vs Q E hr h=>?_)
 ·obtain⟨_,_,_,rfl,_⟩:=h
  rfl
 ·obtain⟨A,ms,L,rfl,hH,m1,m2,q⟩:=h
  refine⟨_,(ai (au (a9 ba (by rfl) T.z_list (by rfl) (aa (aA (pv 0) rfl) ag)))),?_⟩
  exact⟨_,U,A.p,_,A.dx,_,_,U,hH.at_ _ m1,T.cl_Program,T.n_Program_mark_sides,lU _,A.m,_,U,.inl (SqL.of (hH.at_ _ m2)),fun l hl=>q _ l (hH.alloc hl _)⟩
theorem scPw:FnScope ["self"] ["self"] (aj sK):={}
theorem ok_J8 (T:Txt K mg t):FnOk P w K mg base CX0 1 t.f_J8 t.d_J8 ["self"] (sp_pwidths t.c_Program):=by
 refine T.F_J8.ok scPw (fun vs H Q E h=>?_) (fun cdv A outer s H vs Q E hr h=>?_)
 ·obtain⟨_,_,_,rfl,_⟩:=h
  rfl
 ·obtain⟨A,ms,L,rfl,hH,m1,m2,q⟩:=h
  refine⟨_,(ai (au (a9 ba (by rfl) T.z_list (by rfl) (aa (aA (pv 0) rfl) ag)))),?_⟩
  exact⟨_,U,A.p,_,A.dx,_,_,U,hH.at_ _ m1,T.cl_Program,T.n_Program_counter_widths,lR _,A.w,_,U,.inl (SqL.of (hH.at_ _ m2)),fun l hl=>q _ l (hH.alloc hl _)⟩
theorem scCb:FnScope ["self","side","width"] ["self"] (aj sS):={}
theorem ok_J0 (T:Txt K mg t):FnOk P w K mg base CX0 2 t.f_J0 t.d_J0 ["self"] (sp_check_beginning t.c_Program):=by
 refine T.F_J0.ok scCb (fun vs H Q E h=>?_) (fun cdv A outer s H vs Q E hr h=>?_)
 ·obtain⟨_,_,_,_,_,rfl,_⟩:=h
  rfl
 ·obtain⟨A,ms,ws,ss,L,rfl,hH,pin,hm,hw,hst,q⟩:=h
  have hL:∀ {z:Addr×HO},z ∈ L->H z.1=some z.2:=fun m=>hH.at_ _ m
  refine⟨_,(ae (bi PassesOwn.never rfl (bG (aA (pv 0) rfl)) (aq (i:=1) scCb.nd rfl (Or.inl rfl))
    (ai (ar (pcl (jL T) hr T.m_Jo T.F_Jo.kp (ot T) (aa (pv 1) ag)))))
   (ae (bi PassesOwn.never rfl (bG (aA (pv 0) rfl)) (aq (i:=2) scCb.nd rfl (Or.inl rfl))
    (ai (ar (pcl (ok_Jm T) hr T.m_Jm T.F_Jm.kp (b_Jm T) (aa (pv 2) ag)))))
   (ai (aD (b7 (dD (aA (pv 0) rfl) (by intro _; rfl)))
    (ai aZ)
    ap)))),?_⟩
  refine⟨_,U,A.p,_,A.dx,_,_,U,hL pin.p,T.cl_Program,T.n_Program_mark_sides,lU _,A.m,U,⟨_,SqL.of (hL pin.m)⟩,cU (xs:=ms.map V.int) (fun i σ H'=>∃ (o1 o2:Option V),σ=[some (.ref A.p),o1,o2]/\H'=H) ⟨_,_,U,U⟩ (fun i σ H' _ ⟨_,_,_,e⟩=>by rw[e]; exact SqL.of (hL pin.m)) ?_ ?_⟩
  ·rintro i x σ H' hx ⟨o1,o2,rfl,rfl⟩
   rw[tS] at hx
   obtain⟨n,hn,rfl⟩:=Option.map_eq_some_iff.mp hx
   exact⟨_,U,n,U,hm n (tO hn),_,_,U,U⟩
  ·rintro σ H' ⟨o1,o2,rfl,rfl⟩
   refine⟨_,U,A.p,_,A.dx,_,_,U,hL pin.p,T.cl_Program,T.n_Program_counter_widths,lR _,A.w,U,⟨_,SqL.of (hL pin.w)⟩,cU (xs:=ws.map V.int) (fun i σ H1=>∃ (o1 o2:Option V),σ=[some (.ref A.p),o1,o2]/\H1=H') ⟨_,_,U,U⟩ (fun i σ H1 _ ⟨_,_,_,e⟩=>by rw[e]; exact SqL.of (hL pin.w)) ?_ ?_⟩
   ·rintro i x σ H1 hx ⟨o1,o2,rfl,rfl⟩
    rw[tS] at hx
    obtain⟨n,hn,rfl⟩:=Option.map_eq_some_iff.mp hx
    have:=hw n (tO hn)
    exact⟨_,U,n,U,this.1,this.2,_,_,U,U⟩
   ·rintro σ H1 ⟨o1,o2,rfl,rfl⟩
    refine⟨_,U,A.p,_,A.dx,_,_,U,hL pin.p,T.cl_Program,T.n_Program_stretches,iG _,true,.inl ⟨_,SqL.of (hL pin.s),?_⟩,ce q⟩
    cases ss with
    | nil=>exact absurd rfl hst
    | cons a b=>rfl
theorem scCc:FnScope ["self","called","stretch"] ["self","called","stretch"] (aj sR):={}
theorem ok_J1 (T:Txt K mg t):FnOk P w K mg base CX0 2 t.f_J1 t.d_J1 ["self","called","stretch"] qq:=T.F_J1.ok scCc (fun _ _ _ _ h=>h.elim) (fun _ _ _ _ _ _ _ _ _ h=>h.elim)
end
theorem dj {X:Cx}{K:PySem.W.Frag} (hK:X.K=K):c7 X (.type "list") (fun xs H Q=>∃ p ys,xs=[.ref p]/\(SqL K H p ys∨SqT K H p ys)/\∀ l,H l=none->Q (.ref l) (upd H l (.lst ys))):=by subst hK; exact ba
section
variable {P:Program}{w:World}{K:PySem.W.Frag}{mg:Str->Option Value}{base:Heap}{t:Adr}
theorem scPt:FnScope ["self","part","number","stretch"] ["self","part","number","stretch"] (aj sP):={}
theorem ok_J3 (T:Txt K mg t):FnOk P w K mg base CX0 3 t.f_J3 t.d_J3 ["self","part","number","stretch"] (sp_check_part t.c_Program):=by
 refine T.F_J3.ok scPt (fun vs H Q E h=>?_) (fun cdv A outer s H vs Q E hr h=>?_)
 ·obtain⟨_,_,_,_,_,_,_,_,_,rfl,_⟩:=h
  rfl
 ·obtain⟨A,ms,ws,ss,L,k,p,n,z,rfl,hH,pin,hz,hp,q⟩:=h
  have hL:∀ {z:Addr×HO},z ∈ L->H z.1=some z.2:=fun m=>hH.at_ _ m
  have hzm:=tO hz
  refine⟨_,(ai (aD (ak aW (pv 1) aJ (ao _))
    (ai (ar (pcl (pG T) hr T.m_Jp T.F_Jp.kp (tj T) (aa (pv 2) ag))))
    (ai (aD (ak aW (pv 1) aJ (ao _))
      (ai (ar (pcl (pF T) hr T.m_Jq T.F_Jq.kp (tf T) (aa (pv 2) (aa (aN aI (by rfl) T.z_len (by rfl) (aa (aA (pv 0) rfl) ag)) ag)))))
      (ai (aD (ak aW (pv 1) aJ (ao _))
        (ai (ar (pcl (jL T) hr T.m_Jo T.F_Jo.kp (ot T) (aa (pv 2) ag))))
        (ai (aD (ak aW (pv 1) aJ (ao _))
          (ai (ar (pcl (pM T) hr T.m_Jb T.F_Jb.kp (tF T) (aa (pv 2) (aa (aN aI (by rfl) T.z_len (by rfl) (aa (aA (pv 0) rfl) ag)) ag)))))
          (ai (aD (ak aW (pv 1) aJ (ao _))
            (ai (ar (pcl (pC T) hr T.m_Jx T.F_Jx.kp (sX T) (aa (pv 2) (aa (aN aI (by rfl) T.z_len (by rfl) (aa (av aB (aA (pv 0) rfl) (pv 3)) ag)) ag)))))
            (ai (ar (aC (pv 0) T.cl_Program T.M_J1 (ok_J1 T) hr (b_J1 T) .nil aF (aa (pv 2) (aa (pv 3) ag))))))))))))))),?_⟩
  rcases hp with ⟨rfl,h0,h1⟩ | ⟨rfl,h0,h1⟩ | ⟨rfl,h0⟩ | ⟨rfl,h0,h1⟩ | ⟨rfl,h0,h1⟩
  ·refine⟨_,U,U,_,U,ifT (by decide +kernel) ?_⟩
   exact⟨_,U,n,U,h0,h1,q⟩
  ·refine⟨_,U,U,_,U,ifF (by decide +kernel) ?_⟩
   refine⟨_,U,U,_,U,ifT (by decide +kernel) ?_⟩
   exact⟨_,U,_,U,A.p,_,A.dx,_,_,U,hL pin.p,T.cl_Program,T.n_Program_mark_sides,lU _,A.m,_,U,.inl (SqL.of (hL pin.m)),n,_,U,h0,(by rw[tP]; exact h1),q⟩
  ·refine⟨_,U,U,_,U,ifF (by decide +kernel) ?_⟩
   refine⟨_,U,U,_,U,ifF (by decide +kernel) ?_⟩
   refine⟨_,U,U,_,U,ifT (by decide +kernel) ?_⟩
   exact⟨_,U,n,U,h0,q⟩
  ·refine⟨_,U,U,_,U,ifF (by decide +kernel) ?_⟩
   refine⟨_,U,U,_,U,ifF (by decide +kernel) ?_⟩
   refine⟨_,U,U,_,U,ifF (by decide +kernel) ?_⟩
   refine⟨_,U,U,_,U,ifT (by decide +kernel) ?_⟩
   exact⟨_,U,_,U,A.p,_,A.dx,_,_,U,hL pin.p,T.cl_Program,T.n_Program_counter_widths,lR _,A.w,_,U,.inl (SqL.of (hL pin.w)),n,_,U,h0,(by rw[tP]; exact h1),q⟩
  ·refine⟨_,U,U,_,U,ifF (by decide +kernel) ?_⟩
   refine⟨_,U,U,_,U,ifF (by decide +kernel) ?_⟩
   refine⟨_,U,U,_,U,ifF (by decide +kernel) ?_⟩
   refine⟨_,U,U,_,U,ifF (by decide +kernel) ?_⟩
   refine⟨_,U,U,_,U,ifT (by decide +kernel) ?_⟩
   exact⟨_,U,_,U,A.p,_,A.dx,_,_,U,hL pin.p,T.cl_Program,T.n_Program_stretches,iG _,_,U,A.s,_,_,_,U,U,SqL.of (hL pin.s),am (c9 hz),z.1,_,U,.inl (SqL.of (hL (pin.l z hzm))),n,_,U,h0,(by unfold rwV; rw[tP]; exact h1),q⟩
theorem scPr:FnScope ["self","stretch","rows","row","part","number"] ["self","stretch"] (aj sQ):={}
theorem ok_J2 (T:Txt K mg t):FnOk P w K mg base CX0 4 t.f_J2 t.d_J2 ["self","stretch"] (sp_check_rows t.c_Program):=by
 refine T.F_J2.ok scPr (fun vs H Q E h=>?_) (fun cdv A outer s H vs Q E hr h=>?_)
 ·obtain⟨_,_,_,_,_,_,_,rfl,_⟩:=h
  rfl
 ·obtain⟨A,ms,ws,ss,L,k,z,rfl,hH,pin,hz,hok,⟨la,ly,hla,hlast⟩,q⟩:=h
  obtain⟨aE,eE,hE⟩:=T.x_PARTS
  have T_r_PARTS:RelV (.ref aE) t.u_PARTS:=by rw[eE]; rfl
  obtain⟨aP,oP,its,nn,eP,k1,k2,k3,k4,k5⟩:=T.x_LAST_WORDS
  have T_r_LAST_WORDS:RelV (.ref aP) t.u_LAST_WORDS:=by rw[eP]; rfl
  have hzm:=tO hz
  refine⟨_,(ae (ax (i:=2) scPr.nd rfl (Or.inl rfl) (av aB (aA (pv 0) rfl) (pv 1)))
   (ae (aD (b7 (dD (pv 2) (by intro _; rfl)))
    (ai aZ)
    ap)
   (ae (bi PassesOwn.never rfl (bG (pv 2)) (aq (i:=3) scPr.nd rfl (Or.inl rfl))
    (ai (bi PassesOwn.never rfl (lQ (by rfl) T.z_zip (aa (qD (bL (by rfl) T.g_PARTS T_r_PARTS) (av aK (pv 3) ah) (fun _ _=>rfl)) (aa (cx qr (pv 3) (cC ah) dH) ag))) (bx rfl (ay (aq (i:=4) scPr.nd rfl (Or.inl rfl)) (ay (aq (i:=5) scPr.nd rfl (Or.inl rfl)) bc)))
      (ai (ar (aC (pv 0) T.cl_Program T.M_J3 (ok_J3 T) hr (b_J3 T) .nil aF (aa (pv 4) (aa (pv 5) (aa (pv 1) ag)))))))))
   (ai (aD (ak dM (av aK (av aB (pv 2) (lV i6 ah) (fun _ _=>rfl)) ah) (bL (by rfl) T.g_LAST_WORDS T_r_LAST_WORDS) (by rfl))
    (ai aZ)
    ap))))),?_⟩
  have hL:∀ {H':Hp}{z:Addr×HO},Has H' L->z ∈ L->H' z.1=some z.2:=fun h m=>h.at_ _ m
  have hne:rwV z.2≠[]:=by
   intro e
   have:z.2=[]:=by simpa [rwV] using e
   rw[this] at hla
   cases hla
  refine⟨_,U,A.p,_,A.dx,_,_,U,hL hH pin.p,T.cl_Program,T.n_Program_stretches,iG _,_,U,A.s,_,_,_,U,U,SqL.of (hL hH pin.s),am (c9 hz),?_⟩
  refine⟨_,U,true,.inl ⟨_,SqL.of (hL hH (pin.l z hzm)),?_⟩,ce ?_⟩
  ·cases e:rwV z.2 with
   | nil=>exact absurd e hne
   | cons a b=>rfl
  refine⟨_,U,z.1,U,⟨_,SqL.of (hL hH (pin.l z hzm))⟩,cU (xs:=rwV z.2) (fun i σ H'=>∃ (o1 o2 o3:Option V),σ=[some (.ref A.p),some (.int k),some (.ref z.1),o1,o2,o3]/\Has H' L) ⟨_,_,_,U,hH⟩ (fun i σ H' _ ⟨_,_,_,_,e⟩=>SqL.of (hL e (pin.l z hzm))) ?_ ?_⟩
  ·rintro i x σ H' hx ⟨o1,o2,o3,rfl,h1⟩
   unfold rwV at hx
   rw[tS] at hx
   obtain⟨n,hn,rfl⟩:=Option.map_eq_some_iff.mp hx
   have hnm:=tO hn
   have m2:=hok n hnm
   have g1:=hL h1 (pin.r z hzm n hnm)
   have hcut:bX (.str n.2.ws::n.2.ns.map V.int) (some 1) none=n.2.ns.map V.int:=by cases n.2 <;> rfl
   refine⟨_,U,n.1,_,_,_,U,U,SqT.of g1,am (j:=0) rfl,_,aE,_,n.2.ps,U,U,hE,n.2.parts,n.2.psl,fun b hb=>?_⟩
   refine⟨_,U,_,U,n.1,_,U,SqT.of g1,?_,fun p hp=>?_⟩
   ·unfold Rw.v
    exact cutok (by rw[t6,tP]; omega) (by rw[t6,tP]; exact n.2.nsl)
   unfold Rw.v
   rw[hcut]
   have h2:=h1.alloc hp (.tup (n.2.ns.map V.int))
   refine⟨b,p,U,⟨_,hb _⟩,⟨_,SqT.of (h2.get 0 U)⟩,mR (xs:=n.2.ps.map V.str) (ys:=n.2.ns.map V.int) (by rw[tP,tP]; exact n.2.len) (fun i σ H'=>∃ (o2 o3:Option V),σ=[some (.ref A.p),some (.int k),some (.ref z.1),some (.ref n.1),o2,o3]/\Has H' ((p,.tup (n.2.ns.map V.int))::L)) ⟨_,_,U,h2⟩ (fun i σ H' _ ⟨_,_,_,e⟩=>⟨hb _,SqT.of (e.get 0 U)⟩) ?_ ?_⟩
   ·rintro j x y σ H3 p3 hx hy ⟨o4,o5,rfl,h3⟩ hp3
    rw[tS] at hx hy
    obtain⟨x,hx1,rfl⟩:=Option.map_eq_some_iff.mp hx
    obtain⟨y,hy1,rfl⟩:=Option.map_eq_some_iff.mp hy
    have h4:=h3.alloc hp3 (.tup [.str x,.int y])
    refine⟨p3,_,U,SqT.of (h4.get 0 U),U,_,_,U,_,_,U,U,?_⟩
    exact⟨_,U,A.p,A.dx,_,U,hL h4.tail.tail pin.p,(cL _).2.2.2.2.2.2,_,U,_,U,_,U,A,ms,ws,ss,L,k,x,y,z,U,h4.tail.tail,pin,hz,Rw.part m2 hx1 hy1,_,_,U,h4.tail⟩
   ·rintro σ H3 ⟨o4,o5,rfl,h3⟩
    exact⟨_,_,_,U,h3.tail⟩
  ·rintro σ H' ⟨o1,o2,o3,rfl,h1⟩
   obtain⟨rs',ers⟩:=List.getLast?_eq_some_iff.mp hla
   have eV:rwV z.2=rwV rs'++[.ref la]:=by rw[ers]; unfold rwV; rw[tU]; rfl
   have g1:=hL h1 (pin.l z hzm)
   have g2:=hL h1 (pin.r z hzm (la,ly) (by rw[ers]; simp))
   rw[eV] at g1
   exact⟨_,U,1,U,z.1,_,_,_,U,U,SqL.of g1,iZ _ _,la,_,_,_,U,U,SqT.of g2,am (j:=0) rfl,aP,_,U,.inr (.inr ⟨oP,its,nn,k1,k2,k3,k4,k5⟩),U,U,_,U,ifF (ly.lastIn hlast) (q _ h1)⟩
theorem scPn:FnScope ["self","marks","widths","stretches","stretch"] ["self","marks","widths","stretches"] (aj qt):={}
theorem ok_Jh (T:Txt K mg t):FnOk P w K mg base CX0 5 t.f_Jh t.d_Jh ["self","marks","widths","stretches"] (sp_Pinit t.c_Program):=by
 refine T.F_Jh.ok scPn (fun vs H Q E h=>?_) (fun cdv A outer s H vs Q E hr h=>?_)
 ·obtain⟨_,_,_,_,_,_,_,_,_,rfl,_⟩:=h
  rfl
 ·obtain⟨p,dx,m0,w0,s0,ms,ws,ss,L,rfl,hH,mm0,mw0,ms0,ml,mr,hms,hws,hne,hlen,hgood,q⟩:=h
  refine⟨_,(ae (bj (pv 0) (a9 ba (by rfl) T.z_list (by rfl) (aa (pv 1) ag)) rfl)
   (ae (bj (pv 0) (a9 ba (by rfl) T.z_list (by rfl) (aa (pv 2) ag)) rfl)
   (ae (bj (pv 0) (dJ (esc:=aj qt) (k:=1) ["rows","self","marks","widths","stretches","stretch"] rfl (bG (pv 3)) (fun _ _ _ _ _=>by exact(aq (i:=0) (show List.Nodup (["rows","self","marks","widths","stretches","stretch"]:List Str) from by decide +kernel) rfl (Or.inl rfl))) (fun _ _ _ _ _=>by exact bA) (fun _ _ _ _ _=>by exact(a9 (dj (K:=K) rfl) (by rfl) T.z_list (by rfl) (aa (pv 0) ag))) rfl (by decide +kernel) (by decide +kernel) rfl (by decide +kernel) (by rfl) (fun _ _ h _=>h) (by decide +kernel)) rfl)
   (ae (ar (aV (pv 0) T.cl_Program T.M_J0 (ok_J0 T) hr (b_J0 T) .nil aF))
   (ai (bi PassesOwn.never rfl (bh (by rfl) T.z_range (aa (aV (pv 0) T.cl_Program T.M_Ji (gI T) hr (kQ T) .nil aF) ag)) (aq (i:=4) scPn.nd rfl (Or.inl rfl))
    (ai (ar (aC (pv 0) T.cl_Program T.M_J2 (ok_J2 T) hr (b_J2 T) .nil aF (aa (pv 4) ag)))))))))),?_⟩
  refine⟨_,U,m0,_,U,.inl (SqL.of (hH.tail.tail.at_ _ mm0)),fun a1 ha1=>?_⟩
  have h1:=hH.alloc ha1 (.lst (ms.map V.int))
  refine⟨_,U,p,_,dx,_,U,h1.get 1 U,T.cl_Program,T.n_Program_mark_sides,(show 0<1000 by decide),?_⟩
  have h2:=h1.puti 1 U (.ins t.c_Program dx [("mark_sides",.ref a1)])
  refine⟨_,U,w0,_,U,.inl (SqL.of (h2.tail.tail.tail.at_ _ mw0)),fun a2 ha2=>?_⟩
  have h3:=h2.alloc ha2 (.lst (ws.map V.int))
  refine⟨_,U,p,_,dx,_,U,h3.get 2 U,T.cl_Program,T.n_Program_counter_widths,(show 1<1000 by decide),?_⟩
  have h4:=h3.puti 2 U (.ins t.c_Program dx [("mark_sides",.ref a1),("counter_widths",.ref a2)])
  refine⟨_,U,s0,U,⟨_,SqL.of (h4.tail.tail.tail.tail.at_ _ ms0)⟩,fun D hD=>?_⟩
  have inL:∀ {H':Hp}{N:Kn}{z c1 c2 c3 c4 c5:Addr×HO},Has H' (c1::(N++(c2::c3::c4::c5::L)))->z ∈ L->H' z.1=some z.2:=fun h m=>h.at_ _ (tK _ (tL _ (by simp[m])))
  refine⟨fun n m zs H'=>∃ (s1:Ss) (N:Kn),m=ss.length - n/\n<=ss.length/\s1.map (·.2)=(ss.take n).map (·.2)/\zs=ssV s1/\(∀ z ∈ s1,(z.1,HO.lst (rwV z.2)) ∈ N)/\Has H' ((D,.lst zs)::(N++((a2,.lst (ws.map V.int))::(a1,.lst (ms.map V.int))::(p,.ins t.c_Program dx [("mark_sides",.ref a1),("counter_widths",.ref a2)])::(dx,.own p)::L))),⟨_,[],[],U,Nat.zero_le _,U,U,by simp,h4.alloc hD _⟩,?_⟩
  rintro n m zs H5 ⟨s1,N,rfl,hn,es1,rfl,hN,h5⟩
  refine⟨h5.get 0 U,?_⟩
  have g0:=inL h5 ms0
  have ls1:s1.length=n:=by
   have:=congrArg List.length es1
   simp at this
   omega
  by_cases hlt:n<ss.length
  ·have hx0:(ssV ss)[n]?=some (.ref ss[n].1):=c9 (tN hlt)
   refine .inr ⟨⟨_,_,SqL.of g0,hx0⟩,?_⟩
   rintro x H6 ⟨rfl,hx⟩
   have e1:=hx _ (SqL.of g0)
   rw[hx0] at e1
   cases e1
   refine⟨U,bJ ?_⟩
   refine⟨_,U,ss[n].1,_,U,.inl (SqL.of (inL h5 (ml _ (List.getElem_mem hlt)))),fun rl hrl=>?_⟩
   have h6:=h5.alloc hrl (.lst (rwV ss[n].2))
   refine⟨sizeOk (by unfold ssV; rw[tP]; omega),h6.get 1 U,ss.length - (n+1),by omega,s1++[(rl,ss[n].2)],(rl,.lst (rwV ss[n].2))::N,U,hlt,?_,?_,?_,?_⟩
   ·rw[tU,es1,List.take_succ,tU,tN hlt]
    rfl
   ·unfold ssV
    rw[tU]
    rfl
   ·intro z hz
    rcases tV.mp hz with hz | hz
    ·exact tK _ (hN z hz)
    ·cases tT.mp hz
     exact tM
   ·exact(h6.puti 1 U _).swap2
  ·have en:n=ss.length:=by omega
   rw[en,List.take_length] at es1
   refine .inl ⟨⟨_,SqL.of g0,by unfold ssV; rw[tP]; omega⟩,?_⟩
   have h6:=Has.comm (X:=(D,HO.lst (ssV s1))::N) (Y:=[(a2,.lst (ws.map V.int)),(a1,.lst (ms.map V.int)),(p,.ins t.c_Program dx [("mark_sides",.ref a1),("counter_widths",.ref a2)]),(dx,.own p)]) h5
   refine⟨_,U,p,_,dx,_,U,h6.get 2 U,T.cl_Program,T.n_Program_stretches,(show 2<1000 by decide),?_⟩
   have h7:=h6.puti 2 U (.ins t.c_Program dx (pfl ⟨p,dx,a1,a2,D⟩))
   have ef:bg "stretches" (.ref D) [("mark_sides",.ref a1),("counter_widths",.ref a2)]=pfl ⟨p,dx,a1,a2,D⟩:=by kernel_rfl
   have h8:=h7
   rw[<- ef] at h8
   rw[ef] at h8 ⊢
   obtain⟨N2,eN2⟩:∃ N2:Kn,[(a2,HO.lst (ws.map V.int)),(a1,.lst (ms.map V.int)),(p,.ins t.c_Program dx (pfl ⟨p,dx,a1,a2,D⟩)),(dx,.own p)]++((D,HO.lst (ssV s1))::N)=N2:=⟨_,U⟩
   have h9:Has (upd H5 p (.ins t.c_Program dx (pfl ⟨p,dx,a1,a2,D⟩))) (N2++L):=by rw[<- eN2]; exact h7
   have pin:PIn t.c_Program ⟨p,dx,a1,a2,D⟩ ms ws s1 (N2++L):=by
    rw[<- eN2]
    refine⟨by simp,by simp,by simp,by simp,fun z hz=>?_,fun z hz x hx=>?_⟩
    ·exact tQ _ (by simp[hN z hz])
    ·have:z.2 ∈ ss.map (·.2):=by rw[<- es1]; exact tY hz
     obtain⟨z',h1,h2⟩:=uc.mp this
     exact tL _ (mr z' h1 x (by rw[h2]; exact hx))
   have pinN:PInN t.c_Program ⟨p,dx,a1,a2,D⟩ ms ws s1 N2:=by
    rw[<- eN2]
    exact⟨by simp,by simp,by simp,by simp,fun z hz=>by simp[hN z hz]⟩
   obtain⟨A,hA⟩:∃ A:PA,(⟨p,dx,a1,a2,D⟩:PA)=A:=⟨_,U⟩
   have hp:p=A.p:=by rw[<- hA]
   rw[hA] at pin pinN
   clear h7 h8 h6 h5
   generalize upd H5 p (.ins t.c_Program dx (pfl ⟨p,dx,a1,a2,D⟩))=H6 at h9 ⊢
   clear hA eN2
   subst hp
   have hL:∀ {H':Hp}{z:Addr×HO},Has H' (N2++L)->z ∈ N2++L->H' z.1=some z.2:=fun h m=>h.at_ _ m
   have lss:s1.length=ss.length:=by rw[ls1,en]
   refine⟨_,U,A.p,A.dx,_,U,hL h9 pin.p,(cL _).2.2.2.2.1,A,ms,ws,s1,_,U,h9,pin,hms,hws,(by intro e; rw[e] at lss; exact hne (List.length_eq_zero_iff.mp lss.symm)),?_⟩
   refine⟨_,U,A.p,A.dx,_,U,hL h9 pin.p,(cL _).1,A,_,U,hL h9 pin.p,hL h9 pin.s,_,U,(by omega),(by unfold ssV; rw[tP]; omega),bB (fun i σ H'=>∃ (o:Option V),σ=[some (.ref A.p),some (.ref m0),some (.ref w0),some (.ref s0),o]/\Has H' (N2++L)) ⟨_,U,h9⟩ ?_ ?_⟩
   ·rintro i σ H1 hi ⟨o,rfl,h8⟩
    have hi:i<s1.length:=by
     have:i<((ssV s1).length:Int).toNat:=hi
     unfold ssV at this
     rw[tP] at this
     omega
    have hz:=tN hi
    have hg:=(hgood.tr es1) i _ hz
    rw[Int.zero_add]
    exact⟨_,U,A.p,A.dx,_,U,hL h8 pin.p,(cL _).2.2.2.2.2.1,_,U,A,ms,ws,s1,_,i,_,U,h8,pin,hz,hg.1,hg.2,fun H2 h9=>⟨_,U,h9⟩⟩
   ·rintro σ H1 ⟨o,rfl,h8⟩
    exact q _ A s1 N2 rfl es1 pinN pin h8
end
theorem gg {α:Type}:∀ (L:List α) (i:Nat) (hi:i<L.length),L.Perm (L[i]::L.eraseIdx i)
 | x::L,0,_=>List.Perm.refl _
 | x::L,i+1,hi=>by
  have:=gg L i (by simpa using hi)
  simp only[List.getElem_cons_succ,List.eraseIdx_cons_succ]
  exact(this.cons x).trans (List.Perm.swap _ _ _)
theorem jt {H:Hp}{L:Kn} (h:Has H L) (i:Nat) {x:Addr×HO} (e:L[i]?=some x):Has H (x::L.eraseIdx i):=by
 obtain⟨hi,rfl⟩:=List.getElem?_eq_some_iff.mp e
 exact h.perm (gg L i hi)
theorem fS {H:Hp}{L L':Kn} (h:Has H L) (e:L=L'):Has H L':=e ▸ h
theorem sz {n:Nat} (h:n<=1000000):n<=sizeLine:=Nat.le_of_lt (sizeOk h)
theorem sz_ (n:Nat) (h:n<=1000000:=by decide):n<=sizeLine:=sz h
theorem nw {p q:Prop} [Decidable p] [Decidable q] {A B U:Prop} (h:(if decide q=true then A else B)->U) (h1:p->q->A) (h2:¬ (p/\q)->B):if decide p=true then U else(if false=true then A else B):=by
 by_cases hp:p
 ·refine ifT (decide_eq_true hp) (h ?_)
  by_cases hq:q
  ·exact ifT (decide_eq_true hq) (h1 hp hq)
  ·exact ifF (decide_eq_false hq) (h2 fun z=>hq z.2)
 ·exact ifF (decide_eq_false hp) (ce (h2 fun z=>hp z.1))
theorem ii {p q r:Prop} [Decidable p] [Decidable q] [Decidable r] {A B U U':Prop} (h:(if decide q=true then U' else(if false=true then A else B))->U) (h':(if decide r=true then A else B)->U') (h1:p->q->r->A) (h2:¬ (p/\q/\r)->B):if decide p=true then U else(if false=true then A else B):=by
 by_cases hp:p
 ·exact ifT (decide_eq_true hp) (h (nw h' (fun hq hr=>h1 hp hq hr) (fun z=>h2 fun w=>z w.2)))
 ·exact ifF (decide_eq_false hp) (ce (h2 fun z=>hp z.1))
theorem dgI {ds:List Int} (j:Int) (h0:0<=j) (h1:j<ds.length):atI (ds.map V.int) j=some (.int (ds.getD j.toNat 0)):=by
 obtain⟨i,rfl⟩:=Int.eq_ofNat_of_zero_le h0
 exact am (by
  rw[tS,tN (show i<ds.length by omega)]
  simp[List.getD,tN (show i<ds.length by omega)])
inductive sp_lrow (vs:List V) (H:Hp) (Q:VK) (E_:XK):Prop
 | mk (d lt:Addr) (ds:List Int) (k more:Int) (many nm nc st ns:Nat) (L:Kn) (_:vs=[.ref d,.int k,.int more,.int many,.int nm,.int nc,.ref lt]) (_:Has H L) (_:(d,HO.lst (ds.map V.int)) ∈ L) (_:(lt,HO.lst (di ((st:Int)+1) (ns - (st+1)))) ∈ L) (_:0<=k) (_:k+3<ds.length) (_:1<=many) (_:ns<=st+1) (_:∀ H' a (y:Rw),y.ok nm nc many st ns->Has H' ((a,.tup y.v)::L)->Q (.ref a) H'):sp_lrow vs H Q E_
inductive sp_Jp1 (vs:List V) (H:Hp) (Q:VK) (E_:XK):Prop
 | mk (s0:Addr) (ss:Ss) (L:Kn) (_:vs=[.ref s0]) (_:Has H L) (_:(s0,HO.lst (ssV ss)) ∈ L) (_:(∀ z ∈ ss,(z.1,HO.lst (rwV z.2)) ∈ L)) (_:ss.length<=1000) (_:∀ H' D (s1:Ss) N,s1.map (·.2)=ss.map (·.2)->(∀ z ∈ s1,(z.1,HO.lst (rwV z.2)) ∈ N)->Has H' ((D,.lst (ssV s1))::(N++L))->Q (.ref D) H'):sp_Jp1 vs H Q E_
section
variable {P:Program}{w:World}{K:PySem.W.Frag}{mg:Str->Option Value}{base:Heap}{t:Adr}
theorem scCp2:FnScope ["_law_parts_here"] ["_law_parts_here"] (aj lC):={}
theorem qM (T:Txt K mg t):FnOk P w K mg base CX0 1 t.f_Jp1 t.d_Jp1 ["_law_parts_here"] sp_Jp1:=by
 refine T.F_Jp1.ok scCp2 (fun vs H Q E h=>?_) (fun cdv A outer s H vs Q E hr h=>?_)
 ·obtain⟨_,_,_,rfl,_⟩:=h
  rfl
 ·obtain⟨s0,ss,L,rfl,hH,ms0,ml,hlen,q⟩:=h
  refine⟨_,(ai (au (dJ (esc:=aj lC) (k:=1) ["_law_rows","_law_parts_here"] rfl (bG (pv 0)) (fun _ _ _ _ _=>by exact(aq (i:=0) (show List.Nodup (["_law_rows","_law_parts_here"]:List Str) from by decide +kernel) rfl (Or.inl rfl))) (fun _ _ _ _ _=>by exact bA) (fun _ _ _ _ _=>by exact(a9 (dj (K:=K) rfl) (by rfl) T.z_list (by rfl) (aa (pv 0) ag))) rfl (by decide +kernel) (by decide +kernel) rfl (by decide +kernel) (by rfl) (fun _ _ h _=>h) (by decide +kernel)))),?_⟩
  refine⟨_,U,s0,U,⟨_,SqL.of (hH.at_ _ ms0)⟩,fun D hD=>?_⟩
  have inL:∀ {H':Hp}{N:Kn}{z c1:Addr×HO},Has H' (c1::(N++L))->z ∈ L->H' z.1=some z.2:=fun h m=>h.at_ _ (tK _ (tL _ m))
  refine⟨fun n m zs H'=>∃ (s1:Ss) (N:Kn),m=ss.length - n/\n<=ss.length/\s1.map (·.2)=(ss.take n).map (·.2)/\zs=ssV s1/\(∀ z ∈ s1,(z.1,HO.lst (rwV z.2)) ∈ N)/\Has H' ((D,.lst zs)::(N++L)),⟨_,[],[],U,Nat.zero_le _,U,U,by simp,hH.alloc hD _⟩,?_⟩
  rintro n m zs H5 ⟨s1,N,rfl,hn,es1,rfl,hN,h5⟩
  refine⟨h5.get 0 U,?_⟩
  have g0:=inL h5 ms0
  have ls1:s1.length=n:=by
   have:=congrArg List.length es1
   simp at this
   omega
  by_cases hlt:n<ss.length
  ·have hx0:(ssV ss)[n]?=some (.ref ss[n].1):=c9 (tN hlt)
   refine .inr ⟨⟨_,_,SqL.of g0,hx0⟩,?_⟩
   rintro x H6 ⟨rfl,hx⟩
   have e1:=hx _ (SqL.of g0)
   rw[hx0] at e1
   cases e1
   refine⟨U,bJ ?_⟩
   refine⟨_,U,ss[n].1,_,U,.inl (SqL.of (inL h5 (ml _ (List.getElem_mem hlt)))),fun rl hrl=>?_⟩
   have h6:=h5.alloc hrl (.lst (rwV ss[n].2))
   refine⟨sizeOk (by unfold ssV; rw[tP]; omega),h6.get 1 U,ss.length - (n+1),by omega,s1++[(rl,ss[n].2)],(rl,.lst (rwV ss[n].2))::N,U,hlt,?_,?_,?_,?_⟩
   ·rw[tU,es1,List.take_succ,tU,tN hlt]
    rfl
   ·unfold ssV
    rw[tU]
    rfl
   ·intro z hz
    rcases tV.mp hz with hz | hz
    ·exact tK _ (hN z hz)
    ·cases tT.mp hz
     exact tM
   ·exact(h6.puti 1 U _).swap2
  ·have en:n=ss.length:=by omega
   rw[en,List.take_length] at es1
   exact .inl ⟨⟨_,SqL.of g0,by unfold ssV; rw[tP]; omega⟩,q _ D s1 N es1 hN h5⟩
theorem scLr:FnScope ["_law_d","_law_k","_law_more","_law_many","_law_marks","_law_counters","_law_later","_law_word","_law_one","_law_other"] ["_law_d","_law_k","_law_more","_law_many","_law_marks","_law_counters","_law_later"] (aj oR):={}
theorem qK (T:Txt K mg t):FnOk P w K mg base CX0 1 t.f_row t.d_row ["_law_d","_law_k","_law_more","_law_many","_law_marks","_law_counters","_law_later"] sp_lrow:=by
 refine T.F_row.ok scLr (fun vs H Q E h=>?_) (fun cdv A outer s H vs Q E hr h=>?_)
 ·obtain⟨_,_,_,_,_,_,_,_,_,_,_,rfl,_⟩:=h
  rfl
 ·obtain⟨d,lt,ds,k,more,many,nm,nc,st,ns,L,rfl,hH,md,mlt,k0,k1,hmany,hns,q⟩:=h
  have gd:=hH.at_ _ md
  have gl:=hH.at_ _ mlt
  dsimp only at gd gl
  refine⟨_,(ae (ax (i:=7) scLr.nd rfl (Or.inl rfl) (aw aR (aw aQ (av aB (pv 0) (pv 1)) (pv 2)) ah))
   (ae (ax (i:=8) scLr.nd rfl (Or.inl rfl) (aw aQ (av aB (pv 0) (aw aQ (pv 1) ah)) (aw cD ah (pv 2))))
   (ae (ax (i:=9) scLr.nd rfl (Or.inl rfl) (aw aQ (av aB (pv 0) (aw aQ (pv 1) ah)) (aw cD ah (pv 2))))
   (ae (aD (PW.pt (bO (ak aW (pv 7) ah (ao _)) (bT (ak cP (pv 4) ah (ao _)))))
    (ai (au (az (aa aJ (aa (aw aR (pv 8) (pv 4)) (aa (aw aQ ah (aw aR (pv 9) ah)) ag))))))
    ap)
   (ae (aD (PW.pt (bO (ak b8 (pv 7) ah (ao _)) (bO (ak cP (pv 7) ah (ao _)) (bT (ak cP (pv 4) ah (ao _))))))
    (ai (au (az (aa aJ (aa (aw aR (pv 8) (pv 4)) (aa (aw aR (pv 9) (pv 3)) (aa (aw aR (av aB (pv 0) (aw aQ (pv 1) ah)) (pv 3)) ag)))))))
    ap)
   (ae (aD (PW.pt (bO (ak b8 (pv 7) ah (ao _)) (bO (ak cP (pv 7) ah (ao _)) (bT (ak cP (pv 5) ah (ao _))))))
    (ai (au (az (aa aJ (aa (aw aR (pv 8) (pv 5)) (aa (aw aR (pv 9) (pv 3)) ag))))))
    ap)
   (ae (aD (ak aW (pv 7) ah (ao _))
    (ai (au (az (aa aJ (aa (aw aR (pv 8) (pv 3)) ag)))))
    ap)
   (ae (aD (PW.pt (bO (ak b8 (pv 7) ah (ao _)) (bO (ak cP (pv 7) ah (ao _)) (bT (ak cP (aN aI (by rfl) T.z_len (by rfl) (aa (pv 6) ag)) ah (ao _))))))
    (ai (au (az (aa aJ (aa (av aB (pv 6) (aw aR (pv 8) (aN aI (by rfl) T.z_len (by rfl) (aa (pv 6) ag)))) ag)))))
    ap)
   (ae (aD (ak aW (pv 7) ah (ao _))
    (ai (au (az (aa aJ ag))))
    ap)
   (ai (au (az (aa aJ (aa (aw aR (pv 8) ah) ag)))))))))))))),?_⟩
  rw[]
  refine⟨_,U,_,U,d,_,_,_,U,U,SqL.of gd,dgI k k0 (by omega),_,U,_,_,U,U,_,_,U,U,(show(0:Int)<10 by decide),?_⟩
  dsimp only[List.set]
  obtain⟨wd,ewd⟩:∃ wd,(ds.getD k.toNat 0+more) % 10=wd:=⟨_,U⟩
  rw[ewd]
  refine⟨_,U,_,U,_,_,U,U,d,_,_,_,U,U,SqL.of gd,dgI (k+1) (by omega) (by omega),_,U,_,_,U,U,.inl ⟨by decide,by decide⟩,_,_,U,U,?_⟩
  dsimp only[List.set]
  obtain⟨one,eone⟩:∃ one,ds.getD (k+1).toNat 0+7*more=one:=⟨_,U⟩
  rw[eone]
  refine⟨_,U,_,U,_,_,U,U,d,_,_,_,U,U,SqL.of gd,dgI (k+2) (by omega) (by omega),_,U,_,_,U,U,.inl ⟨by decide,by decide⟩,_,_,U,U,?_⟩
  dsimp only[List.set]
  obtain⟨oth,eoth⟩:∃ oth,ds.getD (k+2).toNat 0+5*more=oth:=⟨_,U⟩
  rw[eoth]
  have em:∀ (a b:Int),0<b->0<=a % b/\a % b<b:=fun a b hb=>⟨Int.emod_nonneg _ (by omega),Int.emod_lt_of_pos _ hb⟩
  have hm0:(0:Int)<many:=by omega
  refine⟨_,U,U,_,U,?_⟩
  rw[cI]
  refine nw (fun z=>⟨_,U,_,_,U,U,_,U,z⟩) (fun hw hp=>?_) (fun _=>?_)
  ·have hp:(0:Int)<nm:=by omega
   refine⟨_,U,_,U,_,_,U,U,hp,_,U,_,_,U,U,(show(0:Int)<2 by decide),_,_,U,U,(sz_ 3),fun a ha=>?_⟩
   have:=em one nm hp
   exact q _ a (.set (one % nm) (1+oth % 2)) ⟨this.1,this.2,by omega⟩ (hH.alloc ha _)
  refine⟨_,U,_,_,U,U,_,U,?_⟩
  refine ii (fun z=>⟨_,U,_,_,U,U,_,U,z⟩) (fun z=>⟨_,U,_,_,U,U,_,U,z⟩) (fun _ _ hp=>?_) (fun _=>?_)
  ·have hp:(0:Int)<nm:=by omega
   refine⟨_,U,_,U,_,_,U,U,hp,_,U,_,U,_,_,U,U,hm0,_,U,_,U,_,_,U,U,d,_,_,_,U,U,SqL.of gd,dgI (k+3) (by omega) (by omega),_,U,_,_,U,U,hm0,(sz_ 4),fun a ha=>?_⟩
   have e1:=em one nm hp
   have e2:=em oth many hm0
   have e3:=em (ds.getD (k+3).toNat 0) many hm0
   exact q _ a (.ask (one % nm) (oth % many) (ds.getD (k+3).toNat 0 % many)) ⟨e1.1,e1.2,e2.1,e2.2,e3.1,e3.2⟩ (hH.alloc ha _)
  refine⟨_,U,_,_,U,U,_,U,?_⟩
  refine ii (fun z=>⟨_,U,_,_,U,U,_,U,z⟩) (fun z=>⟨_,U,_,_,U,U,_,U,z⟩) (fun _ _ hp=>?_) (fun _=>?_)
  ·have hp:(0:Int)<nc:=by omega
   refine⟨_,U,_,U,_,_,U,U,hp,_,U,_,U,_,_,U,U,hm0,(sz_ 3),fun a ha=>?_⟩
   have e1:=em one nc hp
   have e2:=em oth many hm0
   exact q _ a (.bump (one % nc) (oth % many)) ⟨e1.1,e1.2,e2.1,e2.2⟩ (hH.alloc ha _)
  refine⟨_,U,U,_,U,?_⟩
  rw[cI]
  refine ifd (fun _=>?_) (fun _=>?_)
  ·refine⟨_,U,_,U,_,_,U,U,hm0,(sz_ 2),fun a ha=>?_⟩
   have e1:=em one many hm0
   exact q _ a (.go (one % many)) e1 (hH.alloc ha _)
  refine⟨_,U,_,_,U,U,_,U,?_⟩
  refine ii (fun z=>⟨_,U,_,_,U,U,_,U,z⟩) (fun z=>⟨_,U,lt,_,U,.inl (SqL.of gl),_,_,U,U,_,U,z⟩) (fun _ _ hp=>?_) (fun _=>?_)
  ·have hl:(di ((st:Int)+1) (ns - (st+1))).length=ns - (st+1):=bW _ _
   have hp:(0:Int)<((di ((st:Int)+1) (ns - (st+1))).length:Int):=by omega
   exact absurd hp (by rw[hl]; omega)
  refine⟨_,U,U,_,U,?_⟩
  rw[cI]
  refine ifd (fun _=>?_) (fun _=>?_)
  ·refine⟨(sz_ 1),fun a ha=>?_⟩
   exact q _ a .fin trivial (hH.alloc ha _)
  refine⟨_,U,_,_,U,U,(show(0:Int)<10000 by decide),(sz_ 2),fun a ha=>?_⟩
  exact q _ a (.bell (one % 10000)) ⟨by omega,by omega⟩ (hH.alloc ha _)
end
theorem Rw.notLast:∀ (x:Rw),x.last=false->(!inV (.str x.ws) [.str "ask",.str "go",.str "end"])=true
 | .bell _,_=>(by decide +kernel:(!inV (.str ("bell" : Str)) [.str "ask",.str "go",.str "end"])=true)
 | .set _ _,_=>(by decide +kernel:(!inV (.str ("set" : Str)) [.str "ask",.str "go",.str "end"])=true)
 | .bump _ _,_=>(by decide +kernel:(!inV (.str ("bump" : Str)) [.str "ask",.str "go",.str "end"])=true)
 | .ask _ _ _,h=>nomatch h
 | .go _,h=>nomatch h
 | .fin,h=>nomatch h
theorem mM {n:Nat} (h:1<=n):ixN n (-1)=some (n - 1):=by
 unfold ixN
 rw[if_neg (by omega),if_pos (by omega)]
 congr 1
 omega
theorem lj {α:Type} (xs:List α) (a b:α):(xs++[a]).set ((xs++[a]).length - 1) b=xs++[b]:=by
 rw[tW,t7,Nat.add_sub_cancel,List.set_append_right _ _ (Nat.le_refl _),Nat.sub_self]
 rfl
noncomputable def rV (ss:Ss):Prop:=∃ M:Nat,ss.length*M<=120/\∀ z ∈ ss,z.2.length<=M
noncomputable def GoodU (nm nc S M:Nat) (ss:Ss):Prop:=∀ (k:Nat) z,ss[k]?=some z->(∀ x ∈ z.2,x.2.ok nm nc z.2.length k S)/\(∃ a y,z.2.getLast?=some (a,y)/\y.last=true)/\z.2.length<=M
inductive sp_parts (vs:List V) (H:Hp) (Q:VK) (E_:XK):Prop
 | mk (d:Addr) (ds:List Int) (nm nc:Nat) (L:Kn) (_:vs=[.ref d,.int 8,.int nm,.int nc]) (_:Has H L) (_:(d,HO.lst (ds.map V.int)) ∈ L) (_:340<=ds.length) (_:(ds.getD (8:Int).toNat 0=0∨ds.getD (8:Int).toNat 0=9)) (_:∀ H' pl ss N,ss.length=1->Good nm nc ss->rV ss->(∀ z ∈ ss,(z.1,HO.lst (rwV z.2)) ∈ N)->(∀ z ∈ ss,∀ x ∈ z.2,(x.1,HO.tup x.2.v) ∈ N)->Has H' ((pl,.lst (ssV ss))::(N++L))->Q (.ref pl) H'):sp_parts vs H Q E_
theorem GoodU.snoc {nm nc S M:Nat}{ss:Ss}{z:Addr×List (Addr×Rw)} (h:GoodU nm nc S M ss) (h1:∀ x ∈ z.2,x.2.ok nm nc z.2.length ss.length S) (h2:∃ a y,z.2.getLast?=some (a,y)/\y.last=true) (h3:z.2.length<=M):GoodU nm nc S M (ss++[z]):=by
 intro k y hy
 by_cases hk:k<ss.length
 ·rw[t9 hk] at hy
  exact h k y hy
 ·rw[t8 (by omega)] at hy
  cases hj:k - ss.length with
  | zero=>
   rw[hj] at hy
   cases hy
   have:k=ss.length:=by omega
   subst this
   exact⟨h1,h2,h3⟩
  | succ j=>rw[hj] at hy; simp at hy
section
variable {P:Program}{w:World}{K:PySem.W.Frag}{mg:Str->Option Value}{base:Heap}{t:Adr}
theorem scLp:FnScope ["_law_d","_law_at","_law_marks","_law_counters","_law_stretches","_law_low","_law_size","_law_parts_here","_law_slot","_law_stretch","_law_many","_law_rows","_law_row_here","_law_k"] ["_law_d","_law_at","_law_marks","_law_counters"] (aj jD):={}
theorem l7 (T:Txt K mg t):FnOk P w K mg base CX0 2 t.f_parts t.d_parts ["_law_d","_law_at","_law_marks","_law_counters"] sp_parts:=by
 refine T.F_parts.ok scLp (fun vs H Q E h=>?_) (fun cdv A outer s H vs Q E hr h=>?_)
 ·obtain⟨_,_,_,_,_,rfl,_⟩:=h
  rfl
 ·obtain⟨d,ds,nm,nc,L,rfl,hH,md,hds,hx8,q⟩:=h
  have gd:=hH.at_ _ md
  dsimp only at gd
  refine⟨_,(ae (bK (av aB (aX (@aa _ _ _ _ _ (az (aa (aw aQ ah (aw aR (av aB (pv 0) (pv 1) (fun _ _=>rfl)) ah)) (aa ah (aa ah ag)))) (@aa _ _ _ _ _ (az (aa ah (aa ah (aa ah ag)))) (@aa _ _ _ _ _ (az (aa (aw aQ ah (aw aR (av aB (pv 0) (pv 1) (fun _ _=>rfl)) ah)) (aa ah (aa ah ag)))) (@aa _ _ _ _ _ (az (aa ah (aa ah (aa ah ag)))) (@aa _ _ _ _ _ (az (aa ah (aa ah (aa ah ag)))) (@aa _ _ _ _ _ (az (aa (aw aQ ah (aw aR (av aB (pv 0) (pv 1) (fun _ _=>rfl)) ah)) (aa ah (aa ah ag)))) (@aa _ _ _ _ _ (az (aa (aw aQ ah (aw aR (av aB (pv 0) (pv 1) (fun _ _=>rfl)) ah)) (aa ah (aa ah ag)))) (@aa _ _ _ _ _ (az (aa (aw aQ ah (aw aR (av aB (pv 0) (pv 1) (fun _ _=>rfl)) ah)) (aa ah (aa ah ag)))) ag (by rfl)) (by rfl)) (by rfl)) (by rfl)) (by rfl)) (by rfl)) (by rfl)) (by rfl))) (aw aR (aw bV (av aB (pv 0) (pv 1) (fun _ _=>rfl)) ah) ah)) (bx rfl (ay (aq (i:=4) scLp.nd rfl (Or.inl rfl)) (ay (aq (i:=5) scLp.nd rfl (Or.inl rfl)) (ay (aq (i:=6) scLp.nd rfl (Or.inl rfl)) bc)))))
   (ae (ax (i:=7) scLp.nd rfl (Or.inl rfl) (aX ag))
   (ae (ax (i:=8) scLp.nd rfl (Or.inl rfl) ah)
   (ae (bi PassesOwn.never rfl (bh (by rfl) T.z_range (aa (pv 4) ag)) (aq (i:=9) scLp.nd rfl (Or.inl rfl))
    (ae (ax (i:=10) scLp.nd rfl (Or.inl rfl) (aw aQ (pv 5) (aw aR (aw aQ (av aB (pv 0) (aw aQ (aw aQ (pv 1) ah) (aw aR (pv 9) ah))) (aw bV (pv 9) ah)) (pv 6))))
     (ae (ax (i:=11) scLp.nd rfl (Or.inl rfl) (aX ag))
     (ae (bi PassesOwn.never rfl (bh (by rfl) T.z_range (aa (pv 10) ag)) (aq (i:=12) scLp.nd rfl (Or.inl rfl))
      (ae (ax (i:=13) scLp.nd rfl (Or.inl rfl) (aw aQ (aw aQ (pv 1) ah) (aw cD ah (aw aR (pv 8) ah))))
       (ae (ar (bS PySem.F.plainAttrs_list PySem.F.slot_list_append PySem.F.type_list_append aU (pv 11) (aa (pcl (qK T) hr T.m_row T.F_row.kp (b_row T) (aa (pv 0) (aa (pv 13) (aa (aw bV (pv 8) ah) (aa (pv 10) (aa (pv 2) (aa (pv 3) (aa (a9 (f7 rfl) (by rfl) T.z_list (by rfl) (aa (a9 iW (by rfl) T.z_range (by rfl) (aa (aw aQ (pv 9) ah) (aa (pv 4) ag))) ag)) ag)))))))) ag)))
       (ai (ax (i:=8) scLp.nd rfl (Or.inl rfl) (aw aQ (pv 8) ah))))))
     (ae (aD (ak dM (av aK (av aB (pv 11) (lV i6 ah) (fun _ _=>rfl)) ah) (az (aa aJ (aa aJ (aa aJ ag)))) (by rfl))
      (ai (bK (az (aa aJ ag)) (hG (pv 11) (lV i6 ah) dy)))
      ap)
     (ai (ar (bS PySem.F.plainAttrs_list PySem.F.slot_list_append PySem.F.type_list_append aU (pv 7) (aa (pv 11) ag)))))))))
   (ai (au (pv 7))))))),?_⟩
  rw[]
  have a8:atI (ds.map V.int) 8=some (.int (ds.getD (8:Int).toNat 0)):=dgI 8 (by decide) (by omega)
  obtain⟨x8,ex8⟩:∃ x8,ds.getD (8:Int).toNat 0=x8:=⟨_,U⟩
  rw[ex8] at a8 hx8
  obtain⟨v4,ev4⟩:∃ v:Nat,1+x8 % 4=(v:Int):=Int.eq_ofNat_of_zero_le (by omega)
  obtain⟨v3,ev3⟩:∃ v:Nat,1+x8 % 3=(v:Int):=Int.eq_ofNat_of_zero_le (by omega)
  refine⟨_,U,_,U,d,_,_,_,U,U,SqL.of gd,a8,_,_,U,U,(show(0:Int)<4 by decide),_,_,U,U,(sz_ 3),fun p1 hp1=>?_⟩
  have h1:=hH.alloc hp1 (.tup [.int (1+x8 % 4),.int 1,.int 6])
  refine⟨(sz_ 3),fun p2 hp2=>?_⟩
  have h2:=h1.alloc hp2 (.tup [.int 8,.int 1,.int 10])
  have gd2:_=_:=h2.at_ _ (tK _ (tK _ md))
  dsimp only at gd2
  refine⟨_,U,_,U,d,_,_,_,U,U,SqL.of gd2,a8,_,_,U,U,(show(0:Int)<3 by decide),_,_,U,U,(sz_ 3),fun p3 hp3=>?_⟩
  have h3:=h2.alloc hp3 (.tup [.int (1+x8 % 3),.int 11,.int 30])
  refine⟨(sz_ 3),fun p4 hp4=>?_⟩
  have h4:=h3.alloc hp4 (.tup [.int 40,.int 1,.int 2])
  refine⟨(sz_ 3),fun p5 hp5=>?_⟩
  have h5:=h4.alloc hp5 (.tup [.int 1,.int 41,.int 60])
  have gd5:=h5.at_ _ (tK _ (tK _ (tK _ (tK _ (tK _ md)))))
  dsimp only at gd5
  refine⟨_,U,_,U,d,_,_,_,U,U,SqL.of gd5,a8,_,_,U,U,(show(0:Int)<4 by decide),_,_,U,U,(sz_ 3),fun p6 hp6=>?_⟩
  have h6:=h5.alloc hp6 (.tup [.int (1+x8 % 4),.int 1,.int 6])
  have gd6:=h6.at_ _ (tK _ (tK _ (tK _ (tK _ (tK _ (tK _ md))))))
  dsimp only at gd6
  refine⟨_,U,_,U,d,_,_,_,U,U,SqL.of gd6,a8,_,_,U,U,(show(0:Int)<4 by decide),_,_,U,U,(sz_ 3),fun p7 hp7=>?_⟩
  have h7:=h6.alloc hp7 (.tup [.int (1+x8 % 4),.int 1,.int 6])
  have gd7:=h7.at_ _ (tK _ (tK _ (tK _ (tK _ (tK _ (tK _ (tK _ md)))))))
  dsimp only at gd7
  refine⟨_,U,_,U,d,_,_,_,U,U,SqL.of gd7,a8,_,_,U,U,(show(0:Int)<4 by decide),_,_,U,U,(sz_ 3),fun p8 hp8=>?_⟩
  have h8:=h7.alloc hp8 (.tup [.int (1+x8 % 4),.int 1,.int 6])
  refine⟨(sz_ 8),fun lp hlp=>?_⟩
  have h9:=h8.alloc hlp (.lst [.ref p1,.ref p2,.ref p3,.ref p4,.ref p5,.ref p6,.ref p7,.ref p8])
  have h10:=h9.sub (List.sublist_append_right [(lp,HO.lst [.ref p1,.ref p2,.ref p3,.ref p4,.ref p5,.ref p6,.ref p7,.ref p8]),(p8,.tup [.int (1+x8 % 4),.int 1,.int 6]),(p7,.tup [.int (1+x8 % 4),.int 1,.int 6]),(p6,.tup [.int (1+x8 % 4),.int 1,.int 6]),(p5,.tup [.int 1,.int 41,.int 60]),(p4,.tup [.int 40,.int 1,.int 2]),(p3,.tup [.int (1+x8 % 3),.int 11,.int 30]),(p2,.tup [.int 8,.int 1,.int 10]),(p1,.tup [.int (1+x8 % 4),.int 1,.int 6])] L)
  dsimp only[List.set] at h9 h10 ⊢
  have gd9:=h10.at_ _ md
  dsimp only at gd9
  obtain⟨pi,S,lo,sz0,hat,hpi,hS1,hS2,hlo1,hlo2,hz1,hz2,hSM,hS⟩:∃ (pi:Addr) (S lo sz0:Nat),atI [V.ref p1,.ref p2,.ref p3,.ref p4,.ref p5,.ref p6,.ref p7,.ref p8] (x8 / 4 % 8)=some (.ref pi)/\(pi,HO.tup [.int S,.int lo,.int sz0]) ∈ [(lp,HO.lst [.ref p1,.ref p2,.ref p3,.ref p4,.ref p5,.ref p6,.ref p7,.ref p8]),(p8,.tup [.int (1+x8 % 4),.int 1,.int 6]),(p7,.tup [.int (1+x8 % 4),.int 1,.int 6]),(p6,.tup [.int (1+x8 % 4),.int 1,.int 6]),(p5,.tup [.int 1,.int 41,.int 60]),(p4,.tup [.int 40,.int 1,.int 2]),(p3,.tup [.int (1+x8 % 3),.int 11,.int 30]),(p2,.tup [.int 8,.int 1,.int 10]),(p1,.tup [.int (1+x8 % 4),.int 1,.int 6])]++L/\1<=S/\S<=40/\1<=lo/\lo<=41/\1<=sz0/\sz0<=60/\S*(lo+sz0 - 1)<=120/\S=1:=by
   rcases hx8 with rfl | rfl
   ·exact⟨p1,1,1,6,U,by simp,by omega,by omega,by omega,by omega,by omega,by omega,by omega,U⟩
   ·exact⟨p3,1,11,30,U,by simp,by omega,by omega,by omega,by omega,by omega,by omega,by omega,U⟩
  refine⟨_,U,_,U,d,_,_,_,U,U,SqL.of gd9,a8,_,_,U,U,⟨by decide,by decide⟩,_,_,U,U,(show(0:Int)<8 by decide),lp,_,_,_,U,U,SqL.of (h9.get 0 U),hat,pi,_,U,SqT.of (h9.at_ _ hpi),U,_,_,U,_,_,U,_,_,U,U,?_⟩
  refine⟨(sz_ 0),fun pl hpl=>?_⟩
  have h11:=h10.alloc hpl (.lst [])
  clear h1 h2 h3 h4 h5 h6 h7 h8 h9 hpi hat gd2 gd5 gd6 gd7 gd9
  have em:∀ (a b:Int),0<b->0<=a % b/\a % b<b:=fun a b hb=>⟨Int.emod_nonneg _ (by omega),Int.emod_lt_of_pos _ hb⟩
  refine⟨_,U,_,U,by omega,by omega,bB (fun i σ H'=>∃ (o9 o10 o11 o12 o13:Option V) (slot:Int) (ss:Ss) (N:Kn),σ=[some (.ref d),some (.int 8),some (.int nm),some (.int nc),some (.int S),some (.int lo),some (.int sz0),some (.ref pl),some (.int slot),o9,o10,o11,o12,o13]/\ss.length=i/\GoodU nm nc S (lo+sz0 - 1) ss/\(∀ z ∈ ss,(z.1,HO.lst (rwV z.2)) ∈ N)/\(∀ z ∈ ss,∀ x ∈ z.2,(x.1,HO.tup x.2.v) ∈ N)/\Has H' ((pl,.lst (ssV ss))::(N++L))) ⟨none,none,none,none,none,0,[],[],U,U,(fun k z hz=>by simp at hz),by simp,by simp,h11⟩ ?_ ?_⟩
  ·clear h11 h10
   rintro i σ H2 hi ⟨o9,o10,o11,o12,o13,slot,ss,N,rfl,hl,hg,hz,hx,h2⟩
   have hi:i<S:=by omega
   rw[Int.zero_add]
   show iq _ _ _ _ _
   dsimp only[List.set]
   have inL:∀ {H':Hp}{z c1:Addr×HO}{N:Kn},Has H' (c1::(N++L))->z ∈ L->H' z.1=some z.2:=fun h m=>h.at_ _ (tK _ (tL _ m))
   have g2:=inL h2 md
   dsimp only at g2
   have i8:=em (i:Int) 8 (by decide)
   refine⟨_,U,_,U,_,U,_,_,U,U,_,U,_,_,U,U,(show(0:Int)<8 by decide),_,_,U,U,d,_,_,_,U,U,SqL.of g2,dgI (8+1+(i:Int) % 8) (by omega) (by omega),_,U,_,_,U,U,⟨by decide,by decide⟩,_,_,U,U,_,U,_,_,U,U,(show(0:Int)<sz0 by omega),_,_,U,U,?_⟩
   dsimp only[List.set]
   obtain⟨many,emany⟩:∃ many:Nat,(lo:Int)+(ds.getD (8+1+(i:Int) % 8).toNat 0+(i:Int) / 8) % sz0=(many:Int):=Int.eq_ofNat_of_zero_le (by have:=em (ds.getD (8+1+(i:Int) % 8).toNat 0+(i:Int) / 8) sz0 (by omega); omega)
   have hmany:1<=many/\many<=101/\many<=lo+sz0 - 1:=by have:=em (ds.getD (8+1+(i:Int) % 8).toNat 0+(i:Int) / 8) sz0 (by omega); omega
   rw[emany]
   refine⟨(sz_ 0),fun rl hrl=>?_⟩
   dsimp only[List.set]
   have h3:=h2.alloc hrl (.lst [])
   refine⟨_,U,_,U,by omega,by omega,bB (fun j σ H'=>∃ (o12 o13:Option V) (slot:Int) (rs:List (Addr×Rw)) (N':Kn),σ=[some (.ref d),some (.int 8),some (.int nm),some (.int nc),some (.int S),some (.int lo),some (.int sz0),some (.ref pl),some (.int slot),some (.int i),some (.int many),some (.ref rl),o12,o13]/\rs.length=j/\(∀ x ∈ rs,x.2.ok nm nc many i S)/\(∀ x ∈ rs,(x.1,HO.tup x.2.v) ∈ N')/\Has H' ((rl,.lst (rwV rs))::(N'++((pl,.lst (ssV ss))::(N++L))))) ⟨_,_,slot,[],[],U,U,by simp,by simp,h3⟩ ?_ ?_⟩
   ·clear h3
    rintro j σ H3 hj ⟨o12,o13,slot,rs,N',rfl,hrl2,hok,hin,h3⟩
    have hj:j<many:=by omega
    show iq _ _ _ _ _
    dsimp only[List.set]
    have s80:=em slot 80 (by decide)
    refine⟨_,U,_,_,U,U,_,U,_,_,U,U,(show(0:Int)<80 by decide),_,_,U,U,.inl ⟨by decide,by decide⟩,_,_,U,U,?_⟩
    dsimp only[List.set]
    refine⟨_,U,.inl ⟨U,_,SqL.of (h3.get 0 U)⟩,_,U,_,U,_,U,_,_,U,U,⟨by decide,by decide⟩,_,U,_,U,_,U,_,U,_,_,U,U,_,U,_,_,U,fun p hp=>?_⟩
    have h4:=h3.alloc hp (.rng ((i:Int)+1) S)
    refine⟨p,_,_,U,h4.get 0 U,by omega,by omega,by omega,by omega,fun lt hlt=>?_⟩
    have h5:=h4.alloc hlt (.lst (di ((i:Int)+1) ((S:Int) - ((i:Int)+1)).toNat))
    refine⟨d,lt,ds,_,_,many,nm,nc,i,S,_,U,h5,tK _ (tK _ (tK _ (tL _ (tK _ (tL _ md))))),(by rw[show S - (i+1)=((S:Int) - ((i:Int)+1)).toNat by omega]; exact tM),(by omega),(by omega),hmany.1,(by omega),fun H6 a y hy h6=>?_⟩
    refine⟨rl,_,_,U,U,h6.get 3 U,sizeOk (by unfold rwV; rw[tP]; omega),?_⟩
    have h7:=h6.puti 3 U (.lst (rwV rs++[.ref a]))
    have h8:=jt h7 3 rfl
    refine⟨_,U,_,_,U,U,?_⟩
    dsimp only[List.set]
    refine⟨_,_,slot+1,rs++[(a,y)],(a,.tup y.v)::(lt,.lst (di ((i:Int)+1) ((S:Int) - ((i:Int)+1)).toNat))::(p,.rng ((i:Int)+1) S)::N',U,by simp[hrl2],?_,?_,?_⟩
    ·intro x hx
     rcases tV.mp hx with hx | hx
     ·exact hok x hx
     ·cases tT.mp hx
      exact hy
    ·intro x hx
     rcases tV.mp hx with hx | hx
     ·exact tK _ (tK _ (tK _ (hin x hx)))
     ·cases tT.mp hx
      exact tM
    ·have e:rwV (rs++[(a,y)])=rwV rs++[.ref a]:=by unfold rwV; rw[tU]; rfl
     rw[e]
     exact h8
   ·clear h3
    rintro σ H3 hP
    rw[Int.toNat_natCast] at hP
    obtain⟨o12,o13,slot,rs,N',rfl,hrl2,hok,hin,h3⟩:=hP
    have fin:∀ {H4:Hp} (rs1:List (Addr×Rw)) (N1:Kn),rs1.length=many->(∀ x ∈ rs1,x.2.ok nm nc many i S)->(∀ x ∈ rs1,(x.1,HO.tup x.2.v) ∈ N1)->(∃ a y,rs1.getLast?=some (a,y)/\y.last=true)->Has H4 ((rl,.lst (rwV rs1))::(N1++((pl,.lst (ssV ss))::(N++L)))) ->
      ∃ (N2:Kn),(∀ z ∈ ss++[(rl,rs1)],(z.1,HO.lst (rwV z.2)) ∈ N2)/\(∀ z ∈ ss++[(rl,rs1)],∀ x ∈ z.2,(x.1,HO.tup x.2.v) ∈ N2)/\GoodU nm nc S (lo+sz0 - 1) (ss++[(rl,rs1)])/\H4 pl=some (.lst (ssV ss))/\Has (upd H4 pl (.lst (ssV ss++[.ref rl]))) ((pl,.lst (ssV (ss++[(rl,rs1)])))::(N2++L)):=by
     intro H4 rs1 N1 l1 ok1 in1 la1 h4
     have h5:=Has.comm (X:=(rl,HO.lst (rwV rs1))::N1) (Y:=[(pl,HO.lst (ssV ss))]) h4
     have h6:=h5.puti 0 U (.lst (ssV ss++[.ref rl]))
     refine⟨((rl,HO.lst (rwV rs1))::N1)++N,?_,?_,hg.snoc (by rw[hl,l1]; exact ok1) la1 (by rw[l1]; exact hmany.2.2),h5.get 0 U,?_⟩
     ·intro z hz1
      rcases tV.mp hz1 with hz1 | hz1
      ·exact tL _ (hz z hz1)
      ·cases tT.mp hz1
       exact tQ _ tM
     ·intro z hz1 x hx1
      rcases tV.mp hz1 with hz1 | hz1
      ·exact tL _ (hx z hz1 x hx1)
      ·cases tT.mp hz1
       exact tQ _ (tK _ (in1 x hx1))
     ·have e:ssV (ss++[(rl,rs1)])=ssV ss++[.ref rl]:=by unfold ssV; rw[tU]; rfl
      rw[e,tR]
      exact h6
    obtain⟨⟨la,ly⟩,hla⟩:∃ z,rs.getLast?=some z:=by
     cases e:rs.getLast? with
     | none=>rw[List.getLast?_eq_none_iff] at e; rw[e] at hrl2; simp at hrl2; omega
     | some z=>exact⟨z,U⟩
    obtain⟨rs',ers⟩:=List.getLast?_eq_some_iff.mp hla
    have eV:rwV rs=rwV rs'++[.ref la]:=by rw[ers]; unfold rwV; rw[tU]; rfl
    have mla:(la,ly) ∈ rs:=by rw[ers]; simp
    have g1:=h3.get 0 rfl
    rw[eV] at g1
    have g2:=h3.at_ (la,_) (tK _ (tQ _ (hin _ mla)))
    dsimp only at g2
    have lss:(ssV ss).length<=1000:=by unfold ssV; rw[tP]; omega
    refine⟨_,U,1,U,rl,_,_,_,U,U,SqL.of g1,iZ _ _,la,_,_,_,U,U,SqT.of g2,am (j:=0) rfl,(sz_ 3),fun wt hwt=>?_⟩
    have h4:=h3.alloc hwt (.tup [.str "ask",.str "go",.str "end"])
    refine⟨wt,_,U,.inr (SqT.of (h4.get 0 U)),U,U,_,U,?_⟩
    cases hlast:ly.last with
    | true=>
     refine ifF (ly.lastIn hlast) ?_
     obtain⟨N2,f1,f2,f3,f4,f5⟩:=fin rs N' hrl2 hok hin ⟨la,ly,hla,hlast⟩ h4.tail
     exact⟨_,U,.inl ⟨U,_,SqL.of f4⟩,_,U,pl,_,_,U,U,f4,sizeOk (by omega),_,_,_,_,_,slot,ss++[(rl,rs)],N2,U,by simp[hl],f3,f1,f2,f5⟩
    | false=>
     refine ifT (ly.notLast hlast) ?_
     refine⟨(sz_ 1),fun e he=>?_⟩
     have h5:=h4.alloc he (.tup (Rw.fin).v)
     have lrs:(rwV rs).length=many:=by unfold rwV; rw[tP]; exact hrl2
     refine⟨_,U,1,U,rl,_,_,_,U,U,h5.get 2 U,mM (by omega),?_⟩
     have h6:=h5.puti 2 U (.lst ((rwV rs).set ((rwV rs).length - 1) (.ref e)))
     have eS:(rwV rs).set ((rwV rs).length - 1) (.ref e)=rwV (rs'++[(e,Rw.fin)]):=by
      rw[eV,lj]
      unfold rwV
      rw[tU]
      rfl
     rw[eS] at h6
     rw[eS]
     have h7:=jt h6 2 rfl
     have l1:(rs'++[(e,Rw.fin)]).length=many:=by rw[<- hrl2,ers]; simp
     obtain⟨N2,f1,f2,f3,f4,f5⟩:=fin (rs'++[(e,Rw.fin)]) ((e,.tup (Rw.fin).v)::(wt,.tup [.str "ask",.str "go",.str "end"])::N') l1 (by
      intro x hx
      rcases tV.mp hx with hx | hx
      ·exact hok x (by rw[ers]; exact tQ _ hx)
      ·cases tT.mp hx
       trivial) (by
      intro x hx
      rcases tV.mp hx with hx | hx
      ·exact tK _ (tK _ (hin x (by rw[ers]; exact tQ _ hx)))
      ·cases tT.mp hx
       exact tM) ⟨e,.fin,by simp,U⟩ h7
     exact⟨_,U,.inl ⟨U,_,SqL.of f4⟩,_,U,pl,_,_,U,U,f4,sizeOk (by omega),_,_,_,_,_,slot,ss++[(rl,rs'++[(e,Rw.fin)])],N2,U,by simp[hl],f3,f1,f2,f5⟩
  ·rintro σ H2 hP
   rw[Int.toNat_natCast] at hP
   obtain⟨o9,o10,o11,o12,o13,slot,ss,N,rfl,hl,hg,hz,hx,h2⟩:=hP
   exact⟨_,U,q _ pl ss N (by omega) (fun k z hk=>by rw[hl]; exact⟨(hg k z hk).1,(hg k z hk).2.1⟩) ⟨lo+sz0 - 1,by rw[hl]; exact hSM,fun z hz=>by obtain⟨k,hk⟩:=List.getElem?_of_mem hz; exact(hg k z hk).2.2⟩ hz hx h2⟩
end
inductive sp_Jf1 (vs:List V) (H:Hp) (Q:VK) (E_:XK):Prop
 | mk (d:Addr) (ds:List Int) (L:Kn) (_:vs=[.ref d]) (_:Has H L) (_:(d,HO.lst (ds.map V.int)) ∈ L) (_:340<=ds.length) (_:(ds.getD (8:Int).toNat 0=0∨ds.getD (8:Int).toNat 0=9)) (_:∀ H' tp m w pl (ms ws:List Int) (ss:Ss) (N:Kn),(∀ x ∈ ms,x=1∨x=2)->(∀ x ∈ ws,1<=x/\x<=8)->ms.length<=30->ws.length<=30->ss.length=1->Good ms.length ws.length ss->rV ss->(∀ z ∈ ss,(z.1,HO.lst (rwV z.2)) ∈ N)->(∀ z ∈ ss,∀ x ∈ z.2,(x.1,HO.tup x.2.v) ∈ N)->Has H' ((tp,.tup [.ref m,.ref w,.ref pl])::(pl,.lst (ssV ss))::(N++((w,.lst (ws.map V.int))::(m,.lst (ms.map V.int))::L)))->Q (.ref tp) H'):sp_Jf1 vs H Q E_
theorem pR {c:Bool}{v:V}{i:Nat}{D:Ends}{σ:St}{H:Hp} (h:∀ τ,(τ=σ.set i (some v)∨τ=σ)->D.nx τ H):if c=true then nH (tC v) (eL i) D σ H else oK D σ H:=by
 cases c
 ·exact ce (h σ (.inr rfl))
 ·exact dP (h _ (.inl rfl))
section
variable {P:Program}{w:World}{K:PySem.W.Frag}{mg:Str->Option Value}{base:Heap}{t:Adr}
theorem scLg:FnScope ["_law_d","_law_many","_law_marks","_law_widths","_law_turn","_law_width"] ["_law_d"] (aj lE):={}
theorem qT (T:Txt K mg t):FnOk P w K mg base CX0 3 t.f_Jf1 t.d_Jf1 ["_law_d"] sp_Jf1:=by
 refine T.F_Jf1.ok scLg (fun vs H Q E h=>?_) (fun cdv A outer s H vs Q E hr h=>?_)
 ·obtain⟨_,_,_,rfl,_⟩:=h
  rfl
 ·obtain⟨d,ds,L,rfl,hH,md,hds,hx8,q⟩:=h
  have gd:=hH.at_ _ md
  dsimp only at gd
  refine⟨_,(ae (ax (i:=1) scLg.nd rfl (Or.inl rfl) (aw aR (av aB (pv 0) ah) ah))
   (ae (aD (ak aW (aw aR (aw bV (av aB (pv 0) ah) ah) ah) ah (ao _))
    (ai (ax (i:=1) scLg.nd rfl (Or.inl rfl) ah))
    ap)
   (ae (ff (ix:=2) scLg.nd rfl (Or.inl rfl) (esc:=aj lE) (k:=1) ["_law_turn","_law_d","_law_many","_law_marks","_law_widths","_law_turn'","_law_width"] rfl (bh (by rfl) T.z_range (aa (pv 1) ag)) (fun _ _ _ _ _=>by exact(aq (i:=0) (show List.Nodup (["_law_turn","_law_d","_law_many","_law_marks","_law_widths","_law_turn'","_law_width"]:List Str) from by decide +kernel) rfl (Or.inl rfl))) (fun _ _ _ _ _=>by exact bA) (fun _ _ _ _ _=>by exact(aw aQ ah (aw aR (av (mL (K:=K) rfl) (pv 1) (aw aQ ah (pv 0))) ah))) rfl (by decide +kernel) (by decide +kernel) rfl (by decide +kernel) (by rfl) (fun i y h hf=>by
    by_cases c:i=4
    ·subst c; cases h; exact absurd hf (by decide +kernel)
    ·have h2:(List.set (["_law_d","_law_many","_law_marks","_law_widths","_law_turn","_law_width"]:List Str) 4 "_law_turn'")[i]?=some y:=h
     rw[List.getElem?_set_ne (fun z=>c z.symm)] at h2; exact h2) (by decide +kernel))
   (ae (ax (i:=3) scLg.nd rfl (Or.inl rfl) (aX ag))
   (ae (ax (i:=1) scLg.nd rfl (Or.inl rfl) (aw aR (av aB (pv 0) ah) ah))
   (ae (aD (ak aW (aw aR (aw bV (av aB (pv 0) ah) ah) ah) ah (ao _))
    (ai (ax (i:=1) scLg.nd rfl (Or.inl rfl) ah))
    ap)
   (ae (bi PassesOwn.never rfl (bh (by rfl) T.z_range (aa (pv 1) ag)) (aq (i:=4) scLg.nd rfl (Or.inl rfl))
    (ae (ax (i:=5) scLg.nd rfl (Or.inl rfl) (aw aQ ah (aw aR (av aB (pv 0) (aw aQ ah (pv 4))) ah)))
     (ae (aD (ak aW (aw aR (aw bV (av aB (pv 0) (aw aQ ah (pv 4))) ah) ah) ah (ao _))
      (ai (ax (i:=5) scLg.nd rfl (Or.inl rfl) (aw aQ ah (aw aR (aw bV (av aB (pv 0) (aw aQ ah (pv 4))) ah) ah))))
      ap)
     (ai (ar (bS PySem.F.plainAttrs_list PySem.F.slot_list_append PySem.F.type_list_append aU (pv 3) (aa (pv 5) ag)))))))
   (ai (au (az (aa (pv 2) (aa (pv 3) (aa (pcl (l7 T) hr T.m_parts T.F_parts.kp (oq T) (aa (pv 0) (aa ah (aa (aN aI (by rfl) T.z_len (by rfl) (aa (pv 2) ag)) (aa (aN aI (by rfl) T.z_len (by rfl) (aa (pv 3) ag)) ag))))) ag))))))))))))),?_⟩
  rw[show L2.start ["_law_d","_law_many","_law_marks","_law_widths","_law_turn","_law_width"] [V.ref d]=([some (V.ref d),none,none,none,none,none]:St) from rfl]
  have a0:atI (ds.map V.int) 0=some (.int (ds.getD (0:Int).toNat 0)):=dgI 0 (by decide) (by omega)
  have a4:atI (ds.map V.int) 4=some (.int (ds.getD (4:Int).toNat 0)):=dgI 4 (by decide) (by omega)
  obtain⟨x0,ex0⟩:∃ x0,ds.getD (0:Int).toNat 0=x0:=⟨_,U⟩
  obtain⟨x4,ex4⟩:∃ x4,ds.getD (4:Int).toNat 0=x4:=⟨_,U⟩
  rw[ex0] at a0
  rw[ex4] at a4
  refine⟨_,U,d,_,_,_,U,U,SqL.of gd,a0,_,_,U,U,(show(0:Int)<4 by decide),?_⟩
  dsimp only[List.set]
  refine⟨_,U,d,_,_,_,U,U,SqL.of gd,a0,_,_,U,U,⟨by decide,by decide⟩,_,_,U,U,(show(0:Int)<11 by decide),U,_,U,?_⟩
  refine pR (fun τ hτ=>?_)
  obtain⟨n,hn,rfl⟩:∃ n:Nat,n<=30/\τ=[some (.ref d),some (.int n),none,none,none,none]:=by
   rcases hτ with rfl | rfl
   ·exact⟨30,Nat.le_refl _,U⟩
   ·exact⟨(x0 % 4).toNat,by omega,by rw[Int.toNat_of_nonneg (by omega)]; rfl⟩
  refine⟨_,U,_,U,by omega,by omega,fun D hD=>?_⟩
  refine⟨fun i m zs H'=>m=n - i/\i<=n/\∃ ms:List Int,zs=ms.map V.int/\ms.length=i/\(∀ x ∈ ms,x=1∨x=2)/\Has H' ((D,.lst zs)::L),⟨_,U,Nat.zero_le _,[],U,U,by simp,hH.alloc hD _⟩,?_⟩
  rintro i m zs H2 ⟨rfl,hi,ms,rfl,hml,hms,h2⟩
  refine⟨h2.get 0 U,?_⟩
  have g2:=h2.tail.at_ _ md
  dsimp only at g2
  by_cases hlt:i<n
  ·refine .inr ⟨(show i<(n:Int).toNat by omega),?_⟩
   rintro x H3 ⟨rfl,rfl⟩
   refine⟨U,bJ ?_⟩
   refine⟨_,U,_,U,_,_,U,U,d,_,_,_,U,U,SqL.of g2,dgI (1+(0+(i:Int))) (by omega) (by omega),_,_,U,U,(show(0:Int)<2 by decide),_,_,U,U,?_⟩
   dsimp only
   obtain⟨v,ev⟩:∃ v,1+ds.getD (1+(0+(i:Int))).toNat 0 % 2=v:=⟨_,U⟩
   rw[ev]
   refine⟨sizeOk (by rw[tP]; omega),h2.get 0 U,n - (i+1),by omega,U,hlt,ms++[v],by rw[tU]; rfl,by simp[hml],?_,h2.puti 0 U _⟩
   intro x hx
   rcases tV.mp hx with hx | hx
   ·exact hms x hx
   ·cases tT.mp hx
    omega
  ·refine .inl ⟨(show(n:Int).toNat<=i by omega),?_⟩
   dsimp only[List.set]
   refine⟨(sz_ 0),fun wl hwl=>?_⟩
   have h3:=h2.alloc hwl (.lst [])
   have g3:=h3.tail.tail.at_ _ md
   dsimp only[List.set] at g3 ⊢
   refine⟨_,U,d,_,_,_,U,U,SqL.of g3,a4,_,_,U,U,(show(0:Int)<4 by decide),?_⟩
   dsimp only[List.set]
   refine⟨_,U,d,_,_,_,U,U,SqL.of g3,a4,_,_,U,U,⟨by decide,by decide⟩,_,_,U,U,(show(0:Int)<11 by decide),U,_,U,?_⟩
   refine pR (fun τ hτ=>?_)
   obtain⟨n2,hn2,rfl⟩:∃ n2:Nat,n2<=30/\τ=[some (.ref d),some (.int n2),some (.ref D),some (.ref wl),none,none]:=by
    rcases hτ with rfl | rfl
    ·exact⟨30,Nat.le_refl _,U⟩
    ·exact⟨(x4 % 4).toNat,by omega,by rw[Int.toNat_of_nonneg (by omega)]; rfl⟩
   refine⟨_,U,_,U,by omega,by omega,bB (fun j σ H'=>∃ (o4 o5:Option V) (ws:List Int),σ=[some (.ref d),some (.int n2),some (.ref D),some (.ref wl),o4,o5]/\ws.length=j/\(∀ x ∈ ws,1<=x/\x<=8)/\Has H' ((wl,.lst (ws.map V.int))::(D,.lst (ms.map V.int))::L)) ⟨_,_,[],U,U,by simp,h3⟩ ?_ ?_⟩
   ·clear h3
    rintro j σ H3 hj ⟨o4,o5,ws,rfl,hwl2,hws,h3⟩
    have hj:j<n2:=by omega
    have g3:=h3.tail.tail.at_ _ md
    dsimp only at g3
    rw[Int.zero_add]
    show iq _ _ _ _ _
    dsimp only[List.set]
    have a5:atI (ds.map V.int) (5+(j:Int))=some (.int (ds.getD (5+(j:Int)).toNat 0)):=dgI _ (by omega) (by omega)
    obtain⟨x5,ex5⟩:∃ x5,ds.getD (5+(j:Int)).toNat 0=x5:=⟨_,U⟩
    rw[ex5] at a5
    have fin:∀ (v:Int) (o4 o5:Option V),1<=v->v<=8->∃ (o4' o5':Option V) (ws':List Int),[some (V.ref d),some (.int n2),some (.ref D),some (.ref wl),o4,o5]=[some (V.ref d),some (.int n2),some (.ref D),some (.ref wl),o4',o5']/\ws'.length=j+1/\(∀ x ∈ ws',1<=x/\x<=8)/\Has (upd H3 wl (.lst (ws.map V.int++[.int v]))) ((wl,.lst (ws'.map V.int))::(D,.lst (ms.map V.int))::L):=by
     intro v o4 o5 v1 v8
     refine⟨o4,o5,ws++[v],U,by simp[hwl2],?_,?_⟩
     ·intro x hx
      rcases tV.mp hx with hx | hx
      ·exact hws x hx
      ·cases tT.mp hx
       exact⟨v1,v8⟩
     ·rw[tU]
      exact h3.puti 0 U _
    refine⟨_,U,_,U,_,_,U,U,d,_,_,_,U,U,SqL.of g3,a5,_,_,U,U,(show(0:Int)<2 by decide),_,_,U,U,?_⟩
    dsimp only[List.set]
    refine⟨_,U,_,U,_,_,U,U,d,_,_,_,U,U,SqL.of g3,a5,_,_,U,U,⟨by decide,by decide⟩,_,_,U,U,(show(0:Int)<4 by decide),U,_,U,?_⟩
    refine if2 (fun _=>?_) (fun _=>?_)
    ·refine⟨_,U,_,U,_,_,U,U,d,_,_,_,U,U,SqL.of g3,a5,_,_,U,U,⟨by decide,by decide⟩,_,_,U,U,(show(0:Int)<8 by decide),_,_,U,U,?_⟩
     exact⟨_,U,.inl ⟨U,_,SqL.of (h3.get 0 U)⟩,_,U,wl,_,_,U,U,h3.get 0 U,sizeOk (by rw[tP]; omega),fin (1+x5 / 8 % 8) _ _ (by omega) (by omega)⟩
    ·exact⟨_,U,.inl ⟨U,_,SqL.of (h3.get 0 U)⟩,_,U,wl,_,_,U,U,h3.get 0 U,sizeOk (by rw[tP]; omega),fin (1+x5 % 2) _ _ (by omega) (by omega)⟩
   ·clear h3
    rintro σ H3 hP
    rw[Int.toNat_natCast] at hP
    obtain⟨o4,o5,ws,rfl,hwl2,hws,h3⟩:=hP
    refine⟨_,U,_,U,_,U,_,U,D,_,U,.inl (SqL.of (h3.get 1 U)),_,U,wl,_,U,.inl (SqL.of (h3.get 0 U)),d,ds,ms.length,ws.length,_,(by rw[tP,tP]; rfl),h3,tK _ (tK _ md),hds,hx8,fun H4 pl ss N k1 k3 kL k4 k5 h4=>?_⟩
    refine⟨(sz_ 3),fun tp htp=>?_⟩
    exact q _ tp D wl pl ms ws ss N hms hws (by omega) (by omega) k1 k3 kL k4 k5 (h4.alloc htp _)
end
theorem Kd.out_point {k:Kd} (h:k.point=true) (e s:Int):k.out e s=if e=0 then .int s else .int 0:=by
 have ns:¬ k=.stop:=fun h'=>by rw[h'] at h; cases h
 unfold Kd.out; rw[if_neg ns,if_pos h]
theorem Kd.out_int {k:Kd} (h:¬ k=.stop) (e s:Int):∃ i,k.out e s=.int i:=by
 unfold Kd.out; rw[if_neg h]
 split
 ·split
  ·exact⟨_,U⟩
  ·exact⟨_,U⟩
 ·exact⟨_,U⟩
theorem Kd.many_point {k:Kd} (h:k.point=true):k.many=3:=by cases k <;> first | rfl | cases h
theorem Kd.side12 {k:Kd}{e s:Int} (e0:0<=e) (e1:e<k.many) (h:s=1∨s=2):k.side e s=1∨k.side e s=2:=by
 unfold Kd.side
 split
 ·rename_i hp
  have:=Kd.many_point hp
  split
  ·split <;> omega
  ·split <;> omega
 ·exact h
noncomputable abbrev En:=Addr×Int×Int
structure Wd where
 kf:Int->Option Kd
 nf:Int->Int
 rf:Int->Int
 mf:Int->Int->Option En
structure Sd where
 ss:List Int
 at_:Option En
 rg:List Int
noncomputable def Wd.sv (w:Wd) (s:Sd) (n:Int):Int:=s.ss.getD (w.rf n).toNat 0
noncomputable def Wd.ok (w:Wd) (z:En):Prop:=∃ k,w.kf z.2.1=some k/\0<=z.2.2/\z.2.2<k.many
noncomputable def bf (w:Wd) (s:Sd) (z:En) (k:Kd) (z':En):Sd :=
 ⟨if k.point then s.ss.set (w.rf z.2.1).toNat (k.side z.2.2 (w.sv s z.2.1)) else s.ss,some z',if k=.bell then s.rg++[w.nf z.2.1] else s.rg⟩
noncomputable def Wd.nx (w:Wd) (s:Sd):Option Sd :=
 match s.at_ with
 | none=>none
 | some z=>match w.kf z.2.1 with
  | none=>none
  | some k=>match k.out z.2.2 (w.sv s z.2.1) with
   | .int o=>(w.mf z.2.1 o).map (bf w s z k)
   | _=>none
noncomputable def Wd.why (w:Wd) (s:Sd):V :=
 match s.at_ with
 | none=>.str "none"
 | some z=>match w.kf z.2.1 with
  | none=>.non
  | some k=>match k.out z.2.2 (w.sv s z.2.1) with
   | .int o=>(match w.mf z.2.1 o with | none=>.str "loose" | some _=>.non)
   | _=>.str "stop"
noncomputable def Wd.go (w:Wd):Nat->Sd->Sd
 | 0,s=>s
 | n+1,s=>match w.nx s with | none=>s | some s'=>w.go n s'
noncomputable def Wd.hist (w:Wd):Nat->Sd->List Sd
 | 0,_=>[]
 | n+1,s=>match w.nx s with | none=>[] | some s'=>s::w.hist n s'
noncomputable def Wd.tv (w:Wd) (s:Sd) (z:En):V:=match w.kf z.2.1 with | some k=>if k.point then .int (w.sv s z.2.1) else .non | none=>.non
noncomputable def Wd.tr (w:Wd) (s:Sd):HO:=match s.at_ with | some z=>.tup [.ref z.1,w.tv s z] | none=>.tup []
noncomputable def trK (w:Wd) (ts:List (Addr×Sd)):Kn:=ts.map fun x=>(x.1,w.tr x.2)
noncomputable def trV (ts:List (Addr×Sd)):List V:=ts.map fun x=>V.ref x.1
noncomputable def enV:Option En->V
 | none=>.non
 | some z=>.ref z.1
structure Rep (w:Wd) (s:Sd) (y:YR):Prop where
 kd:∀ n k,w.kf n=some k->aG y.kinds (Sum.inl n)=some (.str k.str)
 no:∀ n k,w.kf n=some k->aG y.notes (Sum.inl n)=if k=.bell then some (.int (w.nf n)) else none
 ro:∀ n k,w.kf n=some k->aG y.rods (Sum.inl n)=if k.point=true then some (.int (w.rf n)) else none
 rr:∀ n k,w.kf n=some k->k.point=true->0<=w.rf n/\w.rf n<s.ss.length
 sd:y.sides=s.ss.map V.int
 s12:∀ x ∈ s.ss,x=1∨x=2
 mt:∀ n e,aG y.mates (kE n e)=(w.mf n e).map fun z=>V.ref z.1
 mo:∀ n e z,w.mf n e=some z->w.ok z
 en:y.eng=enV s.at_
 eo:∀ z,s.at_=some z->w.ok z
 rg:y.rung=s.rg.map V.int
structure Pool (w:Wd) (s:Sd) (L:Kn):Prop where
 m:∀ n e z,w.mf n e=some z->∃ j:Nat,L[j]?=some (z.1,HO.tup [.int z.2.1,.int z.2.2])
 e:∀ z,s.at_=some z->∃ j:Nat,L[j]?=some (z.1,HO.tup [.int z.2.1,.int z.2.2])
variable{s:Sd}
theorem Rep.s1 {w:Wd}{y:YR} (R:Rep w s y) {n:Int}{k:Kd} (hk:w.kf n=some k) (hp:k.point=true):w.sv s n=1∨w.sv s n=2:=by
 obtain⟨h0,h1⟩:=R.rr n k hk hp
 refine R.s12 _ ?_
 unfold Wd.sv
 rw[List.getD_eq_getElem?_getD,tN (by omega)]
 exact List.getElem_mem _
theorem Rep.sideAt {w:Wd}{y:YR} (R:Rep w s y) {n:Int}{k:Kd} (hk:w.kf n=some k) (hp:k.point=true):y.sides[(w.rf n).toNat]?=some (.int (w.sv s n)):=by
 obtain⟨h0,h1⟩:=R.rr n k hk hp
 rw[R.sd,tS,tN (by omega)]
 unfold Wd.sv
 rw[List.getD_eq_getElem?_getD,tN (by omega)]
 rfl
theorem Kd.out_in {k:Kd}{e s o:Int} (e0:0<=e) (e1:e<k.many) (hs:k.point=true->s=1∨s=2) (h:k.out e s=.int o):0<=o/\o<k.many:=by
 unfold Kd.out at h
 by_cases c:k=.stop
 ·rw[if_pos c] at h; cases h
 rw[if_neg c] at h
 by_cases p:k.point=true
 ·rw[if_pos p] at h
  have m:=Kd.many_point p
  rcases hs p with r | r <;> split at h <;> (injection h with h; omega)
 ·rw[if_neg p] at h
  have m:k.many = 2:=by cases k <;> first | rfl | (exfalso; exact c rfl) | (exfalso; exact p rfl)
  injection h with h
  omega
theorem iz (w:Wd) (s:Sd) (z:En) (k:Kd) (z':En):(bf w s z k z').at_=some z':=rfl
theorem fi {w:Wd}{s s':Sd} (h:w.nx s=some s'):∃ (z:En) (k:Kd) (o:Int) (z':En),s.at_=some z/\w.kf z.2.1=some k/\k.out z.2.2 (w.sv s z.2.1)=.int o/\w.mf z.2.1 o=some z'/\s'=bf w s z k z':=by
 unfold Wd.nx at h
 split at h
 ·cases h
 ·rename_i z hz
  split at h
  ·cases h
  ·rename_i k hk
   split at h
   ·rename_i o ho
    obtain⟨z',hm,e⟩:=Option.map_eq_some_iff.mp h
    exact⟨z,k,o,z',hz,hk,ho,hm,e.symm⟩
   ·cases h
theorem nx_of {w:Wd}{z:En}{k:Kd}{o:Int}{z':En} (hz:s.at_=some z) (hk:w.kf z.2.1=some k) (ho:k.out z.2.2 (w.sv s z.2.1)=.int o) (hm:w.mf z.2.1 o=some z'):w.nx s=some (bf w s z k z'):=by
 unfold Wd.nx
 simp only[hz,hk,ho,hm,Option.map_some]
theorem jc {w:Wd}{y y':YR}{z:En}{k:Kd}{z':En}{o:Int} (R:Rep w s y) (hz:s.at_=some z) (hk:w.kf z.2.1=some k) (hm:w.mf z.2.1 o=some z')
  (e1:y'.kinds=y.kinds) (e2:y'.notes=y.notes) (e3:y'.rods=y.rods) (e4:y'.mates=y.mates) (e5:y'.sides=(bf w s z k z').ss.map V.int) (e6:y'.eng=.ref z'.1) (e7:y'.rung=(bf w s z k z').rg.map V.int) :
  Rep w (bf w s z k z') y':=by
 have hl:(bf w s z k z').ss.length=s.ss.length:=by
  unfold bf; dsimp only; split
  ·exact List.length_set
  ·rfl
 refine⟨fun n k h=>by rw[e1]; exact R.kd n k h,fun n k h=>by rw[e2]; exact R.no n k h,fun n k h=>by rw[e3]; exact R.ro n k h,fun n k h1 h2=>by rw[hl]; exact R.rr n k h1 h2,e5,fun x hx=>?_,fun n e=>by rw[e4]; exact R.mt n e,R.mo,e6,fun u hu=>?_,e7⟩
 ·unfold bf at hx
  dsimp only at hx
  split at hx
  ·rename_i hp
   rcases List.mem_or_eq_of_mem_set hx with hx | hx
   ·exact R.s12 x hx
   ·obtain⟨k',h1,h2,h3⟩:=R.eo z hz
    rw[hk] at h1
    cases h1
    rw[hx]
    exact Kd.side12 h2 h3 (R.s1 hk hp)
  ·exact R.s12 x hx
 ·rw[iz] at hu
  cases hu
  exact R.mo _ _ _ hm
theorem Pool.step {w:Wd}{s s':Sd}{L:Kn} (p:Pool w s L) (h:w.nx s=some s'):Pool w s' L:=by
 obtain⟨z,k,o,z',_,_,_,hm,rfl⟩:=fi h
 refine⟨p.m,fun u hu=>?_⟩
 rw[iz] at hu
 cases hu
 exact p.m _ _ _ hm
inductive Nxt (w:Wd) (s:Sd):List V->Prop
 | held (h:w.nx s=none) (x:Str) (e:w.why s=.str x):Nxt w s [.str x,.non,.non]
 | goes (z:En) (k:Kd) (o:Int) (z':En) (hz:s.at_=some z) (hk:w.kf z.2.1=some k) (ho:k.out z.2.2 (w.sv s z.2.1)=.int o) (hm:w.mf z.2.1 o=some z') :
   Nxt w s [.non,.ref z'.1,if k.point then .int (k.side z.2.2 (w.sv s z.2.1)) else .non]
inductive sp_carry (C:Addr) (vs:List V) (H:Hp) (Q:VK) (E_:XK):Prop
 | mk (A:YA) (y:YR) (L:Kn) (w:Wd) (s:Sd) (z:En) (k:Kd) (z':En) (_:vs=[.ref A.p,.ref z'.1,if k.point then .int (k.side z.2.2 (w.sv s z.2.1)) else .non]) (_:Has H (yL C A y++L)) (_:Rep w s y) (_:s.at_=some z) (_:w.kf z.2.1=some k) (_:(∃ j:Nat,L[j]?=some (z.1,HO.tup [.int z.2.1,.int z.2.2]))) (_:y.trail.length<=900000) (_:y.rung.length<=900000) (_:∀ H' a,Has H' (yL C A { y with sides:=(bf w s z k z').ss.map V.int,eng:=.ref z'.1,rung:=(bf w s z k z').rg.map V.int,trail:=y.trail++[.ref a] }++((a,w.tr s)::L))->Q .non H'):sp_carry C vs H Q E_
inductive sp_next (C:Addr) (vs:List V) (H:Hp) (Q:VK) (E_:XK):Prop
 | mk (A:YA) (y:YR) (L:Kn) (w:Wd) (s:Sd) (_:vs=[.ref A.p]) (_:Has H (yL C A y++L)) (_:Rep w s y) (_:Pool w s L) (_:∀ H' p xs,Nxt w s xs->Has H' ((p,.tup xs)::(yL C A y++L))->Q (.ref p) H'):sp_next C vs H Q E_
inductive sp_held (C:Addr) (vs:List V) (H:Hp) (Q:VK) (E_:XK):Prop
 | mk (A:YA) (y:YR) (L:Kn) (w:Wd) (s:Sd) (_:vs=[.ref A.p]) (_:Has H (yL C A y++L)) (_:Rep w s y) (_:Pool w s L) (_:∀ H',Has H' (yL C A y++L)->Q (w.why s) H'):sp_held C vs H Q E_
inductive sp_run (C:Addr) (vs:List V) (H:Hp) (Q:VK) (E_:XK):Prop
 | mk (A:YA) (y:YR) (L:Kn) (w:Wd) (s:Sd) (ts:List (Addr×Sd)) (m:Int) (_:vs=[.ref A.p,.int m]) (_:Has H (yL C A y++(trK w ts++L))) (_:Rep w s y) (_:Pool w s L) (_:y.trail=trV ts) (_:ts.length+m<=900000) (_:y.rung.length+m<=900000) (_:ts.length<=900000) (_:y.rung.length<=900000) (_:∀ H' y' ts',Has H' (yL C A y'++(trK w (ts++ts')++L))->Rep w (w.go m.toNat s) y'->y'.trail=trV (ts++ts')->ts'.map (·.2)=w.hist m.toNat s->y'.next=y.next->y'.kinds=y.kinds->y'.notes=y.notes->y'.rods=y.rods->y'.mates=y.mates->Pool w (w.go m.toNat s) L->Q (.int ts'.length) H'):sp_run C vs H Q E_
theorem kR {w:Wd} (h:s.at_=none):w.nx s=none/\w.why s=.str "none":=by
 unfold Wd.nx Wd.why; simp only[h]; exact⟨trivial,trivial⟩
theorem fu {w:Wd}{z:En}{k:Kd} (hz:s.at_=some z) (hk:w.kf z.2.1=some k) (ho:k.out z.2.2 (w.sv s z.2.1)=.non):w.nx s=none/\w.why s=.str "stop":=by
 unfold Wd.nx Wd.why; simp only[hz,hk,ho]; exact⟨trivial,trivial⟩
theorem gq {w:Wd}{z:En}{k:Kd}{o:Int} (hz:s.at_=some z) (hk:w.kf z.2.1=some k) (ho:k.out z.2.2 (w.sv s z.2.1)=.int o) (hm:w.mf z.2.1 o=none):w.nx s=none/\w.why s=.str "loose":=by
 unfold Wd.nx Wd.why; simp only[hz,hk,ho,hm,Option.map_none]; exact⟨trivial,trivial⟩
theorem ij {w:Wd}{z:En}{k:Kd}{o:Int}{z':En} (hz:s.at_=some z) (hk:w.kf z.2.1=some k) (ho:k.out z.2.2 (w.sv s z.2.1)=.int o) (hm:w.mf z.2.1 o=some z'):w.why s=.non:=by
 unfold Wd.why; simp only[hz,hk,ho,hm]
theorem Nxt.why {w:Wd}{xs:List V} (h:Nxt w s xs):xs.length=3/\xs[0]?=some (w.why s):=by
 cases h with
 | held h x e=>rw[e]; exact⟨U,U⟩
 | goes z k o z' hz hk ho hm=>rw[ij hz hk ho hm]; exact⟨U,U⟩
theorem nY (w:Wd) {s s':Sd} (h:w.nx s=some s') (n:Nat):w.go (n+1) s=w.go n s':=by show(match w.nx s with | none=>s | some s'=>w.go n s')=_; rw[h]
theorem kA (w:Wd) {s s':Sd} (h:w.nx s=some s') (n:Nat):w.hist (n+1) s=s::w.hist n s':=by show(match w.nx s with | none=>[] | some s'=>s::w.hist n s')=_; rw[h]
theorem n6 (w:Wd) (h:w.nx s=none):∀ n,w.go n s=s
 | 0=>rfl
 | n+1=>by show(match w.nx s with | none=>s | some s'=>w.go n s')=_; rw[h]
theorem kB (w:Wd) (h:w.nx s=none):∀ n,w.hist n s=[]
 | 0=>rfl
 | n+1=>by show(match w.nx s with | none=>[] | some s'=>s::w.hist n s')=_; rw[h]
theorem k7 (w:Wd) (ts:List (Addr×Sd)) (a:Addr) (s:Sd) (L:Kn):trK w (ts++[(a,s)])++L=trK w ts++((a,w.tr s)::L):=by
 unfold trK; rw[tU,tR]; rfl
theorem iy {w:Wd}{s:Sd}{z:En}{k:Kd}{z':En}:(bf w s z k z').rg.length<=s.rg.length+1:=by
 unfold bf; dsimp only; split
 ·simp
 ·omega
theorem Pool.app {w:Wd}{L:Kn} (p:Pool w s L) (M:Kn):Pool w s (M++L):=by
 have sh:∀ {x:Addr×HO},(∃ j:Nat,L[j]?=some x)->∃ j:Nat,(M++L)[j]?=some x:=fun {x} ⟨j,h⟩=>⟨M.length+j,by rw[t8 (by omega),show M.length+j - M.length=j by omega]; exact h⟩
 exact⟨fun n e z h=>sh (p.m n e z h),fun z h=>sh (p.e z h)⟩
inductive runInv (C:Addr) (A:YA) (y:YR) (L:Kn) (W:Wd) (s:Sd) (ts:List (Addr×Sd)) (m:Int) (r:Nat) (σ:St) (H:Hp):Prop
 | mk (i:Nat) (y1:YR) (ts1:List (Addr×Sd)) (s1:Sd) (o1 o2 o3:Option V) (_:r=m.toNat - i) (_:i<=m.toNat) (_:σ=[some (.ref A.p),some (.int m),some (.int i),o1,o2,o3]) (_:Has H (yL C A y1++(trK W (ts++ts1)++L))) (_:Rep W s1 y1) (_:Pool W s1 L) (_:y1.trail=trV (ts++ts1)) (_:ts1.length=i) (_:W.go m.toNat s=W.go (m.toNat - i) s1) (_:W.hist m.toNat s=ts1.map (·.2)++W.hist (m.toNat - i) s1) (_:y1.rung.length<=y.rung.length+i) (_:y1.next=y.next) (_:y1.kinds=y.kinds) (_:y1.notes=y.notes) (_:y1.rods=y.rods) (_:y1.mates=y.mates):runInv C A y L W s ts m r σ H
section
variable {P:Program}{w:World}{K:PySem.W.Frag}{mg:Str->Option Value}{base:Heap}{t:Adr}
theorem scCy:FnScope ["self","end","side","piece","rod"] ["self","end","side"] (aj sg):={}
theorem ok_Jt (T:Txt K mg t):FnOk P w K mg base CX0 1 t.f_Jt t.d_Jt ["self","end","side"] (sp_carry t.c_Yard):=by
 refine T.F_Jt.ok scCy (fun vs H Q E h=>?_) (fun cdv A outer s H vs Q E hr h=>?_)
 ·obtain⟨_,_,_,_,_,_,_,_,rfl,_⟩:=h
  rfl
 ·obtain⟨A,y,L,W,s1,z,k,z',rfl,hH,R,hz,hk,⟨j,hj⟩,tl,rl,q⟩:=h
  have hu:=cS hr
  refine⟨_,(ae (ax (i:=3) scCy.nd rfl (Or.inl rfl) (av aK (aA (pv 0) rfl) ah))
   (ae (ax (i:=4) scCy.nd rfl (Or.inl rfl) (fJ hu (aA (pv 0) rfl) (pv 3) ⟨U,U,U,U⟩))
   (ae (ar (bS PySem.F.plainAttrs_list PySem.F.slot_list_append PySem.F.type_list_append aU (aA (pv 0) rfl) (@aa _ _ _ _ _ (az (aa (aA (pv 0) rfl) (aa (cO (ak bP (pv 4) aS (ao _)) aS (av aB (aA (pv 0) rfl) (pv 4))) ag))) ag (by rfl))))
   (ae (aD (ak cf (pv 4) aS (ao _))
    (ai (bK (pv 2) (hG (aA (pv 0) rfl) (pv 4) dy)))
    ap)
   (ae (aD (g7 (lY hu (pv 3) (aA (pv 0) rfl)))
    (ai (ar (bS PySem.F.plainAttrs_list PySem.F.slot_list_append PySem.F.type_list_append aU (aA (pv 0) rfl) (aa (fg hu (aA (pv 0) rfl) (pv 3)) ag))))
    ap)
   (ai (bj (pv 0) (pv 1) rfl))))))),?_⟩
  have gz:=hH.get (j+9) (by simpa [yL] using hj)
  have en:y.eng=.ref z.1:=by rw[R.en,hz]; rfl
  refine⟨_,U,A.p,_,A.dx,_,_,U,hH.get 1 U,T.cl_Yard,T.n_Jn_end,jq _ _ _,z.1,_,_,_,en,U,SqT.of gz,U,?_⟩
  refine⟨_,U,A.p,_,A.dx,_,_,U,hH.get 1 U,T.cl_Yard,T.n_Yard_rods_under,dR _ _ _,A.r,U,.inl ⟨_,.inl (hH.get 5 U)⟩,_,U,_,DGet.k (k:=Sum.inl z.2.1) (hH.get 5 U),?_⟩
  refine⟨_,U,A.p,_,A.dx,_,_,U,hH.get 1 U,T.cl_Yard,T.n_Yard_trail,mW _ _ _,.inl ⟨U,_,SqL.of (hH.get 0 U)⟩,?_⟩
  refine⟨_,U,A.p,_,A.dx,_,_,U,hH.get 1 U,T.cl_Yard,T.n_Jn_end,jq _ _ _,_,U,U,_,U,?_⟩
  rw[R.ro _ _ hk,en]
  have etr:W.tr s1=.tup [.ref z.1,if k.point then .int (W.sv s1 z.2.1) else .non]:=by unfold Wd.tr; rw[hz]; show HO.tup [.ref z.1,W.tv s1 z]=_; unfold Wd.tv; rw[hk]
  by_cases hp:k.point=true
  ·rw[if_pos hp] at etr ⊢
   try rw[if_pos hp]
   obtain⟨r0,r1⟩:=R.rr _ _ hk hp
   have sa:=R.sideAt hk hp
   refine ifF rfl ?_
   refine⟨_,U,A.p,_,A.dx,_,_,U,hH.get 1 U,T.cl_Yard,T.n_Yard_sides,cA _ _ _,_,U,A.s,_,W.rf z.2.1,_,U,U,SqL.of (hH.get 6 U),(by rw[show W.rf z.2.1=(((W.rf z.2.1).toNat:Nat):Int) by omega]; exact am sa),?_⟩
   refine⟨(show 2<=sizeLine by decide),fun a ha=>?_⟩
   have h1:=hH.alloc ha (.tup [.ref z.1,.int (W.sv s1 z.2.1)])
   refine⟨A.tr,_,_,U,U,h1.get 1 U,sizeOk (by omega),?_⟩
   have h2:=Has.comm (X:=[_]) (Y:=yL t.c_Yard A { y with trail:=y.trail++[.ref a] }) (R:=L) (h1.puti 1 U (.lst (y.trail++[.ref a])))
   generalize upd (upd H a _) A.tr _=H2 at h2 ⊢
   replace h2:Has H2 (yL t.c_Yard A { y with trail:=y.trail++[.ref a] }++((a,W.tr s1)::L)):=by rw[etr]; exact h2
   clear h1 ha
   refine⟨_,U,U,_,U,ifT rfl ?_⟩
   have sl:y.sides.length=s1.ss.length:=by rw[R.sd,tP]
   have hjx:ixN y.sides.length (W.rf z.2.1)=some (W.rf z.2.1).toNat:=by unfold ixN; rw[if_pos r0,if_pos (by omega)]
   refine⟨_,U,_,U,A.p,_,A.dx,_,_,U,h2.get 1 U,T.cl_Yard,T.n_Yard_sides,cA _ _ _,_,U,A.s,_,_,_,U,U,h2.get 6 U,hjx,?_⟩
   have h3:=h2.puti 6 U (.lst (y.sides.set (W.rf z.2.1).toNat (.int (k.side z.2.2 (W.sv s1 z.2.1)))))
   have es:(bf W s1 z k z').ss.map V.int=y.sides.set (W.rf z.2.1).toNat (.int (k.side z.2.2 (W.sv s1 z.2.1))):=by unfold bf; dsimp only; rw[if_pos hp,List.map_set,R.sd]
   have hT:Has _ (yL t.c_Yard A { y with sides:=y.sides.set (W.rf z.2.1).toNat (.int (k.side z.2.2 (W.sv s1 z.2.1))),trail:=y.trail++[.ref a] }++((a,W.tr s1)::L)):=h3
   refine⟨_,U,_,U,A.p,_,A.dx,_,_,U,hT.get 1 U,T.cl_Yard,T.n_Yard_notes,cV _ _ _,A.n,_,U,DGet.k (k:=Sum.inl z.2.1) (hT.get 4 U),_,U,if2 (fun hb=>?_) (fun hb=>?_)⟩
   ·have kb:k=.bell:=by
     rw[R.no _ _ hk] at hb
     by_cases c:k=.bell
     ·exact c
     ·rw[if_neg c] at hb; cases hb
    have nv:aG y.notes (Sum.inl z.2.1)=some (.int (W.nf z.2.1)):=by rw[R.no _ _ hk,if_pos kb]
    refine⟨_,U,A.p,_,A.dx,_,_,U,hT.get 1 U,T.cl_Yard,T.n_Yard_rung,ic _ _ _,.inl ⟨U,_,SqL.of (hT.get 8 U)⟩,_,U,A.p,_,A.dx,_,_,U,hT.get 1 U,T.cl_Yard,T.n_Yard_notes,cV _ _ _,_,U,A.n,_,U,(by rw[<- nv]; exact DGet.k (k:=Sum.inl z.2.1) (hT.get 4 U)),A.g,_,_,U,U,hT.get 8 U,sizeOk (show y.rung.length<=1000000 by omega),?_⟩
    have h4:Has _ (yL t.c_Yard A { y with sides:=y.sides.set (W.rf z.2.1).toNat (.int (k.side z.2.2 (W.sv s1 z.2.1))),rung:=y.rung++[.int (W.nf z.2.1)],trail:=y.trail++[.ref a] }++((a,W.tr s1)::L)):=hT.puti 8 U (.lst (y.rung++[.int (W.nf z.2.1)]))
    refine⟨_,U,_,U,A.p,_,A.dx,_,U,h4.get 1 U,T.cl_Yard,T.n_Jn_end,(show 9<1000 by decide),?_⟩
    rw[cc]
    have h5:=h4.puti 1 U (.ins t.c_Yard A.dx (fl A y.next (.ref z'.1)))
    have er:(bf W s1 z k z').rg.map V.int=y.rung++[.int (W.nf z.2.1)]:=by unfold bf; dsimp only; rw[if_pos kb,tU,R.rg]; rfl
    refine q _ a ?_
    rw[er,es]
    exact h5
   ·have kb:¬ k=.bell:=fun c=>by rw[R.no _ _ hk,if_pos c] at hb; cases hb
    refine⟨_,U,_,U,A.p,_,A.dx,_,U,hT.get 1 U,T.cl_Yard,T.n_Jn_end,(show 9<1000 by decide),?_⟩
    rw[cc]
    have h5:=hT.puti 1 U (.ins t.c_Yard A.dx (fl A y.next (.ref z'.1)))
    have er:(bf W s1 z k z').rg.map V.int=y.rung:=by unfold bf; dsimp only; rw[if_neg kb,R.rg]
    refine q _ a ?_
    rw[er,es]
    exact h5
  ·rw[if_neg hp] at etr ⊢
   try rw[if_neg hp]
   refine ifT rfl ?_
   refine⟨(show 2<=sizeLine by decide),fun a ha=>?_⟩
   have h1:=hH.alloc ha (.tup [.ref z.1,.non])
   refine⟨A.tr,_,_,U,U,h1.get 1 U,sizeOk (by omega),?_⟩
   have h2:=Has.comm (X:=[_]) (Y:=yL t.c_Yard A { y with trail:=y.trail++[.ref a] }) (R:=L) (h1.puti 1 U (.lst (y.trail++[.ref a])))
   generalize upd (upd H a _) A.tr _=H2 at h2 ⊢
   replace h2:Has H2 (yL t.c_Yard A { y with trail:=y.trail++[.ref a] }++((a,W.tr s1)::L)):=by rw[etr]; exact h2
   clear h1 ha
   refine⟨_,U,U,_,U,ifF rfl ?_⟩
   have h3:=h2
   have es:(bf W s1 z k z').ss.map V.int=y.sides:=by unfold bf; dsimp only; rw[if_neg hp,R.sd]
   have hT:Has _ (yL t.c_Yard A { y with sides:=y.sides,trail:=y.trail++[.ref a] }++((a,W.tr s1)::L)):=h3
   refine⟨_,U,_,U,A.p,_,A.dx,_,_,U,hT.get 1 U,T.cl_Yard,T.n_Yard_notes,cV _ _ _,A.n,_,U,DGet.k (k:=Sum.inl z.2.1) (hT.get 4 U),_,U,if2 (fun hb=>?_) (fun hb=>?_)⟩
   ·have kb:k=.bell:=by
     rw[R.no _ _ hk] at hb
     by_cases c:k=.bell
     ·exact c
     ·rw[if_neg c] at hb; cases hb
    have nv:aG y.notes (Sum.inl z.2.1)=some (.int (W.nf z.2.1)):=by rw[R.no _ _ hk,if_pos kb]
    refine⟨_,U,A.p,_,A.dx,_,_,U,hT.get 1 U,T.cl_Yard,T.n_Yard_rung,ic _ _ _,.inl ⟨U,_,SqL.of (hT.get 8 U)⟩,_,U,A.p,_,A.dx,_,_,U,hT.get 1 U,T.cl_Yard,T.n_Yard_notes,cV _ _ _,_,U,A.n,_,U,(by rw[<- nv]; exact DGet.k (k:=Sum.inl z.2.1) (hT.get 4 U)),A.g,_,_,U,U,hT.get 8 U,sizeOk (show y.rung.length<=1000000 by omega),?_⟩
    have h4:Has _ (yL t.c_Yard A { y with sides:=y.sides,rung:=y.rung++[.int (W.nf z.2.1)],trail:=y.trail++[.ref a] }++((a,W.tr s1)::L)):=hT.puti 8 U (.lst (y.rung++[.int (W.nf z.2.1)]))
    refine⟨_,U,_,U,A.p,_,A.dx,_,U,h4.get 1 U,T.cl_Yard,T.n_Jn_end,(show 9<1000 by decide),?_⟩
    rw[cc]
    have h5:=h4.puti 1 U (.ins t.c_Yard A.dx (fl A y.next (.ref z'.1)))
    have er:(bf W s1 z k z').rg.map V.int=y.rung++[.int (W.nf z.2.1)]:=by unfold bf; dsimp only; rw[if_pos kb,tU,R.rg]; rfl
    refine q _ a ?_
    rw[er,es]
    exact h5
   ·have kb:¬ k=.bell:=fun c=>by rw[R.no _ _ hk,if_pos c] at hb; cases hb
    refine⟨_,U,_,U,A.p,_,A.dx,_,U,hT.get 1 U,T.cl_Yard,T.n_Jn_end,(show 9<1000 by decide),?_⟩
    rw[cc]
    have h5:=hT.puti 1 U (.ins t.c_Yard A.dx (fl A y.next (.ref z'.1)))
    have er:(bf W s1 z k z').rg.map V.int=y.rung:=by unfold bf; dsimp only; rw[if_neg kb,R.rg]
    refine q _ a ?_
    rw[er,es]
    exact h5
theorem scNs:FnScope ["yard","stand","piece","end","kind","side","out","behind","mate"] ["yard"] (aj se):={}
theorem pE (T:Txt K mg t):FnOk P w K mg base CX0 5 t.f_Jv t.d_Jv ["yard"] (sp_next t.c_Yard):=by
 refine T.F_Jv.ok scNs (fun vs H Q E h=>?_) (fun cdv A outer s H vs Q E hr h=>?_)
 ·obtain⟨_,_,_,_,_,rfl,_⟩:=h
  rfl
 ·obtain⟨A,y,L,W,s1,rfl,hH,R,PL,q⟩:=h
  have three:3<=sizeLine:=by decide
  refine⟨_,(ae (ax (i:=1) scNs.nd rfl (Or.inl rfl) (aV (pv 0) T.cl_Yard T.M_Jn (pH T) hr (tm T) .nil aF))
   (ae (aD (ak bP (pv 1) aS (ao _))
    (ai (au (az (aa aJ (aa aS (aa aS ag))))))
    ap)
   (ae (bK (pv 1) (bx rfl (ay (aq (i:=2) scNs.nd rfl (Or.inl rfl)) (ay (aq (i:=3) scNs.nd rfl (Or.inl rfl)) bc))))
   (ae (ax (i:=4) scNs.nd rfl (Or.inl rfl) (aC (pv 0) T.cl_Yard T.M_J61 (qZ T) hr (b_J61 T) .nil aF (aa (pv 2) ag)))
   (ae (ax (i:=5) scNs.nd rfl (Or.inl rfl) (cO (b6 (pcl (jh T) hr T.m_Jb1 T.F_Jb1.kp (nj T) (aa (pv 4) ag))) (aC (pv 0) T.cl_Yard T.M_J41 (ji T) hr (nk T) .nil aF (aa (aC (pv 0) T.cl_Yard T.M_Je1 (qU T) hr (b_Je1 T) .nil aF (aa (pv 2) ag)) ag)) aS))
   (ae (bK (pcl (qQ T) hr T.m_Jk1 T.F_Jk1.kp (b_Jk1 T) (aa (pv 4) (aa (pv 3) (aa (pv 5) ag)))) (bx rfl (ay (aq (i:=6) scNs.nd rfl (Or.inl rfl)) (ay (aq (i:=7) scNs.nd rfl (Or.inl rfl)) bc))))
   (ae (aD (ak bP (pv 6) aS (ao _))
    (ai (au (az (aa aJ (aa aS (aa aS ag))))))
    ap)
   (ae (ax (i:=8) scNs.nd rfl (Or.inl rfl) (aC (pv 0) T.cl_Yard T.M_J71 (qY T) hr (b_J71 T) .nil aF (@aa _ _ _ _ _ (az (aa (pv 2) (aa (pv 6) ag))) ag (by rfl))))
   (ae (aD (ak bP (pv 8) aS (ao _))
    (ai (au (az (aa aJ (aa aS (aa aS ag))))))
    ap)
   (ai (au (az (aa aS (aa (pv 8) (aa (pv 7) ag))))))))))))))),?_⟩
  refine⟨_,U,A.p,A.dx,_,U,hH.get 1 U,(gN _ _ _).2.2.2.2.2.2.1,A,y,L,U,hH,?_⟩
  refine⟨_,U,U,_,U,?_⟩
  rw[R.en]
  cases hz:s1.at_ with
  | none=>
   obtain⟨n1,n2⟩:=kR (w:=W) hz
   exact dP ⟨three,fun p hp=>q _ p _ (.held n1 _ n2) (hH.alloc hp _)⟩
  | some z=>
   obtain⟨j,hj⟩:=PL.e z hz
   obtain⟨k,hk,e0,e1⟩:=R.eo z hz
   have gz:=hH.get (j+9) (by simpa [yL] using hj)
   have vk:aG y.kinds (Sum.inl z.2.1)=some (.str k.str):=R.kd _ _ hk
   refine ce ?_
   refine⟨_,U,z.1,_,U,SqT.of gz,U,_,_,U,_,_,U,U,?_⟩
   refine⟨_,U,A.p,A.dx,_,U,hH.get 1 U,(gN _ _ _).2.2.2.2.1,_,U,A,y,L,z.2.1,_,U,hH,vk,?_⟩
   refine⟨_,U,k,U,_,U,?_⟩
   have thr:∀ o:Int,k.out z.2.2 (W.sv s1 z.2.1)=.int o->There y z.2.1 o:=fun o ho=>by
    have:=Kd.out_in e0 e1 (fun hp=>R.s1 hk hp) ho
    exact⟨k,vk,this.1,this.2⟩
   refine if2 (fun hp=>?_) (fun hp=>?_)
   ·obtain⟨r0,r1⟩:=R.rr _ _ hk hp
    have vr:aG y.rods (Sum.inl z.2.1)=some (.int (W.rf z.2.1)):=by rw[R.ro _ _ hk,if_pos hp]
    refine⟨_,U,A.p,A.dx,_,U,hH.get 1 U,(bQ _ _ _).2.2.2.2.2.1,_,U,A.p,A.dx,_,U,hH.get 1 U,(bQ _ _ _).2.2.2.2.1,_,U,A,y,L,z.2.1,_,_,U,hH,vk,vr,A,y,L,W.rf z.2.1,_,U,hH,r0,R.sideAt hk hp,?_⟩
    refine⟨_,U,_,U,_,U,k,z.2.2,W.sv s1 z.2.1,V.int (W.sv s1 z.2.1),U,e0,e1,(fun h=>⟨U,R.s1 hk hp⟩),fun p hp1=>?_⟩
    have h1:=hH.alloc hp1 (.tup [k.out z.2.2 (W.sv s1 z.2.1),if k.point then .int (k.side z.2.2 (W.sv s1 z.2.1)) else V.int (W.sv s1 z.2.1)])
    refine⟨p,_,U,SqT.of (h1.get 0 U),U,_,_,U,_,_,U,U,?_⟩
    replace h1:=h1.tail
    generalize upd H p _=H1 at h1 ⊢
    refine⟨_,U,U,_,U,?_⟩
    by_cases c:k.out z.2.2 (W.sv s1 z.2.1)=.non
    ·obtain⟨n1,n2⟩:=fu hz hk c
     exact ifT (decide_eq_true c) ⟨three,fun p hp=>q _ p _ (.held n1 _ n2) (h1.alloc hp _)⟩
    ·refine ifF (decide_eq_false c) ?_
     obtain⟨o,ho⟩:=Kd.out_int (k:=k) (fun e=>c (by unfold Kd.out; rw[if_pos e])) z.2.2 (W.sv s1 z.2.1)
     rw[ho]
     refine⟨_,U,A.p,A.dx,_,U,h1.get 1 U,(cq _ _ _).2.1,_,U,_,U,(show 2<=sizeLine by decide),fun b hb=>?_⟩
     have h2:=Has.comm (X:=[(b,.tup [.int z.2.1,.int o])]) (Y:=yL t.c_Yard A y) (R:=L) (h1.alloc hb (.tup [.int z.2.1,.int o]))
     generalize upd H1 b _=H2 at h2 ⊢
     refine⟨A,y,_,b,z.2.1,o,0,U,h2,U,thr o ho,?_⟩
     have h3:=(Has.comm (X:=yL t.c_Yard A y) (Y:=[(b,.tup [.int z.2.1,.int o])]) (R:=L) h2).tail
     refine⟨_,U,U,_,U,?_⟩
     rw[R.mt]
     cases hm:W.mf z.2.1 o with
     | none=>
      obtain⟨n1,n2⟩:=gq hz hk ho hm
      exact dP ⟨three,fun p hp=>q _ p _ (.held n1 _ n2) (h3.alloc hp _)⟩
     | some z'=>
      exact ce ⟨_,U,_,U,three,fun p hp=>q _ p _ (.goes z k o z' hz hk ho hm) (by rw[if_pos (by assumption:k.point=true)]; have:=h3.alloc hp (.tup [.non,.ref z'.1,.int (k.side z.2.2 (W.sv s1 z.2.1))]); simpa [*] using this)⟩
   ·refine⟨_,U,_,U,_,U,k,z.2.2,W.sv s1 z.2.1,V.non,U,e0,e1,(fun h=>absurd h (by rw[hp]; decide)),fun p hp1=>?_⟩
    have h1:=hH.alloc hp1 (.tup [k.out z.2.2 (W.sv s1 z.2.1),if k.point then .int (k.side z.2.2 (W.sv s1 z.2.1)) else V.non])
    refine⟨p,_,U,SqT.of (h1.get 0 U),U,_,_,U,_,_,U,U,?_⟩
    replace h1:=h1.tail
    generalize upd H p _=H1 at h1 ⊢
    refine⟨_,U,U,_,U,?_⟩
    by_cases c:k.out z.2.2 (W.sv s1 z.2.1)=.non
    ·obtain⟨n1,n2⟩:=fu hz hk c
     exact ifT (decide_eq_true c) ⟨three,fun p hp=>q _ p _ (.held n1 _ n2) (h1.alloc hp _)⟩
    ·refine ifF (decide_eq_false c) ?_
     obtain⟨o,ho⟩:=Kd.out_int (k:=k) (fun e=>c (by unfold Kd.out; rw[if_pos e])) z.2.2 (W.sv s1 z.2.1)
     rw[ho]
     refine⟨_,U,A.p,A.dx,_,U,h1.get 1 U,(cq _ _ _).2.1,_,U,_,U,(show 2<=sizeLine by decide),fun b hb=>?_⟩
     have h2:=Has.comm (X:=[(b,.tup [.int z.2.1,.int o])]) (Y:=yL t.c_Yard A y) (R:=L) (h1.alloc hb (.tup [.int z.2.1,.int o]))
     generalize upd H1 b _=H2 at h2 ⊢
     refine⟨A,y,_,b,z.2.1,o,0,U,h2,U,thr o ho,?_⟩
     have h3:=(Has.comm (X:=yL t.c_Yard A y) (Y:=[(b,.tup [.int z.2.1,.int o])]) (R:=L) h2).tail
     refine⟨_,U,U,_,U,?_⟩
     rw[R.mt]
     cases hm:W.mf z.2.1 o with
     | none=>
      obtain⟨n1,n2⟩:=gq hz hk ho hm
      exact dP ⟨three,fun p hp=>q _ p _ (.held n1 _ n2) (h3.alloc hp _)⟩
     | some z'=>
      exact ce ⟨_,U,_,U,three,fun p hp=>q _ p _ (.goes z k o z' hz hk ho hm) (by exact h3.alloc hp _)⟩
theorem scHe:FnScope ["yard"] ["yard"] (aj lB):={}
theorem jK (T:Txt K mg t):FnOk P w K mg base CX0 6 t.f_held t.d_held ["yard"] (sp_held t.c_Yard):=by
 refine T.F_held.ok scHe (fun vs H Q E h=>?_) (fun cdv A outer s H vs Q E hr h=>?_)
 ·obtain⟨_,_,_,_,_,rfl,_⟩:=h
  rfl
 ·obtain⟨A,y,L,W,s1,rfl,hH,R,PL,q⟩:=h
  refine⟨_,(ai (au (av aK (pcl (pE T) hr T.m_Jv T.F_Jv.kp (sZ T) (aa (pv 0) ag)) ah))),?_⟩
  refine⟨_,U,A,y,L,W,s1,U,hH,R,PL,fun H1 p xs nx h1=>?_⟩
  exact⟨p,_,_,_,U,U,SqT.of (h1.get 0 U),am (j:=0) nx.why.2,q _ h1.tail⟩
theorem scRn:FnScope ["yard","most","done","why","end","side"] ["yard","most"] (aj oQ):={}
theorem qJ (T:Txt K mg t):FnOk P w K mg base CX0 6 t.f_run t.d_run ["yard","most"] (sp_run t.c_Yard):=by
 refine T.F_run.ok scRn (fun vs H Q E h=>?_) (fun cdv A outer s H vs Q E hr h=>?_)
 ·obtain⟨_,_,_,_,_,_,_,rfl,_⟩:=h
  rfl
 ·obtain⟨A,y,L,W,s0,ts,m,rfl,hH,R,PL,tl,b1,b2,b3,b4,q⟩:=h
  refine⟨_,(ae (ax (i:=2) scRn.nd rfl (Or.inl rfl) ah)
   (ae (dG PassesOwn.never (ak b8 (pv 2) (pv 1) (ao _))
    (ae (bK (pcl (pE T) hr T.m_Jv T.F_Jv.kp (sZ T) (aa (pv 0) ag)) (bx rfl (ay (aq (i:=3) scRn.nd rfl (Or.inl rfl)) (ay (aq (i:=4) scRn.nd rfl (Or.inl rfl)) (ay (aq (i:=5) scRn.nd rfl (Or.inl rfl)) bc)))))
     (ae (aD (ak cf (pv 3) aS (ao _))
      (ai lO)
      ap)
     (ae (ar (aC (pv 0) T.cl_Yard T.M_Jt (ok_Jt T) hr (b_Jt T) .nil aF (aa (pv 4) (aa (pv 5) ag))))
     (ai (qy (i:=2) scRn.nd rfl (Or.inl rfl) ah rF))))))
   (ai (au (pv 2))))),?_⟩
  refine⟨runInv t.c_Yard A y L W s0 ts m,⟨_,0,y,[],s0,_,_,_,U,Nat.zero_le _,U,by rw[ue]; exact hH,R,PL,by rw[ue]; exact tl,U,U,U,Nat.le_refl _,U,U,U,U,U⟩,?_⟩
  rintro r σ H1 ⟨i,y1,ts1,s1,o1,o2,o3,rfl,im,rfl,h1,R1,P1,tl1,li,eg,eh,rg,f1,f2,f3,f4,f5⟩
  refine⟨_,U,_,U,_,_,U,U,_,U,if2 (fun hc=>?_) (fun hc=>?_)⟩
  ·have hlt:(i:Int)<m:=of_decide_eq_true hc
   refine⟨fun σ' H'=>∃ r',r'<m.toNat - i/\runInv t.c_Yard A y L W s0 ts m r' σ' H',fun _ _ h=>h,?_⟩
   refine⟨_,U,A,y1,_,W,s1,U,h1,R1,P1.app _,fun H2 p xs nx h2=>?_⟩
   cases nx with
   | held hn x e=>
    refine⟨p,_,U,SqT.of (h2.get 0 U),U,_,_,U,_,_,U,_,_,U,U,?_⟩
    refine⟨_,U,U,_,U,ifT rfl ?_⟩
    rw[n6 W hn] at eg
    rw[kB W hn,ue] at eh
    refine⟨_,U,?_⟩
    have:=q H2 y1 ts1 h2.tail (by rw[eg]; exact R1) tl1 eh.symm f1 f2 f3 f4 f5 (by rw[eg]; exact P1)
    rw[li] at this
    exact this
   | goes z k o z' hz hk ho hm=>
    have hn:=nx_of hz hk ho hm
    refine⟨p,_,U,SqT.of (h2.get 0 U),U,_,_,U,_,_,U,_,_,U,U,?_⟩
    refine⟨_,U,U,_,U,ifF rfl ?_⟩
    replace h2:=h2.tail
    have tll:y1.trail.length=ts.length+i:=by rw[tl1]; unfold trV; rw[tP,tW,li]
    refine⟨_,U,A.p,A.dx,_,U,h2.get 1 U,(gN _ _ _).2.2.1,_,U,_,U,A,y1,_,W,s1,z,k,z',U,h2,R1,hz,hk,(P1.app _).e z hz,by omega,by omega,fun H3 a h3=>?_⟩
    refine⟨_,U,_,_,U,U,?_⟩
    have em:m.toNat - i=(m.toNat - (i+1))+1:=by omega
    rw[em,nY W hn] at eg
    rw[em,kA W hn] at eh
    refine⟨m.toNat - (i+1),by omega,i+1,{ y1 with sides:=(bf W s1 z k z').ss.map V.int,eng:=.ref z'.1,rung:=(bf W s1 z k z').rg.map V.int,trail:=y1.trail++[.ref a] },ts1++[(a,s1)],bf W s1 z k z',_,_,_,U,by omega,U,?_,jc R1 hz hk hm rfl rfl rfl rfl rfl rfl rfl,P1.step hn,?_,by simp[li],eg,by rw[eh]; simp,?_,f1,f2,f3,f4,f5⟩
    ·rw[<- tR ts ts1,k7]
     exact h3.perm (List.Perm.append_left _ List.perm_middle.symm)
    ·show y1.trail++[.ref a]=_
     rw[tl1]; unfold trV; simp
    ·show((bf W s1 z k z').rg.map V.int).length<=_
     have:=iy (w:=W) (s:=s1) (z:=z) (k:=k) (z':=z')
     have e:=congrArg List.length R1.rg
     rw[tP] at e ⊢
     omega
  ·have hge:¬ (i:Int)<m:=of_decide_eq_false hc
   have e0:m.toNat - i=0:=by omega
   rw[e0] at eg eh
   refine⟨_,U,?_⟩
   have:=q H1 y1 ts1 h1 (by rw[eg]; exact R1) tl1 (by rw[eh]; exact(ue _).symm) f1 f2 f3 f4 f5 (by rw[eg]; exact P1)
   rw[li] at this
   exact this
end
noncomputable abbrev Pr:=Addr×Int×Int
noncomputable def prV (ps:List Pr):List V:=ps.map fun z=>.ref z.1
noncomputable def Rw.onw (k n:Int):Rw->List (Int×Int)
 | .ask _ a b=>[(k,a),(k,b)]
 | .bump _ r=>[(k,n+1),(k,r)]
 | .go r=>[(k,r)]
 | .fin=>[]
 | .bell _=>[(k,n+1)]
 | .set _ _=>[(k,n+1)]
noncomputable def PrK (ps:List Pr):Kn:=ps.map fun z=>(z.1,HO.tup [.int z.2.1,.int z.2.2])
inductive sp_Jm1 (vs:List V) (H:Hp) (Q:VK) (E_:XK):Prop
 | mk (r:Addr) (x:Rw) (k n:Int) (L:Kn) (_:vs=[.ref r,.int k,.int n]) (_:Has H L) (_:(r,HO.tup x.v) ∈ L) (_:∀ H' l ps,ps.map (·.2)=x.onw k n->Has H' ((l,.lst (prV ps))::(PrK ps++L))->Q (.ref l) H'):sp_Jm1 vs H Q E_
section
variable {P:Program}{w:World}{K:PySem.W.Frag}{mg:Str->Option Value}{base:Heap}{t:Adr}
theorem scOn:FnScope ["row","stretch","number","word","behind"] ["row","stretch","number"] (aj oU):={}
theorem qO (T:Txt K mg t):FnOk P w K mg base CX0 1 t.f_Jm1 t.d_Jm1 ["row","stretch","number"] sp_Jm1:=by
 refine T.F_Jm1.ok scOn (fun vs H Q E h=>?_) (fun cdv A outer s H vs Q E hr h=>?_)
 ·obtain⟨_,_,_,_,_,rfl,_⟩:=h
  rfl
 ·obtain⟨r,x,k,n,L,rfl,hH,mr,q⟩:=h
  have gr:=hH.at_ _ mr
  dsimp only at gr
  refine⟨_,(ae (ax (i:=3) scOn.nd rfl (Or.inl rfl) (av aK (pv 0) ah))
   (ae (ax (i:=4) scOn.nd rfl (Or.inl rfl) (az (aa (pv 1) (aa (aw aQ (pv 2) ah) ag))))
   (ae (aD (ak aW (pv 3) aJ (ao _))
    (ai (au (aX (@aa _ _ _ _ _ (az (aa (pv 1) (aa (av aK (pv 0) ah) ag))) (@aa _ _ _ _ _ (az (aa (pv 1) (aa (av aK (pv 0) ah) ag))) ag (by rfl)) (by rfl)))))
    ap)
   (ae (aD (ak aW (pv 3) aJ (ao _))
    (ai (au (aX (@aa _ _ _ _ _ (pv 4) (@aa _ _ _ _ _ (az (aa (pv 1) (aa (av aK (pv 0) ah) ag))) ag (by rfl)) (by rfl)))))
    ap)
   (ae (aD (ak aW (pv 3) aJ (ao _))
    (ai (au (aX (@aa _ _ _ _ _ (az (aa (pv 1) (aa (av aK (pv 0) ah) ag))) ag (by rfl)))))
    ap)
   (ae (aD (ak aW (pv 3) aJ (ao _))
    (ai (au (aX (@aa _ _ _ _ _ (az (aa (av aK (pv 0) ah) (aa ah ag))) (@aa _ _ _ _ _ (pv 4) ag (by rfl)) (by rfl)))))
    ap)
   (ae (aD (ak aW (pv 3) aJ (ao _))
    (ai (au (aX ag)))
    ap)
   (ai (au (aX (aa (pv 4) ag))))))))))),?_⟩
  rw[]
  refine⟨_,U,r,_,_,_,U,U,SqT.of gr,am (j:=0) rfl,?_⟩
  dsimp only[List.set]
  refine⟨_,U,_,U,_,_,U,U,(sz_ 2),fun b hb=>?_⟩
  dsimp only[List.set] at hb ⊢
  have h1:=hH.alloc hb (.tup [.int k,.int (n+1)])
  have gr1:=h1.at_ _ (tK _ mr)
  dsimp only at gr1
  cases x with
  | ask m c d=>
   refine⟨_,U,U,_,U,ifT (decide_eq_true rfl) ?_⟩
   refine⟨_,U,_,U,r,_,_,_,U,U,SqT.of gr1,am (j:=2) rfl,(sz_ 2),fun p1 hp1=>?_⟩
   have h2:=h1.alloc hp1 (.tup [.int k,.int c])
   have gr2:=h2.at_ _ (tK _ (tK _ mr))
   dsimp only at gr2
   refine⟨_,U,_,U,r,_,_,_,U,U,SqT.of gr2,am (j:=3) rfl,(sz_ 2),fun p2 hp2=>?_⟩
   have h3:=h2.alloc hp2 (.tup [.int k,.int d])
   refine⟨(sz_ 2),fun l hl=>?_⟩
   have h4:=h3.alloc hl (.lst [.ref p1,.ref p2])
   exact q _ l [(p1,k,c),(p2,k,d)] rfl ((h4.sub (.cons₂ _ (.cons₂ _ (.cons₂ _ (.cons _ (List.Sublist.refl _)))))).perm (.cons _ (.swap _ _ _)))
  | bump m c=>
   refine⟨_,U,U,_,U,ifF (sne "bump" "ask") ?_⟩
   refine⟨_,U,U,_,U,ifT (decide_eq_true rfl) ?_⟩
   refine⟨_,U,_,U,_,U,r,_,_,_,U,U,SqT.of gr1,am (j:=2) rfl,(sz_ 2),fun p1 hp1=>?_⟩
   have h2:=h1.alloc hp1 (.tup [.int k,.int c])
   refine⟨(sz_ 2),fun l hl=>?_⟩
   have h3:=h2.alloc hl (.lst [.ref b,.ref p1])
   exact q _ l [(b,k,n+1),(p1,k,c)] rfl (h3.perm (.cons _ (.swap _ _ _)))
  | go c=>
   refine⟨_,U,U,_,U,ifF (sne "go" "ask") ?_⟩
   refine⟨_,U,U,_,U,ifF (sne "go" "bump") ?_⟩
   refine⟨_,U,U,_,U,ifT (decide_eq_true rfl) ?_⟩
   refine⟨_,U,_,U,r,_,_,_,U,U,SqT.of gr1,am (j:=1) rfl,(sz_ 2),fun p1 hp1=>?_⟩
   have h2:=h1.alloc hp1 (.tup [.int k,.int c])
   refine⟨(sz_ 1),fun l hl=>?_⟩
   have h3:=h2.alloc hl (.lst [.ref p1])
   exact q _ l [(p1,k,c)] rfl (h3.sub (.cons₂ _ (.cons₂ _ (.cons _ (List.Sublist.refl _)))))
  | fin=>
   refine⟨_,U,U,_,U,ifF (sne "end" "ask") ?_⟩
   refine⟨_,U,U,_,U,ifF (sne "end" "bump") ?_⟩
   refine⟨_,U,U,_,U,ifF (sne "end" "go") ?_⟩
   refine⟨_,U,U,_,U,ifF (sne "end" "call") ?_⟩
   refine⟨_,U,U,_,U,ifT (decide_eq_true rfl) ?_⟩
   refine⟨(sz_ 0),fun l hl=>?_⟩
   have h3:=h1.alloc hl (.lst [])
   exact q _ l [] rfl (h3.sub (.cons₂ _ (.cons _ (List.Sublist.refl _))))
  | bell c=>
   refine⟨_,U,U,_,U,ifF (sne "bell" "ask") ?_⟩
   refine⟨_,U,U,_,U,ifF (sne "bell" "bump") ?_⟩
   refine⟨_,U,U,_,U,ifF (sne "bell" "go") ?_⟩
   refine⟨_,U,U,_,U,ifF (sne "bell" "call") ?_⟩
   refine⟨_,U,U,_,U,ifF (sne "bell" "end") ?_⟩
   refine⟨_,U,(sz_ 1),fun l hl=>?_⟩
   have h3:=h1.alloc hl (.lst [.ref b])
   exact q _ l [(b,k,n+1)] rfl h3
  | set c d=>
   refine⟨_,U,U,_,U,ifF (sne "set" "ask") ?_⟩
   refine⟨_,U,U,_,U,ifF (sne "set" "bump") ?_⟩
   refine⟨_,U,U,_,U,ifF (sne "set" "go") ?_⟩
   refine⟨_,U,U,_,U,ifF (sne "set" "call") ?_⟩
   refine⟨_,U,U,_,U,ifF (sne "set" "end") ?_⟩
   refine⟨_,U,(sz_ 1),fun l hl=>?_⟩
   have h3:=h1.alloc hl (.lst [.ref b])
   exact q _ l [(b,k,n+1)] rfl h3
end
noncomputable def Wd.lay (w:Wd) (n:Int) (k:Kd) (note r:Int):Wd:=⟨fun i=>if i=n then some k else w.kf i,fun i=>if i=n then note else w.nf i,fun i=>if i=n then r else w.rf i,w.mf⟩
noncomputable def Wd.link (w:Wd) (x z:En):Wd:={ w with mf:=fun n e=>if (n,e)=z.2 then some x else if (n,e)=x.2 then some z else w.mf n e }
noncomputable def Fre (y:YR):Prop:=∀ n:Int,y.next<=n->aG y.kinds (Sum.inl n)=none/\aG y.notes (Sum.inl n)=none/\aG y.rods (Sum.inl n)=none
theorem Fre.nil:Fre y0:=fun _ _=>⟨U,U,U⟩
theorem cu {i n:Int} (h:¬ i=n):¬ (Sum.inl i:Key)=Sum.inl n:=fun e=>h (Sum.inl.inj e)
theorem Wd.ok_lay {w:Wd}{n:Int}{k:Kd}{note r:Int}{z:En} (hf:w.kf n=none) (h:w.ok z):(w.lay n k note r).ok z:=by
 obtain⟨k',hk,e⟩:=h
 refine⟨k',?_,e⟩
 show(if z.2.1=n then some k else w.kf z.2.1)=some k'
 rw[if_neg (fun c=>by rw[c,hf] at hk; cases hk)]
 exact hk
theorem Rep.lay {w:Wd}{y:YR} (R:Rep w s y) (F:Fre y) (hf:w.kf y.next=none) (k:Kd) (note r:Int) (rod:V) (ss':List Int)
  (hp:k.point=true->(rod=.non/\r=s.ss.length/\ss'=s.ss++[1])∨(rod=.int r/\0<=r/\r<s.ss.length/\ss'=s.ss)) (hn:k.point=false->ss'=s.ss) :
  Rep (w.lay y.next k note r) ⟨ss',s.at_,s.rg⟩ (bE y k note rod):=by
 obtain⟨f1,f2,f3⟩:=F y.next (Int.le_refl _)
 have up:s.ss.length<=ss'.length:=by
  cases e:k.point with
  | false=>rw[hn e]; exact Nat.le_refl _
  | true=>rcases hp e with ⟨_,_,h⟩ | ⟨_,_,_,h⟩ <;> rw[h] <;> simp
 have kfn:∀ {n:Int}{k':Kd},(w.lay y.next k note r).kf n=some k'->(n=y.next/\k'=k)∨(¬ n=y.next/\w.kf n=some k'):=fun {n k'} h=>by
  by_cases c:n=y.next
  ·refine .inl ⟨c,?_⟩
   have h:(if n=y.next then some k else w.kf n)=some k':=h
   rw[if_pos c] at h
   exact(Option.some.inj h).symm
  ·refine .inr ⟨c,?_⟩
   have h:(if n=y.next then some k else w.kf n)=some k':=h
   rw[if_neg c] at h
   exact h
 refine⟨fun n k' h=>?_,fun n k' h=>?_,fun n k' h=>?_,fun n k' h hpt=>?_,?_,?_,fun n e=>R.mt n e,fun n e z h=>Wd.ok_lay hf (R.mo n e z h),R.en,fun z hz=>Wd.ok_lay hf (R.eo z hz),R.rg⟩
 ·show aG (aM y.kinds (Sum.inl y.next) (.str k.str)) _=_
  rcases kfn h with ⟨rfl,rfl⟩ | ⟨c,h'⟩
  ·rw[aL,if_pos rfl]
  ·rw[aL,if_neg (cu c)]; exact R.kd _ _ h'
 ·show aG (if k=.bell then aM y.notes (Sum.inl y.next) (.int note) else y.notes) _=if k'=.bell then some (.int (if n=y.next then note else w.nf n)) else none
  rcases kfn h with ⟨rfl,rfl⟩ | ⟨c,h'⟩
  ·rw[if_pos rfl]
   by_cases kb:k'=.bell
   ·rw[if_pos kb,if_pos kb,aL,if_pos rfl]
   ·rw[if_neg kb,if_neg kb]; exact f2
  ·rw[if_neg c,<- R.no _ _ h']
   split
   ·rw[aL,if_neg (cu c)]
   ·rfl
 ·show aG (if k.point=true then aM y.rods (Sum.inl y.next) (if rod=.non then .int y.sides.length else rod) else y.rods) _=if k'.point=true then some (.int (if n=y.next then r else w.rf n)) else none
  rcases kfn h with ⟨rfl,rfl⟩ | ⟨c,h'⟩
  ·rw[if_pos rfl]
   by_cases kp:k'.point=true
   ·rw[if_pos kp,if_pos kp,aL,if_pos rfl]
    rcases hp kp with ⟨e1,e2,_⟩ | ⟨e1,_,_,_⟩
    ·rw[if_pos e1,R.sd,tP,e2]
    ·rw[e1,if_neg (fun h=>nomatch h)]
   ·rw[if_neg kp,if_neg kp]; exact f3
  ·rw[if_neg c,<- R.ro _ _ h']
   split
   ·rw[aL,if_neg (cu c)]
   ·rfl
 ·show 0<=(if n=y.next then r else w.rf n)/\(if n=y.next then r else w.rf n)<(ss'.length:Int)
  rcases kfn h with ⟨rfl,rfl⟩ | ⟨c,h'⟩
  ·rw[if_pos rfl]
   rcases hp hpt with ⟨_,e2,e3⟩ | ⟨_,e2,e3,e4⟩
   ·rw[e3,tW,t7]; omega
   ·rw[e4]; exact⟨e2,e3⟩
  ·rw[if_neg c]
   have:=R.rr _ _ h' hpt
   omega
 ·show(if k.point=true/\rod=.non then y.sides++[.int 1] else y.sides)=ss'.map V.int
  cases kp:k.point with
  | true=>
   rcases hp kp with ⟨e1,_,e3⟩ | ⟨e1,_,_,e4⟩
   ·rw[if_pos ⟨U,e1⟩,R.sd,e3,tU]; rfl
   ·rw[if_neg (fun c=>by rw[e1] at c; exact nomatch c.2),R.sd,e4]
  | false=>rw[if_neg (fun c=>Bool.false_ne_true c.1),R.sd,hn kp]
 ·intro x hx
  cases kp:k.point with
  | true=>
   rcases hp kp with ⟨_,_,e3⟩ | ⟨_,_,_,e4⟩
   ·rw[show ss'=_ from e3,tV] at hx
    rcases hx with hx | hx
    ·exact R.s12 x hx
    ·exact .inl (by simpa using hx)
   ·rw[show ss'=_ from e4] at hx; exact R.s12 x hx
  | false=>rw[show ss'=_ from hn kp] at hx; exact R.s12 x hx
theorem Rep.link {w:Wd}{y:YR} (R:Rep w s y) {x z:En} (hx:w.ok x) (hz:w.ok z):Rep (w.link x z) s { y with mates:=aM (aM y.mates (kE x.2.1 x.2.2) (.ref z.1)) (kE z.2.1 z.2.2) (.ref x.1),trail:=[] }:=by
 have ke:∀ (n e:Int) (u:En),kE n e=kE u.2.1 u.2.2↔(n,e)=u.2:=fun n e u=>by
  constructor
  ·intro h
   injection h with h1 h2
   injection h2 with h2 _
   injection h1 with h1
   injection h2 with h2
   rw[h1,h2]
  ·intro h
   rw[<- h]
 refine⟨R.kd,R.no,R.ro,R.rr,R.sd,R.s12,fun n e=>?_,fun n e u h=>?_,R.en,R.eo,R.rg⟩
 ·show aG (aM (aM y.mates (kE x.2.1 x.2.2) (.ref z.1)) (kE z.2.1 z.2.2) (.ref x.1)) (kE n e)=Option.map _ (if (n,e)=z.2 then some x else if (n,e)=x.2 then some z else w.mf n e)
  rw[aL,aL]
  by_cases c1:(n,e)=z.2
  ·rw[if_pos ((ke _ _ _).mpr c1),if_pos c1]; rfl
  ·rw[if_neg (fun h=>c1 ((ke _ _ _).mp h)),if_neg c1]
   by_cases c2:(n,e)=x.2
   ·rw[if_pos ((ke _ _ _).mpr c2),if_pos c2]; rfl
   ·rw[if_neg (fun h=>c2 ((ke _ _ _).mp h)),if_neg c2]; exact R.mt n e
 ·have h:(if (n,e)=z.2 then some x else if (n,e)=x.2 then some z else w.mf n e)=some u:=h
  show w.ok u
  split at h
  ·cases h; exact hx
  ·split at h
   ·cases h; exact hz
   ·exact R.mo _ _ _ h
theorem Rep.rod {w:Wd}{y:YR} (R:Rep w s y) (x:Int) (hx:x=1∨x=2):Rep w { s with ss:=s.ss++[x] } { y with sides:=y.sides++[.int x],trail:=[] }:=by
 refine⟨R.kd,R.no,R.ro,fun n k h1 h2=>by have:=R.rr n k h1 h2; show _/\_<((s.ss++[x]).length:Int); rw[tW,t7]; omega,?_,fun u hu=>?_,R.mt,R.mo,R.en,R.eo,R.rg⟩
 ·show y.sides++[.int x]=(s.ss++[x]).map V.int
  rw[R.sd,tU]; rfl
 ·rcases tV.mp hu with hu | hu
  ·exact R.s12 u hu
  ·rw[tT.mp hu]; exact hx
noncomputable def w0:Wd:=⟨fun _=>none,fun _=>0,fun _=>0,fun _ _=>none⟩
theorem Rep.nil:Rep w0 ⟨[],none,[]⟩ y0:=⟨(fun _ _ h=>nomatch h),(fun _ _ h=>nomatch h),(fun _ _ h=>nomatch h),(fun _ _ h=>nomatch h),U,(fun _ h=>nomatch h),(fun _ _=>rfl),(fun _ _ _ h=>nomatch h),U,(fun _ h=>nomatch h),U⟩
noncomputable abbrev pK2 (z:Pr):Addr×HO:=(z.1,HO.tup [.int z.2.1,.int z.2.2])
noncomputable def Fr (y:YR) (x:Int×Int):Prop:=There y x.1 x.2/\aG y.mates (kE x.1 x.2)=none
structure Ld (y:YR) (N M R:Nat):Prop where
 nx:y.next=N
 kl:y.kinds.length=N
 fr:Fre y
 mt:∀ n e,(N:Int)<=n->aG y.mates (kE n e)=none
 nl:y.notes.length<=N
 rl:y.rods.length<=N
 sl:y.sides.length<=R+N
 ml:y.mates.length<=M
 g:y.rung=[]
 t:y.trail=[]
theorem Ld.small {y:YR}{N M R:Nat} (h:Ld y N M R) (hN:N<=9000) (hM:M<=30000) (hR:R<=1000):jZ y:=by
 obtain⟨h1,h2,h3,h4,h5,h6,h7,h8,h9,h10⟩:=h
 exact⟨by omega,by omega,by omega,by omega,by omega,by rw[h9]; exact Nat.zero_le _,by rw[h10]; exact Nat.zero_le _⟩
theorem Ld.nil:Ld y0 0 0 0:=⟨U,U,fun _ _=>⟨U,U,U⟩,fun _ _ _=>rfl,Nat.le_refl _,Nat.le_refl _,Nat.le_refl _,Nat.le_refl _,U,U⟩
theorem Ld.lt {y:YR}{N M R:Nat} (h:Ld y N M R) {n e:Int} (t:There y n e):n<N:=by
 obtain⟨k,hk,_⟩:=t
 by_cases c:n<N
 ·exact c
 ·rw[(h.fr n (by rw[h.nx]; omega)).1] at hk
  cases hk
theorem cH {n e n' e':Int} (h:kE n e=kE n' e'):(n,e)=(n',e'):=by
 injection h with h1 h2
 injection h2 with h2 _
 injection h1 with h1
 injection h2 with h2
 rw[h1,h2]
theorem jI {κ:Type} [DecidableEq κ] {kvs:List (κ×V)}{k:κ}{v:V} (h:aG kvs k=none):(aM kvs k v).length=kvs.length+1:=by
 rw[L2.putK_new v h,tW,t7]
theorem Ld.lay {y:YR}{N M R:Nat} (h:Ld y N M R) (k:Kd) (note:Int) (rod:V):Ld (bE y k note rod) (N+1) M R:=by
 have hk:=h.kl; have h1:=h.nl; have h2:=h.rl; have h3:=h.sl
 refine⟨?_,?_,fun n hn=>?_,fun n e hn=>h.mt n e (by omega),?_,?_,?_,h.ml,h.g,U⟩
 ·show y.next+1=_; rw[h.nx]; rfl
 ·show(aM y.kinds (Sum.inl y.next) (.str k.str)).length=_
  rw[jI (h.fr _ (Int.le_refl _)).1,hk]
 ·have hn:y.next+1<=n:=hn
  obtain⟨a,b,c⟩:=h.fr n (by omega)
  have ne:¬ n=y.next:=by omega
  refine⟨?_,?_,?_⟩
  ·show aG (aM y.kinds (Sum.inl y.next) (.str k.str)) _=none
   rw[aL,if_neg (cu ne)]; exact a
  ·show aG (if k=.bell then aM y.notes (Sum.inl y.next) (.int note) else y.notes) _=none
   split
   ·rw[aL,if_neg (cu ne)]; exact b
   ·exact b
  ·show aG (if k.point=true then aM y.rods (Sum.inl y.next) (if rod=.non then .int y.sides.length else rod) else y.rods) _=none
   split
   ·rw[aL,if_neg (cu ne)]; exact c
   ·exact c
 ·show(if k=.bell then aM y.notes (Sum.inl y.next) (.int note) else y.notes).length<=_
  have:=bq y.notes (Sum.inl y.next) (.int note)
  split <;> omega
 ·show(if k.point=true then aM y.rods (Sum.inl y.next) (if rod=.non then .int y.sides.length else rod) else y.rods).length<=_
  have:=bq y.rods (Sum.inl y.next) (if rod=.non then .int y.sides.length else rod)
  split <;> omega
 ·show(if k.point=true/\rod=.non then y.sides++[.int 1] else y.sides).length<=_
  split
  ·rw[tW,t7]; omega
  ·omega
theorem Fr.lay {y:YR}{N M R:Nat} (h:Ld y N M R) (k:Kd) (note:Int) (rod:V) {x:Int×Int} (f:Fr y x):Fr (bE y k note rod) x:=by
 have lt:=h.lt f.1
 obtain⟨⟨k',hk,e⟩,m⟩:=f
 refine⟨⟨k',?_,e⟩,m⟩
 show aG (aM y.kinds (Sum.inl y.next) (.str k.str)) _=_
 rw[aL,if_neg (cu (by rw[h.nx]; omega))]
 exact hk
theorem Fr.new {y:YR}{N M R:Nat} (h:Ld y N M R) (k:Kd) (note:Int) (rod:V) {e:Int} (e0:0<=e) (e1:e<k.many):Fr (bE y k note rod) ((N:Int),e):=by
 refine⟨⟨k,?_,e0,e1⟩,h.mt _ _ (Int.le_refl _)⟩
 show aG (aM y.kinds (Sum.inl y.next) (.str k.str)) _=_
 rw[aL,if_pos (by rw[h.nx])]
noncomputable def cz (y:YR) (a b:Pr):YR:={ y with mates:=aM (aM y.mates (kE a.2.1 a.2.2) (.ref b.1)) (kE b.2.1 b.2.2) (.ref a.1),trail:=[] }
theorem Ld.link {y:YR}{N M R:Nat} (h:Ld y N M R) {a b:Pr} (fa:Fr y a.2) (fb:Fr y b.2):Ld (cz y a b) N (M+2) R:=by
 have la:=h.lt fa.1; have lb:=h.lt fb.1
 refine⟨h.nx,h.kl,h.fr,fun n e hn=>?_,h.nl,h.rl,h.sl,?_,h.g,U⟩
 ·show aG (aM (aM y.mates (kE a.2.1 a.2.2) (.ref b.1)) (kE b.2.1 b.2.2) (.ref a.1)) _=none
  rw[aL,if_neg (fun c=>by cases cH c; omega),aL,if_neg (fun c=>by cases cH c; omega)]
  exact h.mt n e hn
 ·show(aM (aM y.mates (kE a.2.1 a.2.2) (.ref b.1)) (kE b.2.1 b.2.2) (.ref a.1)).length<=_
  have a1:=bq y.mates (kE a.2.1 a.2.2) (.ref b.1)
  have a2:=bq (aM y.mates (kE a.2.1 a.2.2) (.ref b.1)) (kE b.2.1 b.2.2) (.ref a.1)
  have:=h.ml
  omega
theorem Fr.link {y:YR}{a b:Pr}{x:Int×Int} (f:Fr y x) (ha:x≠a.2) (hb:x≠b.2):Fr (cz y a b) x:=by
 refine⟨f.1,?_⟩
 show aG (aM (aM y.mates (kE a.2.1 a.2.2) (.ref b.1)) (kE b.2.1 b.2.2) (.ref a.1)) _=none
 rw[aL,if_neg (fun c=>hb (cH c)),aL,if_neg (fun c=>ha (cH c))]
 exact f.2
theorem Fr.ne {y:YR}{N M R:Nat} (h:Ld y N M R) {x:Int×Int} (f:Fr y x) {e:Int}:x≠((N:Int),e):=fun c=>by
 have:=h.lt f.1
 rw[c] at this
 exact absurd this (Int.lt_irrefl _)
structure Up (y y':YR):Prop where
 k:∀ n v,aG y.kinds n=some v->aG y'.kinds n=some v
 n:∀ n v,aG y.notes n=some v->aG y'.notes n=some v
 r:∀ n v,aG y.rods n=some v->aG y'.rods n=some v
 m:∀ n v,aG y.mates n=some v->aG y'.mates n=some v
 s:y.sides <+: y'.sides
 e:y'.eng=y.eng
 g:y'.rung=y.rung
 x:y.next<=y'.next
theorem Up.refl (y:YR):Up y y:=⟨fun _ _ h=>h,fun _ _ h=>h,fun _ _ h=>h,fun _ _ h=>h,List.prefix_refl _,U,U,Int.le_refl _⟩
theorem Up.trans {a b c:YR} (h:Up a b) (g:Up b c):Up a c:=⟨fun n v x=>g.k n v (h.k n v x),fun n v x=>g.n n v (h.n n v x),fun n v x=>g.r n v (h.r n v x),fun n v x=>g.m n v (h.m n v x),h.s.trans g.s,g.e.trans h.e,g.g.trans h.g,Int.le_trans h.x g.x⟩
theorem Up.sl {y y':YR} (h:Up y y'):y.sides.length<=y'.sides.length:=h.s.length_le
theorem Ld.up {y:YR}{N M R:Nat} (h:Ld y N M R) (k:Kd) (note:Int) (rod:V):Up y (bE y k note rod):=by
 obtain⟨f1,f2,f3⟩:=h.fr y.next (Int.le_refl _)
 have pk:∀ {kvs:List (Key×V)}{x:V}{n:Key}{v:V},aG kvs (Sum.inl y.next)=none->aG kvs n=some v->aG (aM kvs (Sum.inl y.next) x) n=some v:=fun {kvs x n v} a b=>by
  rw[aL,if_neg (fun c=>by rw[c,a] at b; cases b)]; exact b
 refine⟨fun n v hv=>pk f1 hv,fun n v hv=>?_,fun n v hv=>?_,fun _ _ h=>h,?_,U,U,(show y.next<=y.next+1 by omega)⟩
 ·show aG (if k=.bell then aM y.notes (Sum.inl y.next) (.int note) else y.notes) _=_
  split
  ·exact pk f2 hv
  ·exact hv
 ·show aG (if k.point=true then aM y.rods (Sum.inl y.next) (if rod=.non then .int y.sides.length else rod) else y.rods) _=_
  split
  ·exact pk f3 hv
  ·exact hv
 ·show y.sides <+: (if k.point=true/\rod=.non then y.sides++[.int 1] else y.sides)
  split
  ·exact List.prefix_append _ _
  ·exact List.prefix_refl _
theorem Up.link {y:YR}{a b:Pr} (fa:Fr y a.2) (fb:Fr y b.2):Up y (cz y a b):=by
 refine⟨fun _ _ h=>h,fun _ _ h=>h,fun _ _ h=>h,fun n v hv=>?_,List.prefix_refl _,U,U,Int.le_refl _⟩
 show aG (aM (aM y.mates (kE a.2.1 a.2.2) (.ref b.1)) (kE b.2.1 b.2.2) (.ref a.1)) n=_
 rw[aL,if_neg (fun c=>by rw[c,fb.2] at hv; cases hv),aL,if_neg (fun c=>by rw[c,fa.2] at hv; cases hv)]
 exact hv
theorem Kd.str_inj {a b:Kd} (h:a.str=b.str):a=b:=by
 cases a <;> cases b <;> first | rfl | exact absurd h (by decide)
noncomputable def Kp (y:YR) (n:Int) (k:Kd):Prop:=aG y.kinds (Sum.inl n)=some (.str k.str)
noncomputable def Mt (y:YR) (L:Kn) (x z:Int×Int):Prop:=∃ b,aG y.mates (kE x.1 x.2)=some (.ref b)/\pK2 (b,z) ∈ L
structure WY (w:Wd) (y:YR) (L:Kn):Prop where
 k:∀ n k,Kp y n k->w.kf n=some k
 m:∀ x z,Mt y L x z->∃ a,w.mf x.1 x.2=some (a,z)
 r:∀ (n r:Int),aG y.rods (Sum.inl n)=some (.int r)->w.rf n=r
 n:∀ (n v:Int),aG y.notes (Sum.inl n)=some (.int v)->w.nf n=v
structure GW (W:Wd) (s:Sd) (y:YR) (L:Kn):Prop where
 R:Rep W s y
 P:Pool W s L
 kf:∀ n,aG y.kinds (Sum.inl n)=(W.kf n).map fun k=>V.str k.str
 fk:∀ n,W.kf n=none->aG y.notes (Sum.inl n)=none/\aG y.rods (Sum.inl n)=none
theorem Pool.sub {w:Wd}{L L':Kn} (p:Pool w s L) (h:∀ x ∈ L,x ∈ L'):Pool w s L' :=
 ⟨fun n e z hz=>(let ⟨_,hj⟩:=p.m n e z hz; List.mem_iff_getElem?.mp (h _ (tO hj))),fun z hz=>(let ⟨_,hj⟩:=p.e z hz; List.mem_iff_getElem?.mp (h _ (tO hj)))⟩
section
variable {W:Wd}{s:Sd}{y:YR}{L L':Kn}
theorem GW.mono (G:GW W s y L) (h:∀ x ∈ L,x ∈ L'):GW W s y L':=⟨G.R,G.P.sub h,G.kf,G.fk⟩
theorem GW.mv (G:GW W s y L) (h:∀ z:Pr,pK2 z ∈ L->pK2 z ∈ L'):GW W s y L' :=
 ⟨G.R,⟨fun n e z hz=>(let ⟨_,hj⟩:=G.P.m n e z hz; List.mem_iff_getElem?.mp (h z (tO hj))),fun z hz=>(let ⟨_,hj⟩:=G.P.e z hz; List.mem_iff_getElem?.mp (h z (tO hj)))⟩,G.kf,G.fk⟩
theorem GW.kp (G:GW W s y L) {n:Int}{k:Kd} (h:Kp y n k):W.kf n=some k:=by
 have:=G.kf n
 rw[show aG y.kinds (Sum.inl n)=_ from h] at this
 obtain⟨k',h1,h2⟩:=Option.map_eq_some_iff.mp this.symm
 injection h2 with h2
 rw[h1,Kd.str_inj h2]
theorem GW.ok (G:GW W s y L) {z:En} (h:There y z.2.1 z.2.2):W.ok z:=by
 obtain⟨k,hk,e⟩:=h
 exact⟨k,G.kp hk,e⟩
theorem GW.kfn (G:GW W s y L) {n:Int} (h:aG y.kinds (Sum.inl n)=none):W.kf n=none:=by
 have:=G.kf n
 rw[h] at this
 cases hk:W.kf n with
 | none=>rfl
 | some k=>rw[hk] at this; cases this
theorem GW.lay (G:GW W s y L) (F:Fre y) (k:Kd) (note r:Int) (rod:V) (ss':List Int)
  (hp:k.point=true->(rod=.non/\r=s.ss.length/\ss'=s.ss++[1])∨(rod=.int r/\0<=r/\r<s.ss.length/\ss'=s.ss)) (hn:k.point=false->ss'=s.ss) :
  GW (W.lay y.next k note r) ⟨ss',s.at_,s.rg⟩ (bE y k note rod) L:=by
 have hf:=G.kfn (F y.next (Int.le_refl _)).1
 refine⟨G.R.lay F hf k note r rod ss' hp hn,⟨G.P.m,G.P.e⟩,fun n=>?_,fun n hk=>?_⟩
 ·show aG (aM y.kinds (Sum.inl y.next) (.str k.str)) _=Option.map _ (if n=y.next then some k else W.kf n)
  by_cases c:n=y.next
  ·rw[if_pos c,c,aL,if_pos rfl]; rfl
  ·rw[if_neg c,aL,if_neg (cu c)]; exact G.kf n
 ·have hk:(if n=y.next then some k else W.kf n)=none:=hk
  by_cases c:n=y.next
  ·rw[if_pos c] at hk; cases hk
  rw[if_neg c] at hk
  obtain⟨a,b⟩:=G.fk n hk
  refine⟨?_,?_⟩
  ·show aG (if k=.bell then aM y.notes (Sum.inl y.next) (.int note) else y.notes) _=none
   split
   ·rw[aL,if_neg (cu c)]; exact a
   ·exact a
  ·show aG (if k.point=true then aM y.rods (Sum.inl y.next) (if rod=.non then .int y.sides.length else rod) else y.rods) _=none
   split
   ·rw[aL,if_neg (cu c)]; exact b
   ·exact b
theorem GW.lay' (G:GW W s y L) (F:Fre y) (k:Kd) (note:Int) (rod:V) (hr:k.point=true->rod≠.non->∃ r:Int,rod=.int r/\0<=r/\r<y.sides.length) :
  ∃ r ss',GW (W.lay y.next k note r) ⟨ss',s.at_,s.rg⟩ (bE y k note rod) L:=by
 have sl:(y.sides.length:Int)=s.ss.length:=by rw[G.R.sd,tP]
 cases kp:k.point with
 | false=>exact⟨0,s.ss,G.lay F k note 0 rod s.ss (fun h=>by rw[kp] at h; cases h) (fun _=>rfl)⟩
 | true=>
  by_cases c:rod=.non
  ·exact⟨s.ss.length,s.ss++[1],G.lay F k note _ rod _ (fun _=>.inl ⟨c,U,U⟩) (fun h=>by rw[kp] at h; cases h)⟩
  ·obtain⟨r,h1,h2,h3⟩:=hr kp c
   exact⟨r,s.ss,G.lay F k note r rod _ (fun _=>.inr ⟨h1,h2,by omega,U⟩) (fun _=>rfl)⟩
theorem GW.link (G:GW W s y L) {x z:En} (mx:pK2 x ∈ L) (mz:pK2 z ∈ L) (fx:Fr y x.2) (fz:Fr y z.2) (ne:x.2≠z.2):GW (W.link x z) s (cz y x z) L:=by
 refine⟨G.R.link (G.ok fx.1) (G.ok fz.1),⟨fun n e u hu=>?_,G.P.e⟩,G.kf,G.fk⟩
 have hu:(if (n,e)=z.2 then some x else if (n,e)=x.2 then some z else W.mf n e)=some u:=hu
 split at hu
 ·cases hu; exact List.mem_iff_getElem?.mp mx
 ·split at hu
  ·cases hu; exact List.mem_iff_getElem?.mp mz
  ·exact G.P.m n e u hu
theorem GW.rod (G:GW W s y L) (x:Int) (hx:x=1∨x=2):GW W { s with ss:=s.ss++[x] } { y with sides:=y.sides++[.int x],trail:=[] } L :=
 ⟨G.R.rod x hx,⟨G.P.m,G.P.e⟩,G.kf,G.fk⟩
theorem GW.put (G:GW W s y L) {z:En} (mz:pK2 z ∈ L) (th:There y z.2.1 z.2.2):GW W { s with at_:=some z } { y with eng:=.ref z.1,trail:=[] } L :=
 ⟨⟨G.R.kd,G.R.no,G.R.ro,G.R.rr,G.R.sd,G.R.s12,G.R.mt,G.R.mo,U,fun u hu=>by cases hu; exact G.ok th,G.R.rg⟩,⟨G.P.m,fun u hu=>by cases hu; exact List.mem_iff_getElem?.mp mz⟩,G.kf,G.fk⟩
theorem kZ {a b c d:Int} (h:HO.tup [.int a,.int b]=HO.tup [.int c,.int d]):(a,b)=(c,d):=by
 injection h with h
 injection h with h1 h2
 injection h2 with h2 _
 injection h1 with h1
 injection h2 with h2
 rw[h1,h2]
theorem GW.wy (G:GW W s y L) {H:Hp}{X:Kn} (h:Has H (X++L)):WY W y L:=by
 refine⟨fun n k hk=>G.kp hk,fun x z ⟨b,h1,h2⟩=>?_,fun n r hr=>?_,fun n v hv=>?_⟩
 ·have:=G.R.mt x.1 x.2
  rw[h1] at this
  obtain⟨u,hu,e⟩:=Option.map_eq_some_iff.mp this.symm
  injection e with e
  obtain⟨j,hj⟩:=G.P.m _ _ _ hu
  have a1:=h.at_ _ (tL X (tO hj))
  have a2:=h.at_ _ (tL X h2)
  dsimp only at a1 a2
  rw[e,a2] at a1
  have e2:=kZ (Option.some.inj a1)
  refine⟨u.1,?_⟩
  rw[hu]
  exact congrArg some (Prod.ext rfl e2.symm)
 ·cases hk:W.kf n with
  | none=>rw[(G.fk n hk).2] at hr; cases hr
  | some k=>
   have:=G.R.ro n k hk
   rw[hr] at this
   split at this
   ·injection this with this; injection this with this; exact this.symm
   ·cases this
 ·cases hk:W.kf n with
  | none=>rw[(G.fk n hk).1] at hv; cases hv
  | some k=>
   have:=G.R.no n k hk
   rw[hv] at this
   split at this
   ·injection this with this; injection this with this; exact this.symm
   ·cases this
end
noncomputable def EgOk (s:Sd) (y:YR) (L:Kn):Prop:=∀ a z,y.eng=.ref a->pK2 (a,z) ∈ L->s.at_=some (a,z)
theorem GW.eg {W:Wd}{y:YR}{L:Kn} (G:GW W s y L) {H:Hp}{X:Kn} (h:Has H (X++L)):EgOk s y L:=fun a z e m=>by
 have en:=G.R.en
 rw[e] at en
 cases hs:s.at_ with
 | none=>rw[hs] at en; cases en
 | some u=>
  rw[hs] at en
  injection en with en
  obtain⟨j,hj⟩:=G.P.e _ hs
  have a1:=h.at_ _ (tL X (tO hj))
  have a2:=h.at_ _ (tL X m)
  dsimp only at a1 a2
  rw[<- en,a2] at a1
  exact congrArg some (Prod.ext en.symm (kZ (Option.some.inj a1)).symm)
noncomputable def YIn (C:Addr) (H:Hp) (p:Addr) (y:YR) (L:Kn):Prop:=∃ A:YA,A.p=p/\Has H (yL C A y++L)/\∃ W s,GW W s y L
section
variable {C:Addr}{H:Hp}{p:Addr}{y:YR}{L:Kn}{N M R:Nat}{Q:V->Hp->Prop}
theorem YIn.at_ (Y:YIn C H p y L) {z:Addr×HO} (m:z ∈ L):H z.1=some z.2:=by
 obtain⟨A,_,h,_⟩:=Y
 exact h.at_ _ (tL _ m)
theorem YIn.obj (Y:YIn C H p y L):∃ A:YA,H p=some (.ins C A.dx (fl A y.next y.eng)):=by
 obtain⟨A,rfl,h,_⟩:=Y
 exact⟨A,h.get 1 U⟩
theorem YIn.alloc (Y:YIn C H p y L) {a:Addr} (n:H a=none) (o:HO):YIn C (upd H a o) p y ((a,o)::L):=by
 obtain⟨A,e,h,W,s,G⟩:=Y
 exact⟨A,e,(h.alloc n o).perm (List.perm_middle (l₁:=yL C A y) (l₂:=L)).symm,W,s,G.mono fun x hx=>tK _ hx⟩
theorem YIn.perm {L':Kn} (Y:YIn C H p y L) (e:L.Perm L'):YIn C H p y L':=by
 obtain⟨A,e1,h,W,s,G⟩:=Y
 exact⟨A,e1,h.perm (List.Perm.append_left _ e),W,s,G.mono fun x hx=>e.mem_iff.mp hx⟩
theorem YIn.re (Y:YIn C H p y L):∃ A:YA,A.p=p/\Has H (yL C A y++L)/\∀ {H':Hp}{L':Kn}{A':YA},A'.p=p->(∀ z:Pr,pK2 z ∈ L->pK2 z ∈ L')->Has H' (yL C A' y++L')->YIn C H' p y L':=by
 obtain⟨A,e,h,W,s,G⟩:=Y
 exact⟨A,e,h,fun e' m h'=>⟨_,e',h',W,s,G.mv m⟩⟩
theorem oG {C:Addr}{A:YA}{y:YR} (b:Pr):pK2 b ∉ yL C A y:=fun h=>by
 unfold yL at h
 simp[pK2] at h
theorem YIn.rac (Y:YIn C H p y L):∃ A:YA,A.p=p/\Has H (yL C A y++L)/\∀ {H':Hp}{X L':Kn},Has H' (X++(yL C A y++L))->(X++(yL C A y++L)).Perm (yL C A y++L')->YIn C H' p y L':=by
 obtain⟨A,e,h,re⟩:=Y.re
 refine⟨A,e,h,fun {H' X L'} h' pm=>re e (fun z hz=>?_) (h'.perm pm)⟩
 rcases tV.mp (pm.mem_iff.mp (tL X (tL _ hz))) with c | c
 ·exact absurd c (oG z)
 ·exact c
theorem GW.nil (C:Addr):GW w0 ⟨[],none,[]⟩ y0 L:=⟨Rep.nil,⟨(fun _ _ _ h=>nomatch h),(fun _ h=>nomatch h)⟩,fun _=>rfl,fun _ _=>⟨U,U⟩⟩
theorem YIn.put0 {a:Addr}{o:HO} (Y:YIn C H p y ((a,o)::L)) (o':HO) (hn:∀ z:Pr,(a,o)≠pK2 z:=by intro z c; simp[pK2] at c):YIn C (upd H a o') p y ((a,o')::L):=by
 obtain⟨A,e,h,re⟩:=Y.re
 refine re e (fun z hz=>?_) (((h.perm (List.perm_middle (l₁:=yL C A y) (l₂:=L))).puti 0 U o').perm (List.perm_middle (l₁:=yL C A y) (l₂:=L)).symm)
 rcases tX.mp hz with c | c
 ·exact absurd c.symm (hn z)
 ·exact tK _ c
theorem YIn.drop {a:Addr}{o:HO} (Y:YIn C H p y ((a,o)::L)) (hn:∀ z:Pr,(a,o)≠pK2 z:=by intro z c; simp[pK2] at c):YIn C H p y L:=by
 obtain⟨A,e,h,re⟩:=Y.re
 refine re e (fun z hz=>?_) (h.sub (List.Sublist.append (List.Sublist.refl _) (List.sublist_cons_self _ _)))
 rcases tX.mp hz with c | c
 ·exact absurd c.symm (hn z)
 ·exact c
theorem cut2 (a b:V) (r:List V):bX (a::b::r) (some 2) none=r:=by
 unfold bX HT.sIx
 simp
theorem tn0 {σ:St}{H:Hp}{Q:List V->Hp->Prop} (h:Q [] H):iu σ H Q:=h
theorem tc1 {c:V}{σ:St}{H:Hp}{Q:List V->Hp->Prop} (h:Q [c] H):iw (tC c) iu σ H Q:=h
theorem cG (Y:YIn C H p y L) (D:Ld y N M R) (b:N<=9000/\M<=30000/\R<=1000) (k:Kd) (note:Int) (rod:V) (hn:k=.bell->0<=note/\note<=9999)
  (hr:k.point=true->rod≠.non->∃ r:Int,rod=.int r/\0<=r/\r<y.sides.length) (q:∀ H',YIn C H' p (bE y k note rod) L->Q (.int N) H'):sp_lay C [.ref p,.str k.str,.int note,rod] H Q E0:=by
 obtain⟨A,rfl,h,W,s,G⟩:=Y
 refine⟨A,y,L,k,note,rod,U,h,D.small b.1 b.2.1 b.2.2,hn,hr,fun H' tr h'=>?_⟩
 rw[D.nx]
 obtain⟨r,ss',G'⟩:=G.lay' D.fr k note rod hr
 exact q H' ⟨{ A with tr:=tr },U,h',_,_,G'⟩
theorem ci (Y:YIn C H p y L) (D:Ld y N M R) (hM:M<=30000) {a b:Pr} (ma:pK2 a ∈ L) (mb:pK2 b ∈ L) (fa:Fr y a.2) (fb:Fr y b.2) (ne:a.2≠b.2) (q:∀ H',YIn C H' p (cz y a b) L->Q .non H') :
  sp_link C [.ref p,.ref a.1,.ref b.1] H Q E0:=by
 obtain⟨A,rfl,h,W,s,G⟩:=Y
 obtain⟨j1,e1⟩:=List.getElem?_of_mem ma
 obtain⟨j2,e2⟩:=List.getElem?_of_mem mb
 exact⟨A,y,L,a.1,b.1,a.2.1,a.2.2,b.2.1,b.2.2,j1,j2,U,h,e1,e2,fa.1,fb.1,fun c=>ne (cH c),fa.2,fb.2,Nat.le_trans D.ml hM,fun H' tr h'=>q H' ⟨{ A with tr:=tr },U,h',_,_,G.link ma mb fa fb ne⟩⟩
theorem lG (Y:YIn C H p y L) {x:Int} (hx:x=1∨x=2) (hl:y.sides.length<=10000) (q:∀ H',YIn C H' p { y with sides:=y.sides++[.int x],trail:=[] } L->Q (.int y.sides.length) H'):sp_new_rod C [.ref p,.int x] H Q E0:=by
 obtain⟨A,rfl,h,W,s,G⟩:=Y
 exact⟨A,y,L,x,U,h,hx,hl,fun H' tr h'=>q H' ⟨{ A with tr:=tr },U,h',_,_,G.rod x hx⟩⟩
theorem qx (Y:YIn C H p y L) {z:Pr} (mz:pK2 z ∈ L) (th:There y z.2.1 z.2.2) (q:∀ H',YIn C H' p { y with eng:=.ref z.1,trail:=[] } L->Q .non H'):sp_put C [.ref p,.ref z.1] H Q E0:=by
 obtain⟨A,rfl,h,W,s,G⟩:=Y
 obtain⟨j,e⟩:=List.getElem?_of_mem mz
 exact⟨A,y,L,z.1,z.2.1,z.2.2,j,U,h,e,th,fun H' tr h'=>q H' ⟨{ A with tr:=tr },U,h',_,_,G.put mz th⟩⟩
end
theorem Mt.up {y y':YR}{L L':Kn}{x z:Int×Int} (h:Mt y L x z) (u:Up y y') (s:∀ v ∈ L,v ∈ L'):Mt y' L' x z:=by
 obtain⟨b,h1,h2⟩:=h
 exact⟨b,u.m _ _ h1,s _ h2⟩
theorem Kp.up {y y':YR}{n:Int}{k:Kd} (h:Kp y n k) (u:Up y y'):Kp y' n k:=u.k _ _ h
theorem Mt.l1 {y:YR}{a b:Pr}{L:Kn} (hb:pK2 b ∈ L) (ne:a.2≠b.2):Mt (cz y a b) L a.2 b.2:=by
 refine⟨b.1,?_,hb⟩
 show aG (aM (aM y.mates (kE a.2.1 a.2.2) (.ref b.1)) (kE b.2.1 b.2.2) (.ref a.1)) _=_
 rw[aL,if_neg (fun c=>ne (cH c)),aL,if_pos rfl]
theorem Mt.l2 {y:YR}{a b:Pr}{L:Kn} (ha:pK2 a ∈ L):Mt (cz y a b) L b.2 a.2:=by
 refine⟨a.1,?_,ha⟩
 show aG (aM (aM y.mates (kE a.2.1 a.2.2) (.ref b.1)) (kE b.2.1 b.2.2) (.ref a.1)) _=_
 rw[aL,if_pos rfl]
theorem Kp.lay {y:YR}{N M R:Nat} (h:Ld y N M R) (k:Kd) (note:Int) (rod:V):Kp (bE y k note rod) N k:=by
 show aG (aM y.kinds (Sum.inl y.next) (.str k.str)) _=_
 rw[aL,if_pos (by rw[h.nx])]
inductive Ch (y:YR) (L:Kn):Nat->Int×Int->Int×Int->Prop
 | refl (x:Int×Int):Ch y L 0 x x
 | still {n:Nat}{x w:Int×Int}{s a:Int} (m:Mt y L x (s,a)) (k:Kp y s .still) (ha:a=1∨a=2) (c:Ch y L n (s,0) w):Ch y L (n+1) x w
noncomputable def LdB (y:YR) (L:Kn) (b:Nat) (x z:Int×Int):Prop:=∃ n w,n<=b/\Ch y L n x w/\Mt y L w z
theorem Ch.up {y y':YR}{L L':Kn}{n:Nat}{x z:Int×Int} (h:Ch y L n x z) (u:Up y y') (s:∀ v ∈ L,v ∈ L'):Ch y' L' n x z:=by
 induction h with
 | refl x=>exact .refl x
 | still m k ha _ ih=>exact .still (m.up u s) (k.up u) ha ih
theorem Ch.snoc {y:YR}{L:Kn}{n:Nat}{x w:Int×Int}{s a:Int} (h:Ch y L n x w) (m:Mt y L w (s,a)) (k:Kp y s .still) (ha:a=1∨a=2):Ch y L (n+1) x (s,0):=by
 induction h with
 | refl x=>exact .still m k ha (.refl _)
 | still m' k' ha' _ ih=>exact .still m' k' ha' (ih m)
theorem LdB.up {y y':YR}{L L':Kn}{b:Nat}{x z:Int×Int} (h:LdB y L b x z) (u:Up y y') (s:∀ v ∈ L,v ∈ L'):LdB y' L' b x z:=by
 obtain⟨n,w,h0,h1,h2⟩:=h
 exact⟨n,w,h0,h1.up u s,h2.up u s⟩
inductive sp_merge (C:Addr) (vs:List V) (H:Hp) (Q:VK) (E_:XK):Prop
 | mk (p:Addr) (y:YR) (L:Kn) (lo:Addr) (zs:List Pr) (z:Pr) (N M R:Nat) (_:vs=[.ref p,.ref lo,.ref z.1]) (_:YIn C H p y L) (_:(lo,HO.lst (prV zs)) ∈ L) (_:(∀ x ∈ zs,pK2 x ∈ L)) (_:pK2 z ∈ L) (_:Ld y N M R) (_:(zs.map (·.2)).Nodup) (_:z.2 ∉ zs.map (·.2)) (_:(∀ x ∈ zs,Fr y x.2)) (_:Fr y z.2) (_:N+zs.length<=8000) (_:M+4*zs.length<=29000) (_:R<=1000) (_:∀ H' y' Nw M',Ld y' (N+(zs.length - 1)) M' R->(zs≠[]->y'.trail=[])->(zs=[]->y'=y)->y'.kinds.length=y.kinds.length+(zs.length - 1)->M'<=M+4*zs.length->Up y y'->(∀ x,Fr y x->x ∉ zs.map (·.2)->x≠z.2->Fr y' x)->(∀ x ∈ zs,LdB y' (Nw++L) (zs.length - 1) x.2 z.2)->YIn C H' p y' (Nw++L)->Q .non H'):sp_merge C vs H Q E_
inductive mrg1Inv (C_:Addr) (p:Addr) (lo:Addr) (z:Pr) (z0:Pr) (zr:List Pr) (y:YR) (N:Nat) (M:Nat) (R:Nat) (L:Kn) (m:Nat) (σ':St) (H':Hp):Prop
 | mk (y':YR) (Nw:Kn) (wl:Addr) (ws:List Pr) (N' M':Nat) (o:Option V) (_:m=ws.length) (_:σ'=[some (.ref p),some (.ref lo),some (.ref z.1),some (.ref wl),o]) (_:YIn C_ H' p y' ((wl,.lst (prV ws))::(Nw++L))) (_:ws≠[]) (_:(∀ x ∈ ws,pK2 x ∈ Nw++L)) (_:Ld y' N' M' R) (_:N'+ws.length=N+(z0::zr).length) (_:y'.kinds.length+ws.length=y.kinds.length+(z0::zr).length) (_:M'+4*ws.length=M+4*(z0::zr).length) (_:(ws.map (·.2)).Nodup) (_:z.2 ∉ ws.map (·.2)) (_:(∀ x ∈ ws,Fr y' x.2)) (_:Fr y' z.2) (_:(∀ x,Fr y x->x ∉ (z0::zr).map (·.2)->x≠z.2->Fr y' x/\x ∉ ws.map (·.2))) (_:Up y y') (_:(∀ x ∈ z0::zr,∃ w ∈ ws,∃ n,n+ws.length<=(z0::zr).length/\Ch y' (Nw++L) n x.2 w.2)):mrg1Inv C_ p lo z z0 zr y N M R L m σ' H'
section
variable {P:Program}{w:World}{K:PySem.W.Frag}{mg:Str->Option Value}{base:Heap}{t:Adr}
theorem scMe:FnScope ["yard","outs","end","waiting","point"] ["yard","outs","end"] (aj jE):={}
theorem dN (T:Txt K mg t):FnOk P w K mg base CX0 5 t.f_merge t.d_merge ["yard","outs","end"] (sp_merge t.c_Yard):=by
 obtain⟨ds_l2,hd_Jd1_2,hb_Jd1_2⟩:=cZ T
 refine T.F_merge.ok scMe (fun vs H Q E h=>?_) (fun cdv A outer s H vs Q E hr h=>?_)
 ·obtain⟨_,_,_,_,_,_,_,_,_,rfl,_⟩:=h
  rfl
 ·obtain⟨p,y,L,lo,zs,z,N,M,R,rfl,Y,mlo,mzs,mz,D,nd,nz,fz,fe,bN,bM,bR,q⟩:=h
  refine⟨_,(ae (aD (b7 (dD (pv 1) (by intro _; rfl)))
    (ai jJ)
    ap)
   (ae (ax (i:=3) scMe.nd rfl (Or.inl rfl) (a9 ba (by rfl) T.z_list (by rfl) (aa (pv 1) ag)))
   (ae (dG PassesOwn.never (ak cP (aN aI (by rfl) T.z_len (by rfl) (aa (pv 3) ag)) ah (ao _))
    (ae (ax (i:=4) scMe.nd rfl (Or.inl rfl) (aC (pv 0) T.cl_Yard T.M_Jd1 (cE T) hr hb_Jd1_2 hd_Jd1_2 aF (aa aJ ag)))
     (ae (ar (aC (pv 0) T.cl_Yard T.M_J21 (cF T) hr (dY T) .nil aF (@aa _ _ _ _ _ (av aB (pv 3) ah) (@aa _ _ _ _ _ (az (aa (pv 4) (aa ah ag))) ag (by rfl)) (by rfl))))
     (ae (ar (aC (pv 0) T.cl_Yard T.M_J21 (cF T) hr (dY T) .nil aF (@aa _ _ _ _ _ (av aB (pv 3) ah) (@aa _ _ _ _ _ (az (aa (pv 4) (aa ah ag))) ag (by rfl)) (by rfl))))
     (ai (ax (i:=3) scMe.nd rfl (Or.inl rfl) (aw hW (cx dw (pv 3) (cC ah) dH) (aX (@aa _ _ _ _ _ (az (aa (pv 4) (aa ah ag))) ag (by rfl))))))))))
   (ai (ar (aC (pv 0) T.cl_Yard T.M_J21 (cF T) hr (dY T) .nil aF (aa (av aB (pv 3) ah) (aa (pv 2) ag)))))))),?_⟩
  rw[show L2.start ["yard","outs","end","waiting","point"] [V.ref p,V.ref lo,V.ref z.1]=([some (V.ref p),some (V.ref lo),some (V.ref z.1),none,none]:St) from rfl]
  cases zs with
  | nil=>
   refine⟨_,U,false,.inl ⟨_,SqL.of (Y.at_ mlo),U⟩,dP ?_⟩
   exact q _ y [] M D (fun c=>absurd rfl c) (fun _=>rfl) rfl (by omega) (Up.refl _) (fun x h _ _=>h) (fun x hx=>(nomatch hx)) Y
  | cons z0 zr=>
  refine⟨_,U,true,.inl ⟨_,SqL.of (Y.at_ mlo),U⟩,ce ?_⟩
  refine⟨_,U,lo,_,U,.inl (SqL.of (Y.at_ mlo)),fun wl hwl=>?_⟩
  dsimp only[List.set]
  refine⟨(mrg1Inv t.c_Yard p lo z z0 zr y N M R L),
   ⟨_,y,[],wl,z0::zr,N,M,none,U,U,Y.alloc hwl _,(fun c=>nomatch c),mzs,D,U,U,U,nd,nz,fz,fe,fun x h1 h2 _=>⟨h1,h2⟩,Up.refl _,fun x hx=>⟨x,hx,0,by omega,.refl _⟩⟩,?_⟩
  rintro m σ H1 ⟨y1,Nw,wl,ws,N1,M1,o,rfl,rfl,Y1,hne,mws,D1,eN,kln,eM,nd1,nz1,fw,fe1,old,up,chs⟩
  have gw:=Y1.at_ tM
  refine⟨_,U,wl,_,U,.inl (SqL.of gw),_,_,U,U,_,U,?_⟩
  have lw:(prV ws).length=ws.length:=by unfold prV; rw[tP]
  match ws,hne with
  | [a],_=>
   refine ifF (decide_eq_false (by rw[lw]; simp)) ?_
   obtain⟨A1,gy⟩:=Y1.obj
   refine⟨_,U,p,A1.dx,_,U,gy,(cq _ _ _).2.2.1,_,U,wl,_,_,_,U,U,SqL.of gw,am (j:=0) rfl,_,U,?_⟩
   have fa:=fw a tM
   have ne:a.2≠z.2:=fun c=>nz1 (by rw[<- c]; exact tM)
   refine ci Y1 D1 (by simp at eM bM; omega) (tK _ (mws a tM)) (tK _ (tL _ mz)) fa fe1 ne (fun H2 Y2=>?_)
   have D2:=D1.link fa fe1
   have e:N1=N+((z0::zr).length - 1):=by simp at eN ⊢; omega
   rw[e] at D2
   refine q H2 _ ((wl,.lst (prV [a]))::Nw) _ D2 (fun _=>rfl) (fun c=>nomatch c) (by simp only[t6,List.length_nil] at kln ⊢; show y1.kinds.length=_; omega) (by simp at eM ⊢; omega) (up.trans (Up.link fa fe1)) (fun x h1 h2 h3=>?_) (fun x hx=>?_) Y2
   ·obtain⟨h4,h5⟩:=old x h1 h2 h3
    exact h4.link (fun c=>h5 (by rw[c]; exact tM)) h3
   ·obtain⟨w',hw',nc,hnc,cw⟩:=chs x hx
    cases tT.mp hw'
    exact⟨nc,a.2,by simp only[t6,List.length_nil] at hnc ⊢; omega,cw.up (Up.link fa fe1) (fun v hv=>tK _ hv),Mt.l1 (tK _ (tL _ mz)) ne⟩
  | a::b::r,_=>
   refine ifT (decide_eq_true (by rw[lw]; simp; omega)) ?_
   refine⟨_,fun σ' H' h=>h,?_⟩
   obtain⟨A1,gy⟩:=Y1.obj
   simp only[t6] at eN eM bN bM
   refine⟨_,U,p,A1.dx,_,U,gy,(bQ _ _ _).1,?_⟩
   refine tc1 ?_
   refine cG Y1 D1 ⟨by omega,by omega,bR⟩ .still 0 .non (fun c=>nomatch c) (fun _ c=>absurd rfl c) (fun H2 Y2=>?_)
   have D2:=D1.lay .still 0 .non
   have fa:=(fw a tM).lay D1 .still 0 .non
   have fb:=(fw b (tK _ tM)).lay D1 .still 0 .non
   have f0:Fr _ ((N1:Int),0):=Fr.new D1 .still 0 .non (Int.le_refl _) (by decide)
   have f1:Fr _ ((N1:Int),1):=Fr.new D1 .still 0 .non (by decide) (by decide)
   have f2:Fr _ ((N1:Int),2):=Fr.new D1 .still 0 .non (by decide) (by decide)
   have no:∀ x e,Fr y1 x->x≠((N1:Int),e):=fun x e h=>h.ne D1
   have old2:∀ x,Fr y1 x->Fr (bE y1 .still 0 .non) x:=fun x h=>h.lay D1 .still 0 .non
   have up2:=up.trans (D1.up .still 0 .non)
   have u2:=D1.up .still 0 .non
   have k2:Kp _ N1 .still:=Kp.lay D1 .still 0 .non
   have kl2:(bE y1 .still 0 .non).kinds.length=y1.kinds.length+1:=jI (D1.fr _ (Int.le_refl _)).1
   obtain⟨y2,ey2⟩:∃ y2,bE y1 .still 0 .non=y2:=⟨_,U⟩
   rw[ey2] at kl2 u2 k2 up2 Y2 D2 fa fb f0 f1 f2 old2
   have mw:∀ x ∈ a::b::r,pK2 x ∈ (wl,HO.lst (prV (a::b::r)))::(Nw++L):=fun x hx=>tK _ (mws x hx)
   have ab:a.2≠b.2:=fun c=>(List.nodup_cons.mp nd1).1 (by show a.2 ∈ _; rw[c]; exact tM)
   have na:=no _ 1 (fw a tM)
   have n01:∀ i j:Int,i≠j->((N1:Int),i)≠((N1:Int),j):=fun i j h c=>h (by injection c)
   have ra:a.2 ∉ r.map (·.2):=fun h=>(List.nodup_cons.mp nd1).1 (tK _ h)
   have nd2:=(List.nodup_cons.mp nd1).2
   have rb:b.2 ∉ r.map (·.2):=(List.nodup_cons.mp nd2).1
   dsimp only[List.set]
   obtain⟨A2,gy2⟩:=Y2.obj
   have gw2:=Y2.at_ tM
   refine⟨_,U,p,A2.dx,_,U,gy2,(cq _ _ _).2.2.1,_,U,wl,_,_,_,U,U,SqL.of gw2,am (j:=0) rfl,_,U,(show 2<=sizeLine by decide),fun b1 hb1=>?_⟩
   have Y3:=Y2.alloc hb1 (.tup [.int N1,.int 1])
   refine tn0 ?_
   refine ci (b:=(b1,(N1:Int),1)) Y3 D2 (by omega) (tK _ (mw a tM)) tM fa f1 na (fun H4 Y4=>?_)
   have D4:=D2.link (b:=(b1,(N1:Int),1)) fa f1
   have fb4:=fb.link (a:=a) (b:=(b1,(N1:Int),1)) (fun c=>ab c.symm) (no _ 1 (fw b (tK _ tM)))
   have f24:=f2.link (a:=a) (b:=(b1,(N1:Int),1)) (fun c=>no _ 2 (fw a tM) c.symm) (n01 _ _ (by decide))
   have f04:=f0.link (a:=a) (b:=(b1,(N1:Int),1)) (fun c=>no _ 0 (fw a tM) c.symm) (n01 _ _ (by decide))
   have old4:∀ x,Fr y1 x->x≠a.2->Fr (cz y2 a (b1,(N1:Int),1)) x:=fun x h1 h2=>(old2 x h1).link h2 (no x 1 h1)
   have up4:=up2.trans (Up.link (b:=(b1,(N1:Int),1)) fa f1)
   have u4:=u2.trans (Up.link (b:=(b1,(N1:Int),1)) fa f1)
   have k4:=k2.up (Up.link (b:=(b1,(N1:Int),1)) fa f1)
   have m4:∀ L',pK2 (b1,(N1:Int),1) ∈ L'->Mt (cz y2 a (b1,(N1:Int),1)) L' a.2 ((N1:Int),1):=fun L' h=>Mt.l1 (b:=(b1,(N1:Int),1)) h na
   obtain⟨y4,ey4⟩:∃ y4,cz y2 a (b1,(N1:Int),1)=y4:=⟨_,U⟩
   rw[ey4] at u4 k4 m4 up4 Y4 D4 fb4 f24 f04 old4
   obtain⟨A4,gy4⟩:=Y4.obj
   have gw4:=Y4.at_ (tK _ tM)
   refine⟨_,U,p,A4.dx,_,U,gy4,(cq _ _ _).2.2.1,_,U,wl,_,_,_,U,U,SqL.of gw4,am (j:=1) rfl,_,U,(show 2<=sizeLine by decide),fun b2 hb2=>?_⟩
   have Y5:=Y4.alloc hb2 (.tup [.int N1,.int 2])
   refine tn0 ?_
   refine ci (b:=(b2,(N1:Int),2)) Y5 D4 (by omega) (tK _ (tK _ (mw b (tK _ tM)))) tM fb4 f24 (no _ 2 (fw b (tK _ tM))) (fun H6 Y6=>?_)
   have D6:=D4.link (b:=(b2,(N1:Int),2)) fb4 f24
   have f06:=f04.link (a:=b) (b:=(b2,(N1:Int),2)) (fun c=>no _ 0 (fw b (tK _ tM)) c.symm) (n01 _ _ (by decide))
   have old6:∀ x,Fr y1 x->x≠a.2->x≠b.2->Fr (cz y4 b (b2,(N1:Int),2)) x:=fun x h1 h2 h3=>(old4 x h1 h2).link h3 (no x 2 h1)
   have up6:=up4.trans (Up.link (b:=(b2,(N1:Int),2)) fb4 f24)
   have l6:=Up.link (a:=b) (b:=(b2,(N1:Int),2)) fb4 f24
   have u6:=u4.trans l6
   have k6:=k4.up l6
   have m6:∀ L',pK2 (b2,(N1:Int),2) ∈ L'->Mt (cz y4 b (b2,(N1:Int),2)) L' b.2 ((N1:Int),2):=fun L' h=>Mt.l1 (b:=(b2,(N1:Int),2)) h (no _ 2 (fw b (tK _ tM)))
   have kl6:(cz y4 b (b2,(N1:Int),2)).kinds.length=y1.kinds.length+1:=by rw[<- ey4]; exact kl2
   obtain⟨y6,ey6⟩:∃ y6,cz y4 b (b2,(N1:Int),2)=y6:=⟨_,U⟩
   rw[ey6] at kl6 l6 u6 k6 m6 up6 Y6 D6 f06 old6
   have gw6:=Y6.at_ (tK _ (tK _ tM))
   refine⟨_,U,_,U,wl,_,U,SqL.of gw6,fun c1 hc1=>?_⟩
   have e2:bX (prV (a::b::r)) (some 2) none=prV r:=cut2 _ _ _
   rw[e2]
   have Y7:=Y6.alloc hc1 (.lst (prV r))
   refine⟨_,U,(show 2<=sizeLine by decide),fun b3 hb3=>?_⟩
   have Y8:=Y7.alloc hb3 (.tup [.int N1,.int 0])
   refine⟨(sz_ 1),fun c2 hc2=>?_⟩
   have Y9:=Y8.alloc hc2 (.lst [.ref b3])
   refine⟨c1,c2,_,_,U,U,SqL.of (Y9.at_ (tK _ (tK _ tM))),SqL.of (Y9.at_ tM),sz (show _<=1000000 by unfold prV; rw[tP,t7]; omega),fun w2 hw2=>?_⟩
   have Y10:=Y9.alloc hw2 (.lst (prV r++[.ref b3]))
   have er:prV r++[.ref b3]=prV (r++[(b3,(N1:Int),0)]):=by unfold prV; rw[tU]; rfl
   have em:(r++[(b3,(N1:Int),0)]).map (fun x:Pr=>x.2)=r.map (·.2)++[((N1:Int),0)]:=by rw[tU]; rfl
   have n0r:((N1:Int),0) ∉ r.map (·.2):=fun h=>by
    obtain⟨x,hx,e⟩:=uc.mp h
    exact no x.2 0 (fw x (tK _ (tK _ hx))) e
   rw[er] at Y10 ⊢
   refine⟨(r++[(b3,(N1:Int),0)]).length,by simp,y6,(c2,.lst [.ref b3])::(b3,.tup [.int N1,.int 0])::(c1,.lst (prV r))::(b2,.tup [.int N1,.int 2])::(b1,.tup [.int N1,.int 1])::(wl,.lst (prV (a::b::r)))::Nw,w2,r++[(b3,(N1:Int),0)],N1+1,M1+2+2,_,U,U,Y10,?_,?_,D6,by simp at eN ⊢; omega,by rw[kl6]; simp only[t6,tW,List.length_nil] at kln ⊢; omega,by simp at eM ⊢; omega,?_,?_,?_,?_,?_,up6,?_⟩
   ·exact fun c=>by simp at c
   ·intro x hx
    rcases tV.mp hx with hx | hx
    ·simp only[List.cons_append]
     exact tK _ (tK _ (tK _ (tK _ (tK _ (tK _ (mws x (tK _ (tK _ hx))))))))
    ·cases tT.mp hx
     exact tQ _ (tK _ tM)
   ·rw[em]
    exact List.nodup_append.mpr ⟨(List.nodup_cons.mp nd2).2,by simp,fun x hx y hy e=>n0r (by rw[<- tT.mp hy,<- e]; exact hx)⟩
   ·rw[em]
    intro h
    rcases tV.mp h with h | h
    ·exact nz1 (tK _ (tK _ h))
    ·exact no _ 0 fe1 (tT.mp h)
   ·intro x hx
    rcases tV.mp hx with hx | hx
    ·have:=tY (f:=fun x:Pr=>x.2) hx
     exact old6 _ (fw x (tK _ (tK _ hx))) (fun c=>ra (by rw[<- c]; exact this)) (fun c=>rb (by rw[<- c]; exact this))
    ·cases tT.mp hx
     exact f06
   ·exact old6 _ fe1 (fun c=>nz1 (by rw[c]; exact tM)) (fun c=>nz1 (by rw[c]; exact tK _ tM))
   ·intro x h1 h2 h3
    obtain⟨h4,h5⟩:=old x h1 h2 h3
    refine⟨old6 x h4 (fun c=>h5 (by rw[c]; exact tM)) (fun c=>h5 (by rw[c]; exact tK _ tM)),?_⟩
    rw[em]
    intro h
    rcases tV.mp h with h | h
    ·exact h5 (tK _ (tK _ h))
    ·exact no _ 0 h4 (tT.mp h)
   ·intro x hx
    obtain⟨w',hw',nc,hnc,cw⟩:=chs x hx
    obtain⟨Lf,eLf⟩:∃ Lf:Kn,((c2,HO.lst [.ref b3])::(b3,.tup [.int N1,.int 0])::(c1,.lst (prV r))::(b2,.tup [.int N1,.int 2])::(b1,.tup [.int N1,.int 1])::(wl,.lst (prV (a::b::r)))::Nw)++L=Lf:=⟨_,U⟩
    have sL:∀ v ∈ Nw++L,v ∈ Lf:=fun v hv=>by rw[<- eLf]; simp only[List.cons_append]; exact tK _ (tK _ (tK _ (tK _ (tK _ (tK _ hv)))))
    have mb1:pK2 (b1,(N1:Int),1) ∈ Lf:=by rw[<- eLf]; exact tQ _ (by simp)
    have mb2:pK2 (b2,(N1:Int),2) ∈ Lf:=by rw[<- eLf]; exact tQ _ (by simp)
    rw[eLf]
    have cw6:=cw.up u6 sL
    have new:(b3,(N1:Int),(0:Int)) ∈ r++[(b3,(N1:Int),0)]:=tL _ tM
    rcases tX.mp hw' with rfl | hw'
    ·exact⟨_,new,nc+1,by simp only[t6,tW,List.length_nil] at hnc ⊢; omega,cw6.snoc ((m4 Lf mb1).up l6 (fun v hv=>hv)) k6 (.inl rfl)⟩
    ·rcases tX.mp hw' with rfl | hw'
     ·exact⟨_,new,nc+1,by simp only[t6,tW,List.length_nil] at hnc ⊢; omega,cw6.snoc (m6 Lf mb2) k6 (.inr rfl)⟩
     ·exact⟨w',tQ _ hw',nc,by simp only[t6,tW,List.length_nil] at hnc ⊢; omega,cw6⟩
end
noncomputable def Lead (y:YR) (L:Kn) (x z:Int×Int):Prop:=∃ b:Nat,(b:Int)<=y.next/\LdB y L b x z
theorem Lead.up {y y':YR}{L L':Kn}{x z:Int×Int} (h:Lead y L x z) (u:Up y y') (s:∀ v ∈ L,v ∈ L'):Lead y' L' x z:=by
 obtain⟨b,h1,h2⟩:=h
 exact⟨b,Int.le_trans h1 u.x,h2.up u s⟩
theorem iL {N:Int}{i j:Int} (h:i≠j):(N,i)≠(N,j):=fun c=>h (by injection c)
inductive TT (y:YR) (L:Kn) (x:Int×Int):List (Int×Int)->List Int->Int×Int->Prop
 | nil:TT y L x [] [] x
 | snoc {l:List (Int×Int)}{rs:List Int}{o:Int×Int}{p r:Int} (t:TT y L x l rs o) (m1:Mt y L o (p,0)) (m2:Mt y L (p,0) o) (k:Kp y p .turning) (hr:aG y.rods (Sum.inl p)=some (.int r)):TT y L x (l++[(p,1)]) (rs++[r]) (p,2)
theorem TT.up {y y':YR}{L L':Kn}{x o:Int×Int}{l:List (Int×Int)}{rs:List Int} (h:TT y L x l rs o) (u:Up y y') (s:∀ v ∈ L,v ∈ L'):TT y' L' x l rs o:=by
 induction h with
 | nil=>exact .nil
 | snoc _ m1 m2 k hr ih=>exact .snoc ih (m1.up u s) (m2.up u s) (k.up u) (u.r _ _ hr)
theorem d7 {y:YR}{N M R:Nat} (h:Ld y N M R) (k:Kd) (note r:Int) (hk:k.point=true):aG (bE y k note (.int r)).rods (Sum.inl (N:Int))=some (.int r):=by
 show aG (if k.point=true then aM y.rods (Sum.inl y.next) (if V.int r=.non then .int y.sides.length else .int r) else y.rods) _=_
 rw[if_pos hk,if_neg (fun c=>nomatch c),aL,if_pos (by rw[h.nx])]
inductive sp_tally (C:Addr) (vs:List V) (H:Hp) (Q:VK) (E_:XK):Prop
 | mk (p:Addr) (y:YR) (L:Kn) (rl:Addr) (rs:List Int) (N M R:Nat) (_:vs=[.ref p,.ref rl]) (_:YIn C H p y L) (_:(rl,HO.lst (rs.map V.int)) ∈ L) (_:(∀ r ∈ rs,0<=r/\r<y.sides.length)) (_:rs≠[]) (_:Ld y N M R) (_:N+2*rs.length<=7000) (_:M+6*rs.length<=28000) (_:R<=1000) (_:∀ H' y' Nw tp (a b c:Pr) M',Ld y' (N+(2*rs.length+1)) M' R->M'<=M+6*rs.length->Up y y'->(∀ x,Fr y x->Fr y' x)->Fr y' a.2->Fr y' b.2->Fr y' c.2->a.2≠b.2->a.2≠c.2->b.2≠c.2->(N:Int)<=a.2.1->(N:Int)<=b.2.1->(N:Int)<=c.2.1->pK2 a ∈ Nw->pK2 b ∈ Nw->pK2 c ∈ Nw->(∃ (n:Int) (zs:List (Int×Int)),a.2=((N:Int),0)/\b.2=(n,1)/\Kp y' N .line/\Kp y' n .line/\TT y' (Nw++L) ((N:Int),1) zs rs c.2/\∀ x ∈ zs,Lead y' (Nw++L) x (n,0))->YIn C H' p y' ((tp,.tup [.ref a.1,.ref b.1,.ref c.1])::(Nw++L))->Q (.ref tp) H'):sp_tally C vs H Q E_
section
variable {P:Program}{w:World}{K:PySem.W.Frag}{mg:Str->Option Value}{base:Heap}{t:Adr}
theorem scTy:FnScope ["yard","rods","entry","over","arms","rod","point","leave"] ["yard","rods"] (aj jC):={}
theorem l3 (T:Txt K mg t):FnOk P w K mg base CX0 6 t.f_tally t.d_tally ["yard","rods"] (sp_tally t.c_Yard):=by
 obtain⟨ds_l2,hd_Jd1_2,hb_Jd1_2⟩:=cZ T
 obtain⟨g_lay,bw⟩:=bw T
 refine T.F_tally.ok scTy (fun vs H Q E h=>?_) (fun cdv A outer s H vs Q E hr h=>?_)
 ·obtain⟨_,_,_,_,_,_,_,_,rfl,_⟩:=h
  rfl
 ·obtain⟨p,y,L,rl,rs,N,M,R,rfl,Y,mrl,hrs,hne,D,bN,bM,bR,q⟩:=h
  refine⟨_,(ae (ax (i:=2) scTy.nd rfl (Or.inl rfl) (aC (pv 0) T.cl_Yard T.M_Jd1 (cE T) hr hb_Jd1_2 hd_Jd1_2 aF (aa aJ ag)))
   (ae (ax (i:=3) scTy.nd rfl (Or.inl rfl) (az (aa (pv 2) (aa ah ag))))
   (ae (ax (i:=4) scTy.nd rfl (Or.inl rfl) (aX ag))
   (ae (bi PassesOwn.never rfl (bG (pv 1)) (aq (i:=5) scTy.nd rfl (Or.inl rfl))
    (ae (ax (i:=6) scTy.nd rfl (Or.inl rfl) (fG (pv 0) T.cl_Yard T.M_Jd1 (cE T) (hr.mono (by decide)) bw aF (aa aJ ag) (g9 (pv 5) jf)))
     (ae (ar (aC (pv 0) T.cl_Yard T.M_J21 (cF T) hr (dY T) .nil aF (@aa _ _ _ _ _ (pv 3) (@aa _ _ _ _ _ (az (aa (pv 6) (aa ah ag))) ag (by rfl)) (by rfl))))
     (ae (ar (bS PySem.F.plainAttrs_list PySem.F.slot_list_append PySem.F.type_list_append aU (pv 4) (@aa _ _ _ _ _ (az (aa (pv 6) (aa ah ag))) ag (by rfl))))
     (ai (ax (i:=3) scTy.nd rfl (Or.inl rfl) (az (aa (pv 6) (aa ah ag)))))))))
   (ae (ax (i:=7) scTy.nd rfl (Or.inl rfl) (aC (pv 0) T.cl_Yard T.M_Jd1 (cE T) hr hb_Jd1_2 hd_Jd1_2 aF (aa aJ ag)))
   (ae (ar (pcl (dN T) hr T.m_merge T.F_merge.kp (fq T) (@aa _ _ _ _ _ (pv 0) (@aa _ _ _ _ _ (pv 4) (@aa _ _ _ _ _ (az (aa (pv 7) (aa ah ag))) ag (by rfl)) (by rfl)) (by rfl))))
   (ai (au (az (@aa _ _ _ _ _ (az (aa (pv 2) (aa ah ag))) (@aa _ _ _ _ _ (az (aa (pv 7) (aa ah ag))) (@aa _ _ _ _ _ (pv 3) ag (by rfl)) (by rfl)) (by rfl))))))))))),?_⟩
  rw[show L2.start ["yard","rods","entry","over","arms","rod","point","leave"] [V.ref p,V.ref rl]=([some (V.ref p),some (V.ref rl),none,none,none,none,none,none]:St) from rfl]
  obtain⟨A1,gy⟩:=Y.obj
  refine⟨_,U,p,A1.dx,_,U,gy,(bQ _ _ _).1,?_⟩
  refine tc1 ?_
  refine cG Y D ⟨by omega,by omega,bR⟩ .line 0 .non (fun c=>nomatch c) (fun _ c=>absurd rfl c) (fun H2 Y2=>?_)
  have D2:=D.lay .line 0 .non
  have up2:=D.up .line 0 .non
  have f0:Fr _ ((N:Int),0):=Fr.new D .line 0 .non (Int.le_refl _) (by decide)
  have f1:Fr _ ((N:Int),1):=Fr.new D .line 0 .non (by decide) (by decide)
  have old2:∀ x,Fr y x->Fr (bE y .line 0 .non) x:=fun x h=>h.lay D .line 0 .non
  have kN:Kp _ N .line:=Kp.lay D .line 0 .non
  obtain⟨y2,ey2⟩:∃ y2,bE y .line 0 .non=y2:=⟨_,U⟩
  rw[ey2] at kN up2 Y2 D2 f0 f1 old2
  dsimp only[List.set]
  refine⟨_,U,(show 2<=sizeLine by decide),fun b1 hb1=>?_⟩
  have Y3:=Y2.alloc hb1 (.tup [.int N,.int 1])
  dsimp only[List.set]
  refine⟨by decide,fun al hal=>?_⟩
  have Y4:=Y3.alloc hal (.lst (prV []))
  dsimp only[List.set]
  have lr:(rs.map V.int).length=rs.length:=by rw[tP]
  refine⟨_,U,rl,U,⟨_,SqL.of (Y4.at_ (tK _ (tK _ mrl)))⟩,cU (xs:=rs.map V.int) (fun i σ H'=>∃ (y':YR) (Nw:Kn) (o:Pr) (zs:List Pr) (M':Nat) (o1 o2 o3:Option V),σ=[some (.ref p),some (.ref rl),some (.int N),some (.ref o.1),some (.ref al),o1,o2,o3]/\YIn t.c_Yard H' p y' ((al,.lst (prV zs))::(Nw++L)) /\
   i<=rs.length/\zs.length=i/\Ld y' (N+1+i) M' R/\M'=M+2*i/\Up y y'/\(∀ x,Fr y x->Fr y' x)/\Fr y' ((N:Int),0)/\Fr y' o.2/\(N:Int)<=o.2.1/\o.2.2≠0/\pK2 o ∈ Nw/\o.2 ∉ zs.map (·.2)/\(zs.map (·.2)).Nodup/\(∀ x ∈ zs,Fr y' x.2/\(N:Int)<x.2.1/\pK2 x ∈ Nw)/\Kp y' N .line/\TT y' (Nw++L) ((N:Int),1) (zs.map (·.2)) (rs.take i) o.2)
   ⟨y2,[pK2 (b1,(N:Int),1)],(b1,(N:Int),1),[],M,_,_,_,U,Y4,Nat.zero_le _,U,D2,U,up2,old2,f0,f1,Int.le_refl _,(fun c=>by cases c),tM,(fun h=>nomatch h),List.nodup_nil,(fun x hx=>nomatch hx),kN,.nil⟩
   (fun i σ H' _ ⟨y',Nw,o,zs,M',o1,o2,o3,_,Y',_⟩=>SqL.of (Y'.at_ (tK _ (tL _ mrl)))) ?_ ?_⟩
  ·rintro i x σ H1 hx ⟨y1,Nw,o,zs,M1,o1,o2,o3,rfl,Y1,hi,hzl,D1,rfl,up,old,f0,fo,no1,oe,mo,noz,nd,fz,kN,tt⟩
   rw[tS] at hx
   obtain⟨r,hr0,rfl⟩:=Option.map_eq_some_iff.mp hx
   have hil:i<rs.length:=(List.getElem?_eq_some_iff.mp hr0).1
   have hrb:=hrs r (tO hr0)
   have us:=up.sl
   obtain⟨A1,gy⟩:=Y1.obj
   obtain⟨n,en⟩:∃ n:Nat,N+1+i=n:=⟨_,U⟩
   rw[en] at D1
   have no:∀ x e,Fr y1 x->x≠((n:Int),e):=fun x e h=>h.ne D1
   refine⟨_,U,p,A1.dx,_,U,gy,(bQ _ _ _).1,?_⟩
   refine tc1 ?_
   refine⟨_,U,?_⟩
   refine tn0 ?_
   refine cG Y1 D1 ⟨by omega,by omega,bR⟩ .turning 0 (.int r) (fun c=>nomatch c) (fun _ _=>⟨r,U,by omega,by omega⟩) (fun H2 Y2=>?_)
   have D2:=D1.lay .turning 0 (.int r)
   have up2:=up.trans (D1.up .turning 0 (.int r))
   have fo2:=fo.lay D1 .turning 0 (.int r)
   have g0:Fr _ ((n:Int),0):=Fr.new D1 .turning 0 (.int r) (Int.le_refl _) (by decide)
   have g1:Fr _ ((n:Int),1):=Fr.new D1 .turning 0 (.int r) (by decide) (by decide)
   have g2:Fr _ ((n:Int),2):=Fr.new D1 .turning 0 (.int r) (by decide) (by decide)
   have old2:∀ x,Fr y1 x->Fr (bE y1 .turning 0 (.int r)) x:=fun x h=>h.lay D1 .turning 0 (.int r)
   have u2:=D1.up .turning 0 (.int r)
   have k2:Kp _ n .turning:=Kp.lay D1 .turning 0 (.int r)
   have r2:=d7 D1 .turning 0 r rfl
   obtain⟨y2,ey2⟩:∃ y2,bE y1 .turning 0 (.int r)=y2:=⟨_,U⟩
   rw[ey2] at u2 k2 r2 up2 Y2 D2 fo2 g0 g1 g2 old2
   dsimp only[List.set]
   obtain⟨A2,gy2⟩:=Y2.obj
   refine⟨_,U,p,A2.dx,_,U,gy2,(cq _ _ _).2.2.1,_,U,_,U,(show 2<=sizeLine by decide),fun c0 hc0=>?_⟩
   have Y3:=Y2.alloc hc0 (.tup [.int n,.int 0])
   refine tn0 ?_
   refine ci (a:=o) (b:=(c0,(n:Int),0)) Y3 D2 (by omega) (tK _ (tK _ (tQ _ mo))) tM fo2 g0 (no _ _ fo) (fun H4 Y4=>?_)
   have D4:=D2.link (a:=o) (b:=(c0,(n:Int),0)) fo2 g0
   have g14:=g1.link (a:=o) (b:=(c0,(n:Int),0)) (fun c=>no _ 1 fo c.symm) (iL (by decide))
   have g24:=g2.link (a:=o) (b:=(c0,(n:Int),0)) (fun c=>no _ 2 fo c.symm) (iL (by decide))
   have old4:∀ x,Fr y1 x->x≠o.2->Fr (cz y2 o (c0,(n:Int),0)) x:=fun x h1 h2=>(old2 x h1).link h2 (no x 0 h1)
   have up4:=up2.trans (Up.link (a:=o) (b:=(c0,(n:Int),0)) fo2 g0)
   have l4:=Up.link (a:=o) (b:=(c0,(n:Int),0)) fo2 g0
   have mA:∀ L',pK2 (c0,(n:Int),0) ∈ L'->Mt (cz y2 o (c0,(n:Int),0)) L' o.2 ((n:Int),0):=fun L' h=>Mt.l1 (b:=(c0,(n:Int),0)) h (no _ _ fo)
   have mB:∀ L',pK2 o ∈ L'->Mt (cz y2 o (c0,(n:Int),0)) L' ((n:Int),0) o.2:=fun L' h=>Mt.l2 (b:=(c0,(n:Int),0)) h
   obtain⟨y4,ey4⟩:∃ y4,cz y2 o (c0,(n:Int),0)=y4:=⟨_,U⟩
   rw[ey4] at l4 mA mB up4 Y4 D4 g14 g24 old4
   refine⟨_,U,.inl ⟨U,_,SqL.of (Y4.at_ (tK _ tM))⟩,_,U,(show 2<=sizeLine by decide),fun c1 hc1=>?_⟩
   have Y5:=Y4.alloc hc1 (.tup [.int n,.int 1])
   refine tn0 ?_
   have lz:(prV zs).length=zs.length:=by unfold prV; rw[tP]
   refine⟨al,_,_,U,U,Y5.at_ (tK _ (tK _ tM)),sizeOk (by rw[lz]; omega),?_⟩
   have er:prV zs++[.ref c1]=prV (zs++[(c1,(n:Int),1)]):=by unfold prV; rw[tU]; rfl
   rw[er]
   have Y6:=(Y5.perm (List.Perm.trans (.cons _ (.swap _ _ _)) (.swap _ _ _))).put0 (.lst (prV (zs++[(c1,(n:Int),1)])))
   refine⟨_,U,(show 2<=sizeLine by decide),fun c2 hc2=>?_⟩
   have Y7:=Y6.alloc hc2 (.tup [.int n,.int 2])
   dsimp only[List.set]
   have nr:∀ e:Int,((n:Int),e) ∉ zs.map (·.2):=fun e h=>by
    obtain⟨x,hx,e'⟩:=uc.mp h
    exact no x.2 e (fz x hx).1 e'
   have em:(zs++[(c1,(n:Int),1)]).map (fun x:Pr=>x.2)=zs.map (·.2)++[((n:Int),1)]:=by rw[tU]; rfl
   refine⟨y4,(c2,.tup [.int n,.int 2])::(c1,.tup [.int n,.int 1])::(c0,.tup [.int n,.int 0])::Nw,(c2,(n:Int),2),zs++[(c1,(n:Int),1)],M+2*i+2,_,_,_,U,Y7.perm (.swap _ _ _),hil,by simp[hzl],?_,by omega,up4,fun x hx=>?_,?_,g24,by show(N:Int)<=n; omega,(fun c=>by cases c),tM,?_,?_,?_,kN.up (u2.trans l4),?_⟩
   ·have:N+1+(i+1)=n+1:=by omega
    rw[this]
    exact D4
   ·exact old4 x (old x hx) (fun c=>by have:=D.lt hx.1; rw[c] at this; omega)
   ·exact old4 _ f0 (fun c=>oe (by rw[<- c]))
   ·rw[em]
    intro h
    rcases tV.mp h with h | h
    ·exact nr 2 h
    ·exact iL (by decide) (tT.mp h)
   ·rw[em]
    refine List.nodup_append.mpr ⟨nd,by simp,fun x hx z hz e=>?_⟩
    rw[e,tT.mp hz] at hx
    exact nr 1 hx
   ·intro x hx
    rcases tV.mp hx with hx | hx
    ·obtain⟨x1,x2,x3⟩:=fz x hx
     exact⟨old4 _ x1 (fun c=>noz (by rw[<- c]; exact tY (f:=fun x:Pr=>x.2) hx)),x2,tK _ (tK _ (tK _ x3))⟩
    ·rw[tT.mp hx]
     exact⟨g14,by show(N:Int)<n; omega,tK _ tM⟩
   ·rw[em,List.take_add_one,hr0]
    refine .snoc (tt.up (u2.trans l4) (fun v hv=>?_)) (mA _ ?_) (mB _ ?_) (k2.up l4) (l4.r _ _ r2)
    ·exact tK _ (tK _ (tK _ hv))
    ·exact tK _ (tK _ tM)
    ·exact tK _ (tK _ (tK _ (tQ _ mo)))
  ·rintro σ H1 ⟨y1,Nw,o,zs,M1,o1,o2,o3,rfl,Y1,hi,hzl,D1,rfl,up,old,f0,fo,no1,oe,mo,noz,nd,fz,kN,tt⟩
   rw[lr] at D1 hzl tt
   rw[List.take_length] at tt
   obtain⟨A1,gy⟩:=Y1.obj
   obtain⟨n,en⟩:∃ n:Nat,N+1+rs.length=n:=⟨_,U⟩
   rw[en] at D1
   have no:∀ x e,Fr y1 x->x≠((n:Int),e):=fun x e h=>h.ne D1
   refine⟨_,U,p,A1.dx,_,U,gy,(bQ _ _ _).1,?_⟩
   refine tc1 ?_
   refine cG Y1 D1 ⟨by omega,by omega,bR⟩ .line 0 .non (fun c=>nomatch c) (fun _ c=>absurd rfl c) (fun H2 Y2=>?_)
   have D2:=D1.lay .line 0 .non
   have up2:=up.trans (D1.up .line 0 .non)
   have g0:Fr _ ((n:Int),0):=Fr.new D1 .line 0 .non (Int.le_refl _) (by decide)
   have g1:Fr _ ((n:Int),1):=Fr.new D1 .line 0 .non (by decide) (by decide)
   have old2:∀ x,Fr y1 x->Fr (bE y1 .line 0 .non) x:=fun x h=>h.lay D1 .line 0 .non
   have u2:=D1.up .line 0 .non
   have kn:Kp _ n .line:=Kp.lay D1 .line 0 .non
   obtain⟨y2,ey2⟩:∃ y2,bE y1 .line 0 .non=y2:=⟨_,U⟩
   rw[ey2] at u2 kn up2 Y2 D2 g0 g1 old2
   dsimp only[List.set]
   refine⟨_,U,_,U,_,U,(show 2<=sizeLine by decide),fun c0 hc0=>?_⟩
   have Y3:=Y2.alloc hc0 (.tup [.int n,.int 0])
   refine tn0 ?_
   have nz:∀ e:Int,((n:Int),e) ∉ zs.map (·.2):=fun e h=>by
    obtain⟨x,hx,e'⟩:=uc.mp h
    exact no x.2 e (fz x hx).1 e'
   refine⟨p,y2,_,al,zs,(c0,(n:Int),0),n+1,M+2*rs.length,R,U,Y3,tK _ tM,fun x hx=>tK _ (tK _ (tQ _ (fz x hx).2.2)),tM,D2,nd,nz 0,fun x hx=>old2 _ (fz x hx).1,g0,by omega,by omega,bR,fun H4 y4 N4 M4 D4 _ _ _ bM4 up4 old4 ld4 Y4=>?_⟩
   have zl:∀ x,x ∈ zs.map (·.2)->(N:Int)<x.1:=fun x hx=>by
    obtain⟨z,hz,rfl⟩:=uc.mp hx
    exact(fz z hz).2.1
   have k0:=old4 _ (old2 _ f0) (fun h=>absurd (zl _ h) (Int.lt_irrefl _)) (no _ _ f0)
   have k1:=old4 _ g1 (nz 1) (iL (by decide))
   have ko:=old4 _ (old2 _ fo) noz (no _ _ fo)
   have hrl:1<=rs.length:=by
    cases rs with
    | nil=>exact absurd rfl hne
    | cons=>exact Nat.succ_le_succ (Nat.zero_le _)
   refine⟨_,U,(show 2<=sizeLine by decide),fun e0 he0=>?_⟩
   have Y5:=Y4.alloc he0 (.tup [.int N,.int 0])
   refine⟨_,U,(show 2<=sizeLine by decide),fun e1 he1=>?_⟩
   have Y6:=Y5.alloc he1 (.tup [.int n,.int 1])
   refine⟨_,U,(show 3<=sizeLine by decide),fun tp htp=>?_⟩
   have Y7:=Y6.alloc htp (.tup [.ref e0,.ref e1,.ref o.1])
   have e:n+1+(zs.length - 1)=N+(2*rs.length+1):=by omega
   rw[e] at D4
   refine q _ y4 ((e1,.tup [.int n,.int 1])::(e0,.tup [.int N,.int 0])::(N4++((c0,.tup [.int n,.int 0])::(al,.lst (prV zs))::Nw))) tp (e0,(N:Int),0) (e1,(n:Int),1) o M4 D4 (by omega) (up2.trans up4) (fun x hx=>?_) k0 k1 ko (no _ _ f0) (fun c=>oe (by rw[<- c])) (fun c=>no _ _ fo c.symm) (Int.le_refl _) (by show(N:Int)<=n; omega) no1 (tK _ tM) tM ?_ ?_ ?_
   ·have h1:=D.lt hx.1
    exact old4 _ (old2 _ (old x hx)) (fun h=>by have:=zl _ h; omega) (no _ _ (old x hx))
   ·exact tK _ (tK _ (tL _ (tK _ (tK _ mo))))
   ·have s1:∀ v ∈ Nw++L,v ∈ ((e1,HO.tup [.int n,.int 1])::(e0,.tup [.int N,.int 0])::(N4++((c0,.tup [.int n,.int 0])::(al,.lst (prV zs))::Nw)))++L:=fun v hv=>by
     simp only[List.cons_append,tR]
     exact tK _ (tK _ (tL _ (tK _ (tK _ hv))))
    refine⟨n,zs.map (·.2),U,U,kN.up (u2.trans up4),kn.up up4,tt.up (u2.trans up4) s1,fun x hx=>?_⟩
    obtain⟨z,hz,rfl⟩:=uc.mp hx
    refine Lead.up ⟨_,by rw[D4.nx]; omega,ld4 z hz⟩ (Up.refl _) (fun v hv=>?_)
    simp only[List.cons_append,tR]
    exact tK _ (tK _ hv)
   ·simpa only [List.cons_append,tR] using Y7
end
end P
namespace L2
open PySem PySem.Spec PyProof.Rows
section
variable {prog:Program}{w:World}{K:Type} [DecidableEq K] {knd:HeapKind prog w K}{A:Around}{E:Value->Shared->Prop}{s:Shared}{d a:Addr}{k:K}{xs:List (K×Addr×Value)}{v:Value}
theorem eU {Q:Value->Shared->Prop} (hu:knd.room A) (hkey:knd.is s.heap k a) (hm:s.heap.DictOfH knd d xs) (hsz:xs.length<=sizeLine)
  (h1:∀ p,atKey xs k=some p->Q p.2 { s with toks:=s.toks+knd.draws k })
  (h2:atKey xs k=none->∀ h',h'.DictOfH knd d (storedH xs k a v)->Heap.SameBut d s.heap h'->Q v { s with heap:=h',toks:=s.toks+knd.draws k }) :
  wpAny (model prog w) A (dictSetDefault d (.ref a) v) Q E s:=by
 obtain⟨o,es,ep,ho,hc,hd,he,his,hn⟩:=hm
 unfold dictSetDefault
 try with_reducible refine wpAny_holding ?_
 refine wpAny_bind (knd.pyHash hu hkey ?_)
 refine wpAny_bind (wpAny_dictFind_heap (s:={ s with toks:=s.toks+knd.draws k }) hu hkey ho hd he his hn ?_ ?_)
 ·intro hno
  have hnot:k ∉ xs.map (·.1):=not_mem_keys_of_get hno
  refine wpAny_bind (wpAny_rule (wpAny_bind (wpAny_updateDictKeys (hz:=by have e:=size_of_entries he; omega) (s:={ s with toks:=s.toks+knd.draws k }) ho hd (wpAny_pure (h2 (atKey_none_of_get hno) _ ⟨_,_,ep+1,Heap.get?_update_self _ ho (Obj.isFreed_of_dict (Obj.data_mapDictKeys hd _)),
   hc.mapDictKeys _,Obj.data_mapDictKeys hd _,?_,?_,?_⟩ (Heap.SameBut.update ..))))))
  ·rw[storedH_new (atKey_none_of_get hno)]
   simp[he,entryOfKey]
  ·rw[storedH_new (atKey_none_of_get hno)]
   intro x hx
   rcases tV.mp hx with hx | hx
   ·exact knd.keeps (his x hx) ho hd (Heap.SameBut.update ..)
   ·simp only[tT] at hx
    subst hx
    exact knd.keeps hkey ho hd (Heap.SameBut.update ..)
  ·rw[storedH_new (atKey_none_of_get hno)]
   rw[tU,List.nodup_append]
   refine⟨hn,by simp,?_⟩
   intro x hx y hy
   simp only[t5,List.map_nil,tT] at hy
   subst hy
   exact fun e=>hnot (e ▸ hx)
 ·intro j p hj
  refine wpAny_bind (wpAny_dictEntries (s:={ s with toks:=s.toks+knd.draws k }) ho hd ?_)
  rw[entry_at he j,hj]
  exact wpAny_bind (wpAny_rule (wpAny_pure (h1 _ (atKey_of_get hn hj))))
theorem dO (hd:(d == sysModules)=false) :
  MeetsIn prog w (Builtin.«dict.setdefault» ⟨[.ref d,.ref a,v],[]⟩) (fun A R s=>knd.room A.in1/\∃ k xs,knd.is s.heap k a/\s.heap.DictOfH knd d xs/\xs.length<=sizeLine /\
   (∀ p,atKey xs k=some p->R (.ok (.ret p.2)) { s with toks:=s.toks+knd.draws k }) /\
   (atKey xs k=none->∀ h',h'.DictOfH knd d (storedH xs k a v)->Heap.SameBut d s.heap h'->R (.ok (.ret v)) { s with heap:=h',toks:=s.toks+knd.draws k })) :=
 .of_wp fun A R s ⟨hu,k,xs,hkey,hm,hsz,h1,h2⟩=>by
  unfold Builtin.«dict.setdefault»
  refine wpAny_bind ?_
  unfold Builtin.Dict.keyAndDefault
  refine wpAny_bind (wpAny_notOrdered_dict hm.typeIs ?_)
  show wpAny _ _ (pure (d,Value.ref a,some v)) _ _ s
  refine wpAny_pure ?_
  show wpAny _ _ (if (d == sysModules)=true then _ else(dictSetDefault d (.ref a) v >>= _)) _ _ s
  rw[if_neg (by rw[hd]; exact Bool.false_ne_true)]
  exact wpAny_bind (eU hu hkey hm hsz (fun p hp=>wpAny_pure ⟨p.2,U,h1 p hp⟩) fun hn h' hm' hs'=>wpAny_pure ⟨v,U,h2 hn h' hm' hs'⟩)
end
section
variable {X:Cx}{pins:List (Addr×Obj)}{σ:St}{H:Hp}{s:Shared}{a b:Addr}{kvs:List (List Key×V)}{k:List Key}{r:Value}{z:V}{A:Around}{E:Value->Shared->Prop}
theorem kH {Q:Value->Shared->Prop} (hu:A.units+1<cLine) (I:Inv X pins σ H s) (e:H a=some (.dT kvs)) (eb:H b=some (.tup (k.map kV))) (rz:RelV z r) (hl:kvs.length<sizeLine)
  (h1:∀ v,aG kvs k=some v->∀ w' s',Inv X pins σ H s'->RelV v w'->Q w' s')
  (h2:aG kvs k=none->∀ s',Inv X pins σ (upd H a (.dT (aM kvs k z))) s'->Q r s'):wpAny (model X.prog X.w) A (call (.builtin "dict.setdefault") [.ref a,.ref b,r]) Q E s:=by
 obtain⟨zz,hd,xs,rel,dd⟩:=pT I.hok e
 have hz:xs.length<=sizeLine:=by rw[<- Paired.length rel]; exact zz
 have hv:=rel.val k
 refine call_meetsIn PySem.F.slot_dict_setdefault dd.typeIs PySem.F.entry_dict_setdefault (PySem.F.args_dict_setdefault_3 _ _ _) (dO hd) ⟨tupleKind_room_in1 hu,k,xs,dq I.hok eb,dd,hz,fun p hp=>?_,fun hn h' dd' hs=>?_⟩
 ·rw[hp] at hv
  cases e2:aG kvs k with
  | none=>rw[e2] at hv; exact(show False from hv).elim
  | some x=>rw[e2] at hv; exact h1 x e2 p.2 _ (I.tok _) hv
 ·rw[hn] at hv
  cases e2:aG kvs k with
  | some x=>rw[e2] at hv; exact(show False from hv).elim
  | none=>
   have hl2:(aM kvs k z).length<=sizeLine:=by have:=bq kvs k z; omega
   obtain⟨q,es,ep,hq,g2,g3,g4,_,g5⟩:=dd'
   refine h2 e2 _ (ig I (by rw[e]; exact True.intro) hs ⟨q,hq⟩ ⟨hl2,hd,_,(rel.put k eb rz).keeps fun c ys ec=>?_,q,es,ep,hq,g2,g3,g4,g5⟩)
   rw[aH (mG ec e (fun z=>nomatch z))]
   exact ec
end
noncomputable def qh (td ty tx:TE):TE:=fun σ H Q=>td σ H fun x H1=>∃ a,x=.ref a/\IsD H1 a/\ty σ H1 fun y H2=>tx σ H2 fun z H3=>∃ b kvs k,y=.ref b/\H3 a=some (.dT kvs)/\H3 b=some (.tup (k.map kV))/\kvs.length<sizeLine /\
 (∀ v,aG kvs k=some v->Q v H3)/\(aG kvs k=none->Q z (upd H3 a (.dT (aM kvs k z))))
theorem lX {X:Cx}{o e f:Expr}{apos cpos:Pos}{td ty tx:TE} (hu:X.A.units+1<cLine) (ho:PE X o td) (he:PE X e ty) (hf:PE X f tx) (m:M2 X o "setdefault" apos e f cpos):PE X (.Call (.Attribute o "setdefault" apos) [e,f] [] cpos) (qh td ty tx):=by
 intro pins s σ H Q I h
 refine wpAny_Call_method m.base m.few m.line PySem.F.plainAttrs_dict PySem.F.slot_dict_setdefault PySem.F.type_dict_setdefault (thn (ho pins s σ H _ I h) fun u s1 ⟨x,H1,I1,rx,a,ex,d,q1⟩=>?_)
 subst ex
 obtain rfl:u=Value.ref a:=rx
 obtain⟨t1,t2,_⟩:=jo I1 d
 refine⟨t1,t2,?_⟩
 rw[m.trees]
 refine Calls.callWith_builtin rfl (Calls.evalArgs_plain (Calls.spliced_cons (thn (he pins s1 σ H1 _ I1 q1) fun iv s2 ⟨y,H2,I2,ry,q2⟩=>
  Calls.spliced_cons (thn (hf pins s2 σ H2 _ I2 q2) fun fv s3 ⟨z,H3,I3,rz,b,kvs,k,ey,e3,eb,hl,qa,qb⟩=>Calls.spliced_nil ?_))))
 subst ey
 obtain rfl:iv=Value.ref b:=ry
 exact kH hu I3 e3 eb rz hl (fun v hv w' s4 I4 rw'=>⟨_,H3,I4,rw',qa v hv⟩) (fun hn s4 I4=>⟨_,_,I4,rz,qb hn⟩)
end L2
namespace L2.It
open PySem
noncomputable def En (h:Heap) (d:Addr) (es:Array DictEntry) (ep:Nat):Prop:=∃ o,h.get? d=some o/\o.ExactDict/\o.data=.dict es ep
section
variable {prog:Program}{w:World}{A:Around}{E:Value->Shared->Prop}{s:Shared}{d it v:Addr}{es:Array DictEntry}{ep i:Nat}{x1 x2:Value}
theorem En.ty (h:En s.heap d es ep):s.TypeIs (.ref d) "dict":=let ⟨o,e,c,_⟩:=h; ⟨o,e,c.1⟩
theorem En.to {h h':Heap} (x:En h d es ep) (k:∀ o,h.get? d=some o->h'.get? d=some o):En h' d es ep:=let ⟨o,e,r⟩:=x; ⟨o,k o e,r⟩
theorem view (lo:(d == sysModules)=false):MeetsIn prog w (Builtin.«dict.items» ⟨[.ref d],[]⟩) (fun _ R s=>(∃ es ep,En s.heap d es ep) /\
   R (.ok (.ret (.ref s.heap.objs.size))) { s with heap:=s.heap.push { cls:=.type "dict_items",data:=.fields #[.ref d] } }) :=
 .of_wp fun A R s ⟨⟨es,ep,g⟩,h⟩=>by
  unfold Builtin.«dict.items» Builtin.Dict.noArgs
  refine wpAny_bind (wpAny_bind (wpAny_notOrdered_dict g.ty (show wpAny _ _ (pure d) _ _ s from wpAny_pure (show wpAny _ _ (Builtin.Dict.showsAll d >>= _) _ _ s from ?_))))
  unfold Builtin.Dict.showsAll
  rw[lo,if_neg Bool.false_ne_true]
  exact wpAny_bind (wpAny_pure (wpAny_bind (wpAny_newObj_type (wpAny_pure ⟨_,rfl,h⟩))))
theorem iter {Q:Value->Shared->Prop} (hv:s.heap.IsItemsView v d) (g:En s.heap d es ep)
  (q:Q (.ref s.heap.objs.size) { s with heap:=s.heap.push { cls:=.type "dict_itemiterator",data:=.fields #[.none,.bool false,.ref d,.int 0 0,.int es.size 0,.int ep 0,.none,.none] } }):wpAny (model prog w) A (pyIter (.ref v)) Q E s:=by
 have ty:=hv.typeIs
 obtain⟨ov,a1,_,a3⟩:=hv
 obtain⟨o,b1,_,b3⟩:=g
 refine wpAny_pyIter_slot ty F.slot_dict_items_iter (wpAny_call_entry F.slot_dict_items_iter ty F.entry_dict_items_iter ?body (F.args_dict_items_iter_1 _))
 case body=>
  unfold Builtin.«dict_items.__iter__» Builtin.Dict_items.dictOf Builtin.Dict_items.newIterator
  refine wpAny_bind (wpAny_pure (wpAny_bind (wpAny_bind (wpAny_field a1 a3 (x:=.ref d) rfl (wpAny_pure (wpAny_bind (wpAny_bind (wpAny_dictEntries b1 b3 (wpAny_bind (wpAny_dictEpoch b1 b3 ?_))))))))))
  simp only[show Builtin.Dict_items.ownsTuple "dict_itemiterator" = true from by decide,if_true]
  refine wpAny_newObj_type (wpAny_pure ⟨_,rfl,"dict_itemiterator",_,⟨_,Heap.get?_push_size _ rfl,rfl⟩,F.slot_dict_itemiterator_next.lookup,?_⟩) (by simp[PySem.sizeOk,Builtin.Dict_items.ownedTupleFields,sizeLine_eq])
  simpa [rawInt,Builtin.Dict_items.ownedTupleFields] using q
theorem item {Q:Option Value->Shared->Prop} (hit:IsItemIter s.heap it d i es.size ep x1 x2) (g:En s.heap d es ep) (hi:i<es.size)
  (q:∀ h',IsItemIterOut h' it d (i+1) es.size ep es[i].key es[i].val s.heap.objs.size->h'.get? s.heap.objs.size=some { cls:=.type "tuple",data:=.seq #[es[i].key,es[i].val] } ->
   (∀ b o,b≠it->s.heap.get? b=some o->h'.get? b=some o)->Q (some (.ref s.heap.objs.size)) { s with heap:=h' }):wpAny (model prog w) A (pyNext (.ref it)) Q E s:=by
 have ty:s.TypeIs (.ref it) "dict_itemiterator":=⟨_,hit,rfl⟩
 have ow:Builtin.Dict_items.ownsTuple "dict_itemiterator" = true:=by decide
 have lt:it<s.heap.objs.size:=Heap.lt_size hit
 obtain⟨o,b1,_,b3⟩:=g
 unfold pyNext
 refine wpAny_bind (wpAny_attempt (wpAny_callSpecial?_slot (name:=Str.ofString "__next__") ty F.slot_dict_itemiterator_next (wpAny_call_entry F.slot_dict_itemiterator_next ty F.entry_dict_itemiterator_next ?body (F.args_dict_itemiterator_next_1 _))))
 case body=>
  refine wpAny_bind (wpAny_pure (wpAny_bind (wpAny_bind (wpAny_bind (wpAny_typeNameOfWhole_itemiter ty (wpAny_pure (wpAny_bind (wpAny_fieldsOf hit rfl ?_))))))))
  simp only[ow,if_true]
  refine(show wpAny _ _ (if (Value.ref d == Value.none)=true then _ else _) _ _ s from ?_)
  rw[if_neg (show ¬ ((Value.ref d == Value.none)=true) from nofun)]
  refine wpAny_bind (wpAny_pure (wpAny_bind (wpAny_dictEntries b1 b3 ?_)))
  rw[if_neg (by simp)]
  refine wpAny_bind (wpAny_pure (wpAny_bind (wpAny_dictEpoch b1 b3 ?_)))
  rw[if_neg (by simp)]
  refine wpAny_pure ?_
  simp only[show ¬ ((i:Int)<0) from by omega,if_false,Int.toNat_natCast,Array.getElem?_eq_getElem hi]
  refine wpAny_bind (wpAny_bind (wpAny_typeNameOfWhole_itemiter ty (wpAny_pure (wpAny_bind (wpAny_isOneOf_itemiter ty ?_)))))
  refine(show wpAny _ _ (setField (.ref it) 3 (rawInt ((i:Int)+1)) >>= _) _ _ s from wpAny_bind (wpAny_setField_rec hit (by simp) fun h1 e1 s1=>?_))
  have e1':IsItemIter h1 it d (i+1) es.size ep x1 x2:=by
   unfold IsItemIter
   rw[show((i+1:Nat):Int)=(i:Int)+1 from by omega]
   simpa [rawInt] using e1
  have t1:Shared.TypeIs { s with heap:=h1 } (.ref it) "dict_itemiterator":=⟨_,e1',rfl⟩
  refine wpAny_bind (wpAny_holding (wpAny_bind (wpAny_isOneOf_itemiter t1 (wpAny_bind (wpAny_isOneOf_itemiter t1 ?_)))))
  refine(show wpAny _ _ (Builtin.Dict_items.pairFromOwner (.ref it) 6 es[i].key es[i].val) _ _ { s with heap:=h1 } from ?_)
  unfold Builtin.Dict_items.pairFromOwner
  refine wpAny_bind (wpAny_newTuple ?_)
  obtain⟨h2,eh2⟩:∃ h2,h1.push { cls:=.type "tuple",data:=.seq #[es[i].key,es[i].val] }=h2:=⟨_,rfl⟩
  have sz1:h1.objs.size=s.heap.objs.size:=s1.1
  have e2:IsItemIter h2 it d (i+1) es.size ep x1 x2:=by rw[<- eh2]; exact Heap.get?_push_of_some _ e1'
  have tp2:h2.get? s.heap.objs.size=some { cls:=.type "tuple",data:=.seq #[es[i].key,es[i].val] }:=by rw[<- eh2,<- sz1]; exact Heap.get?_push_size _ rfl
  have k2:∀ b o,b≠it->s.heap.get? b=some o->h2.get? b=some o:=fun b o hb e=>by rw[<- eh2]; exact Heap.get?_push_of_some _ (s1.extBut b o hb e)
  rw[eh2,sz1]
  refine(show wpAny _ _ (Builtin.Dict_items.ownedTupleIsFree (.ref it) >>= _) _ _ { s with heap:=h2 } from ?_)
  unfold Builtin.Dict_items.ownedTupleIsFree
  refine wpAny_bind (wpAny_bind (wpAny_field e2 rfl (x:=.none) rfl (wpAny_pure ?_)))
  simp only[if_true]
  refine wpAny_bind (wpAny_field e2 rfl (x:=x1) rfl (wpAny_bind (wpAny_field e2 rfl (x:=x2) rfl (wpAny_bind (wpAny_setField_rec e2 (by simp) fun h3 e3 s3=>?_)))))
  have e3':IsItemIter h3 it d (i+1) es.size ep es[i].key x2:=e3
  refine wpAny_bind (wpAny_setField_rec e3' (by simp) fun h4 e4 s4=>?_)
  have e4':IsItemIter h4 it d (i+1) es.size ep es[i].key es[i].val:=e4
  refine wpAny_bind (wpAny_setField_rec e4' (by simp) fun h5 e5 s5=>?_)
  have e5':IsItemIterOut h5 it d (i+1) es.size ep es[i].key es[i].val s.heap.objs.size:=e5
  refine wpAny_bind (wpAny_setField_rec e5' (by simp) fun h6 e6 s6=>?_)
  have up:∀ b o,b≠it->h2.get? b=some o->h6.get? b=some o:=fun b o hb e=>s6.extBut b o hb (s5.extBut b o hb (s4.extBut b o hb (s3.extBut b o hb e)))
  exact wpAny_bind (wpAny_letGo (wpAny_pure (wpAny_pure ⟨_,rfl,wpAny_pure (q h6 e6 (up _ _ (Nat.ne_of_gt lt) tp2) fun b o hb e=>up b o hb (k2 b o hb e))⟩)))
theorem done {Q:Option Value->Shared->Prop} (hh:A.handled=none) (hit:IsItemIter s.heap it d i es.size ep x1 x2) (g:En s.heap d es ep) (hi:es.size<=i) (q:∀ h',Heap.ExtBut it s.heap h'->Q none { s with heap:=h' }):wpAny (model prog w) A (pyNext (.ref it)) Q E s:=by
 have ty:s.TypeIs (.ref it) "dict_itemiterator":=⟨_,hit,rfl⟩
 have ow:Builtin.Dict_items.ownsTuple "dict_itemiterator" = true:=by decide
 obtain⟨o,b1,_,b3⟩:=g
 unfold pyNext
 refine wpAny_bind (wpAny_attempt (wpAny_callSpecial?_slot (name:=Str.ofString "__next__") ty F.slot_dict_itemiterator_next (wpAny_call_entry F.slot_dict_itemiterator_next ty F.entry_dict_itemiterator_next ?body (F.args_dict_itemiterator_next_1 _))))
 case body=>
  refine wpAny_bind (wpAny_pure (wpAny_bind (wpAny_bind (wpAny_bind (wpAny_typeNameOfWhole_itemiter ty (wpAny_pure (wpAny_bind (wpAny_fieldsOf hit rfl ?_))))))))
  simp only[ow,if_true]
  refine(show wpAny _ _ (if (Value.ref d == Value.none)=true then _ else _) _ _ s from ?_)
  rw[if_neg (show ¬ ((Value.ref d == Value.none)=true) from nofun)]
  refine wpAny_bind (wpAny_pure (wpAny_bind (wpAny_dictEntries b1 b3 ?_)))
  rw[if_neg (by simp)]
  refine wpAny_bind (wpAny_pure (wpAny_bind (wpAny_dictEpoch b1 b3 ?_)))
  rw[if_neg (by simp)]
  refine wpAny_pure ?_
  simp only[show ¬ ((i:Int)<0) from by omega,if_false,Int.toNat_natCast,Array.getElem?_eq_none hi]
  refine wpAny_bind (wpAny_bind (wpAny_typeNameOfWhole_itemiter ty (wpAny_pure ?_)))
  refine(show wpAny _ _ (setField (.ref it) 2 .none >>= _) _ _ s from wpAny_bind (wpAny_setField hit rfl (by simp) (show wpAny _ _ (newExc (.type "StopIteration") [] >>= _) _ _ _ from wpAny_bind ?_)))
  simp only[newExc,newTuple]
  refine wpAny_bind (wpAny_newObj_type (wpAny_bind (m:=firstArgMember _ _) (wpAny_of_eq (a:=Value.none) rfl (wpAny_newObj_type ?_ (by size_fits)))) (by size_fits))
  simp only[raiseNew]
  refine wpAny_bind (wpAny_handled ?_)
  rw[show A.in1.handled=none from hh]
  refine wpAny_bind (wpAny_pure (wpAny_throw ?_))
  refine wpAny_bind (wpAny_isInstance (T := "StopIteration") (b:=true) (by exact⟨_,Heap.get?_push_size _ rfl,rfl⟩) isSubtype_stop (wpAny_pure (q _ (((Heap.SameBut.update ..).extBut.push _).push _))))
end
end L2.It
namespace L2
open PySem PySem.Spec PyProof.Rows
variable{kvs:List (List Key×V)}
theorem mY {P:Program}{w:World}{H:Hp}{h:Heap}{d:Addr}{o:Obj}{es:Array DictEntry}{ep:Nat} (ok:HOk P w H h) (e:H d=some (.frz o (.dT kvs))) (hep:o.data=.dict es ep) :
  h.get? d=some o/\It.En h d es ep/\es.size=kvs.length/\∀ i kv,kvs[i]?=some kv->∃ hi:i<es.size,∃ a,es[i].key=.ref a/\H a=some (.tup (kv.1.map kV))/\RelV kv.2 es[i].val:=by
 obtain⟨e1,z,lo,zs,pr,o',es',ep',g1,g2,g3,g4,g5⟩:=(show h.get? d=some o/\ObjOk P w H h d (.dT kvs) from ok d _ e)
 rw[e1] at g1
 cases g1
 rw[hep] at g3
 cases g3
 have pg:∀ {l:List (List Key×V)}{m:List (List Key×Addr×Value)},Paired (fun(p:List Key×V) (q:List Key×Addr×Value)=>p.1=q.1/\H q.2.1=some (.tup (p.1.map kV))/\RelV p.2 q.2.2) l m->∀ (i:Nat) x,l[i]?=some x->∃ y,m[i]?=some y/\H y.2.1=some (.tup (x.1.map kV))/\RelV x.2 y.2.2:=by
  intro l m r
  induction r with
  | nil=>intro i x hx; simp at hx
  | cons hr _ ih=>
   intro i x hx
   cases i with
   | zero=>cases hx; exact⟨_,U,hr.2⟩
   | succ i=>exact ih i x hx
 refine⟨e1,⟨o,e1,g2,hep⟩,by rw[<- Array.length_toList,g4,tP,<- pr.length],fun i kv hk=>?_⟩
 obtain⟨y,hy,hy1,hy2⟩:=pg pr i kv hk
 have e5:es.toList[i]?=some (entryOfKey (tupleKind (bp P w)) y):=by rw[g4,tS,hy]; rfl
 rw[Array.getElem?_toList] at e5
 obtain⟨hi,e6⟩:=Array.getElem?_eq_some_iff.mp e5
 exact⟨hi,y.2.1,by rw[e6]; rfl,hy1,by rw[e6]; exact hy2⟩
theorem Inv.freezeT {X:Cx}{pins:List (Addr×Obj)}{σ:St}{H:Hp}{s:Shared}{d:Addr} (I:Inv X pins σ H s) (e:H d=some (.dT kvs)):∃ o es ep,s.heap.get? d=some o/\o.data=.dict es ep/\(d == sysModules)=false/\Inv X pins σ (upd H d (.frz o (.dT kvs))) s:=by
 obtain⟨z,lo,zs,pr,o,es,ep,g1,g2,g3,g4,g5⟩:=(show ObjOk X.prog X.w H s.heap d (.dT kvs) from I.hok d _ e)
 refine⟨o,es,ep,g1,g3,lo,I.write (x:=d) (e:=d) (t':=s.toks) (h':=s.heap) (by rw[e]; exact True.intro) (.inl rfl) (fun _ _ _ q=>q) ⟨o,g1⟩ ⟨g1,z,lo,zs,Paired.mapP pr fun p q r=>⟨r.1,?_,r.2.2⟩,o,es,ep,g1,g2,g3,g4,g5⟩⟩
 rw[aH (mG r.2.1 e (fun z=>nomatch z))]
 exact r.2.1
noncomputable def qe (t:TS):TS:=fun D σ H=>∃ (d:Addr) (kvs:List (List Key×V)),H d=some (.dT kvs) /\
 t { nx:=fun σ' H'=>∃ o,H' d=some (.frz o (.dT kvs))/\D.nx σ' (upd H' d (.dT kvs)),rt:=fun v H'=>∃ o,H' d=some (.frz o (.dT kvs))/\D.rt v (upd H' d (.dT kvs)),bk:=fun σ' H'=>∃ o,H' d=some (.frz o (.dT kvs))/\D.bk σ' (upd H' d (.dT kvs)),ct:=fun σ' H'=>∃ o,H' d=some (.frz o (.dT kvs))/\D.ct σ' (upd H' d (.dT kvs)) } σ H
theorem lN {X:Cx}{st:Stmt}{t:TS} (h:PS X st t):PS X st (qe t):=by
 intro pins s σ H D I q
 obtain⟨d,kvs,e,q⟩:=q
 have hn:=I.unfrz e (fun _ _ z=>nomatch z)
 have hu:∀ xs,HO.dT kvs≠.tup xs:=fun _ z=>nomatch z
 refine thn (h pins s σ H _ I q) fun f s1 h1=>?_
 cases f with
 | ret u=>obtain⟨v,σ1,H1,I1,r1,o,e1,q1⟩:=h1; exact⟨v,σ1,_,I1.thaw e1 hn hu,r1,q1⟩
 | next=>obtain⟨σ1,H1,I1,o,e1,q1⟩:=h1; exact⟨σ1,_,I1.thaw e1 hn hu,q1⟩
 | brk=>obtain⟨σ1,H1,I1,o,e1,q1⟩:=h1; exact⟨σ1,_,I1.thaw e1 hn hu,q1⟩
 | cont=>obtain⟨σ1,H1,I1,o,e1,q1⟩:=h1; exact⟨σ1,_,I1.thaw e1 hn hu,q1⟩
noncomputable def Itj (d:Addr) (o:Obj) (kvs:List (List Key×V)):It :=
 ⟨fun i H=>H d=some (.frz o (.dT kvs))/\i<kvs.length,fun i H x H'=>∃ p a kv,x=.ref p/\H p=none/\H'=upd H p (.tup [.ref a,kv.2])/\kvs[i]?=some kv/\H a=some (.tup (kv.1.map kV)),fun i H=>H d=some (.frz o (.dT kvs))/\kvs.length<=i⟩
theorem il {P:Program}{w:World}{K:PySem.W.Frag}{es:List Expr} {x1} {pos:Pos} (d it:Addr) (o:Obj) (kvs:List (List Key×V)) (ds:Array DictEntry) (ep:Nat) (hep:o.data=.dict ds ep) :
  Turn P w K (.Tuple es x1 pos) (Itj d o kvs) [it] it (fun i h=>∃ a b,IsItemIter h it d i ds.size ep a b) where
 mem:=by simp
 obj:=fun i h st b hb=>by
  obtain rfl:b=it:=by simpa using hb
  obtain⟨_,_,e⟩:=st
  exact⟨_,e,fun v z=>by cases (show Data.fields _=Data.cell v from z)⟩
 keep:=fun i h h' st k=>by
  obtain⟨a,b,e⟩:=st
  exact⟨a,b,k it (by simp) _ e⟩
 item:=by
  intro X hP hw hK hc i pins s σ H E I hf st hg
  subst hP hw hK
  obtain⟨e,hi⟩:=hg
  obtain⟨e1,g,sz,gt⟩:=mY I.hok e hep
  obtain⟨hi',a,hka,hta,hva⟩:=gt i _ (tN hi)
  obtain⟨oa,ob,st0⟩:=st
  refine It.item st0 g hi' fun h' a1 a5 kp=>⟨_,U,?_⟩
  refine wpAny_letOwnedTupleGo_items (s:={ s with heap:=h' }) a1 fun h2 st2 sb=>?_
  have pz:s.heap.objs.size≠it:=Nat.ne_of_gt (Heap.lt_size st0)
  have kk:∀ c q,c ∉ [it]->s.heap.get? c=some q->h2.get? c=some q:=fun c q hcm z=>by
   have hc':c≠it:=by simpa using hcm
   exact sb.extBut _ _ hc' (kp c q hc' z)
  have fP:c6 X pins H s.heap.objs.size:=I.fpOk (Nat.le_refl _) (I.hok.fresh (Nat.le_refl _))
  have hp2:h2.get? s.heap.objs.size=some { cls:=.type "tuple",data:=.seq #[ds[i].key,ds[i].val] }:=sb.extBut _ _ pz a5
  have I2:Inv X pins σ (upd H s.heap.objs.size (.tup [.ref a,kvs[i].2])) { s with heap:=h2,toks:=s.toks } :=
   (I.turnedL kk hf).track I.sz (fP.2.1) fP.2.2.2.2.1 fP.2.2.2.2.2 fP.1 ⟨(show 2<=sizeLine by decide),[ds[i].key,ds[i].val],.cons (by rw[hka]; rfl) (.cons hva .nil),⟨_,hp2,U,_,U⟩⟩
  refine⟨.ref s.heap.objs.size,_,I2,U,⟨_,a,kvs[i],U,fP.1,U,tN hi,hta⟩,⟨_,_,st2⟩,fun c hcm=>?_⟩
  obtain rfl:c=it:=by simpa using hcm
  rw[aH (Ne.symm pz)]
  exact(hf c hcm).1
 done:=by
  intro X hP hw hK hc i pins s σ H E I hf st hg
  subst hP hw hK
  obtain⟨e,hi⟩:=hg
  obtain⟨e1,g,sz,gt⟩:=mY I.hok e hep
  obtain⟨f0,f1,f2,f3,f4,f5⟩:=hf it (by simp)
  obtain⟨oa,ob,st0⟩:=st
  exact It.done (I.ok.hd hc) st0 g (by omega) fun h' eb=>⟨U,I.turned (t':=s.toks) (fun b o hb e=>eb b o hb e) f0 f1 f3 f4 f5⟩
 self:=fun A _ s Q E ⟨oa,ob,st⟩ h=>by
  have hT:s.TypeIs (.ref it) "dict_itemiterator":=⟨_,st,U⟩
  exact wpAny_pyIter_slot hT PySem.F.slot_dict_itemiterator_iter (wpAny_call_entry PySem.F.slot_dict_itemiterator_iter hT fW (show wpAny _ _ (ret (.ref it)) _ _ s from wpAny_pure ⟨_,U,"dict_itemiterator",_,hT,F.slot_dict_itemiterator_next.lookup,h⟩) (PySem.F.args_dict_itemiterator_iter_1 _))
noncomputable def nX (td:TE):TI:=fun σ H R=>td σ H fun x H1=>∃ d kvs,x=.ref d/\H1 d=some (.dT kvs)/\∀ o,R (Itj d o kvs) (upd H1 d (.frz o (.dT kvs)))
theorem kc {X:Cx}{es:List Expr} {x1} {tpos apos cpos:Pos}{l:Expr}{tl:TE} (hl:PE X l tl) (hb:attributeBase l "items" X.env (eval l X.env)=eval l X.env:=by rfl) (hline:(apos.endLine == cpos.line)=true:=by rfl):PI X (.Tuple es x1 tpos) (.Call (.Attribute l "items" apos) [] [] cpos) (nX tl):=by
 intro pins s σ H R I h
 refine wpAny_Call_method (T := "dict") (id := "dict.items") hb rfl hline F.plainAttrs_dict F.slot_dict_items F.type_dict_items (thn (hl pins s σ H _ I h) fun v s1 ⟨x,H1,I1,r1,q1⟩=>?_)
 obtain⟨d,kvs,e,ed,q⟩:=q1
 subst e
 cases r1
 obtain⟨t1,t2,_⟩:=jo I1 (.inr ⟨kvs,.inl ed⟩)
 obtain⟨o,ds,ep,eo,hep,lo,I2⟩:=I1.freezeT ed
 have fz:upd H1 d (.frz o (.dT kvs)) d=some (.frz o (.dT kvs)):=bF ..
 obtain⟨_,g,sz,_⟩:=mY I2.hok fz hep
 refine⟨t1,t2,?_⟩
 refine(show wpAny _ _ (callWith cpos (.builtin "dict.items") [.ref d] [] []) _ _ s1 from method_meetsIn F.slot_dict_items F.entry_dict_items rfl (PySem.evalArgs_none ⟨U,g.ty,F.args_dict_items_1 _,_,It.view lo,⟨_,_,g⟩,?_⟩))
 obtain⟨h2,eh2⟩:∃ h2,s1.heap.push { cls:=.type "dict_items",data:=.fields #[.ref d] }=h2:=⟨_,U⟩
 have sz2:h2.objs.size=s1.heap.objs.size+1:=by rw[<- eh2]; exact Heap.size_push ..
 have k2:∀ b o,s1.heap.get? b=some o->h2.get? b=some o:=fun b o e=>by rw[<- eh2]; exact Heap.get?_push_of_some _ e
 have hv:h2.IsItemsView s1.heap.objs.size d:=by rw[<- eh2]; exact⟨_,Heap.get?_push_size _ rfl,U,U⟩
 rw[eh2]
 refine It.iter (s:={ s1 with heap:=h2 }) hv (g.to fun o e=>k2 d o e) ?_
 have ld:d<s1.heap.objs.size:=Heap.lt_size eo
 have hge:s1.heap.objs.size<=h2.objs.size:=by rw[sz2]; exact Nat.le_succ _
 have hne:h2.objs.size≠d:=Nat.ne_of_gt (Nat.lt_of_lt_of_le ld hge)
 refine⟨h2.objs.size,[h2.objs.size],_,_,_,U,I2.kept (t':=s1.toks) fun b o e=>Heap.get?_push_of_some _ (k2 b o e),il d _ o kvs ds ep hep,⟨_,_,Heap.get?_push_size _ rfl⟩,fun b hb=>?_,q o⟩
 obtain rfl:b=h2.objs.size:=by simpa using hb
 refine I1.fpOk hge ?_
 rw[aH hne]
 exact I1.hok.fresh hge
theorem jp {d:Addr}{o:Obj}{g:TG}{tb:TS}{D:Ends}{σ:St}{H:Hp} (Pv:Nat->St->Hp->Prop) (h0:Pv 0 σ H) (hl:∀ i σ H,i<=kvs.length->Pv i σ H->H d=some (.frz o (.dT kvs)))
  (hs:∀ i kv pp a σ H,kvs[i]?=some kv->H pp=none->H a=some (.tup (kv.1.map kV))->Pv i σ H->g (.ref pp) σ (upd H pp (.tup [.ref a,kv.2])) fun σ2 H2=>tb { D with nx:=Pv (i+1),ct:=Pv (i+1),bk:=D.nx } σ2 H2) (hd:∀ σ H,Pv kvs.length σ H->D.nx σ H) :
  ∃ W:Nat->Nat->St->Hp->Prop,(∃ m,W 0 m σ H)/\∀ i m σ H,W i m σ H ->
   ((Itj d o kvs).stop i H/\D.nx σ H)∨((Itj d o kvs).go i H/\∃ N:St->Hp->Prop,(∀ σ' H',N σ' H'->∃ m',m'<m/\W (i+1) m' σ' H')/\∀ x H',(Itj d o kvs).yld i H x H'->g x σ H' fun σ2 H2=>tb { D with nx:=N,ct:=N,bk:=D.nx } σ2 H2):=by
 refine⟨fun i m σ H=>m=kvs.length - i/\i<=kvs.length/\Pv i σ H,⟨kvs.length,by simp,Nat.zero_le _,h0⟩,?_⟩
 rintro i m σ H ⟨rfl,hi,p⟩
 have q:=hl i σ H hi p
 by_cases hlt:i<kvs.length
 ·refine .inr ⟨⟨q,hlt⟩,Pv (i+1),fun σ' H' p'=>⟨kvs.length - (i+1),by omega,U,hlt,p'⟩,fun x H' y=>?_⟩
  obtain⟨pp,a,kv,ex,hn,e,hk,ha⟩:=y
  subst e ex
  exact hs i kv pp a σ _ hk hn ha p
 ·have e:i=kvs.length:=by omega
  subst e
  exact .inl ⟨⟨q,Nat.le_refl _⟩,hd σ H p⟩
end L2
set_option maxHeartbeats 4000000
namespace P
open PySem L2
noncomputable def msS:Setoid Kn:=⟨List.Perm,⟨List.Perm.refl,List.Perm.symm,List.Perm.trans⟩⟩
noncomputable def Ms:Type:=Quotient msS
noncomputable def Ms.mk (l:Kn):Ms:=Quotient.mk msS l
noncomputable def Ms.one (z:Addr×HO):Ms:=Ms.mk [z]
noncomputable def Ms.zero:Ms:=Ms.mk []
noncomputable def Ms.add:Ms->Ms->Ms:=Quotient.lift₂ (s₁:=msS) (s₂:=msS) (fun x y=>Ms.mk (x++y)) (fun _ _ _ _ h1 h2=>Quotient.sound (s:=msS) (List.Perm.append h1 h2))
theorem Ms.app (a b:Kn):Ms.mk (a++b)=(Ms.mk a).add (Ms.mk b):=rfl
theorem Ms.cons (z:Addr×HO) (b:Kn):Ms.mk (z::b)=(Ms.one z).add (Ms.mk b):=rfl
theorem Ms.nil:Ms.mk []=Ms.zero:=rfl
theorem Ms.zl (a:Ms):Ms.zero.add a=a:=by
 induction a using Quotient.ind with | _ x=>rfl
theorem Ms.zr (a:Ms):a.add Ms.zero=a:=by
 induction a using Quotient.ind with | _ x=>exact congrArg Ms.mk (ue x)
instance:Std.Associative Ms.add:=⟨fun a b c=>by
 induction a using Quotient.ind with | _ x=>induction b using Quotient.ind with | _ y=>induction c using Quotient.ind with | _ z=>exact congrArg Ms.mk (tR x y z)⟩
instance:Std.Commutative Ms.add:=⟨fun a b=>by
 induction a using Quotient.ind with | _ x=>induction b using Quotient.ind with | _ y=>exact Quotient.sound (s:=msS) (List.perm_append_comm (l₁:=x) (l₂:=y))⟩
theorem Ms.perm {a b:Kn} (h:Ms.mk a=Ms.mk b):a.Perm b:=Quotient.exact h
variable{H:Hp}
theorem Has.ac {a b:Kn} (h:Has H a) (e:Ms.mk a=Ms.mk b):Has H b:=h.perm (Ms.perm e)
noncomputable def Al (y:YR) (l:List (Int×Int)):Prop:=l.Nodup/\∀ x ∈ l,Fr y x
theorem Al.perm {y:YR}{l l':List (Int×Int)} (h:Al y l) (p:l.Perm l'):Al y l':=⟨p.nodup_iff.mp h.1,fun x hx=>h.2 x (p.mem_iff.mpr hx)⟩
theorem Al.sub {y:YR}{l l':List (Int×Int)} (h:Al y l) (p:l'.Sublist l):Al y l':=⟨h.1.sublist p,fun x hx=>h.2 x (p.subset hx)⟩
variable{l:List (Int×Int)}
theorem Al.tail {y:YR}{a:Int×Int} (h:Al y (a::l)):Al y l:=h.sub (List.sublist_cons_self _ _)
theorem Al.lay2 {y:YR}{N M R:Nat} (h:Ld y N M R) (g:Al y l) (k:Kd) (note:Int) (rod:V) (hk:k.many=2):Al (bE y k note rod) (((N:Int),0)::((N:Int),1)::l):=by
 refine⟨List.nodup_cons.mpr ⟨fun c=>?_,List.nodup_cons.mpr ⟨fun c=>(g.2 _ c).ne h rfl,g.1⟩⟩,fun x hx=>?_⟩
 ·rcases tX.mp c with c | c
  ·exact iL (by decide) c
  ·exact(g.2 _ c).ne h rfl
 ·rcases tX.mp hx with rfl | hx
  ·exact Fr.new h k note rod (Int.le_refl _) (by rw[hk]; decide)
  ·rcases tX.mp hx with rfl | hx
   ·exact Fr.new h k note rod (by decide) (by rw[hk]; decide)
   ·exact(g.2 x hx).lay h k note rod
theorem Al.lay3 {y:YR}{N M R:Nat} (h:Ld y N M R) (g:Al y l) (k:Kd) (note:Int) (rod:V) (hk:k.many=3):Al (bE y k note rod) (((N:Int),0)::((N:Int),1)::((N:Int),2)::l):=by
 have n0:∀ e:Int,((N:Int),e) ∉ l:=fun e c=>(g.2 _ c).ne h rfl
 refine⟨List.nodup_cons.mpr ⟨fun c=>?_,List.nodup_cons.mpr ⟨fun c=>?_,List.nodup_cons.mpr ⟨n0 2,g.1⟩⟩⟩,fun x hx=>?_⟩
 ·rcases tX.mp c with c | c
  ·exact iL (by decide) c
  ·rcases tX.mp c with c | c
   ·exact iL (by decide) c
   ·exact n0 0 c
 ·rcases tX.mp c with c | c
  ·exact iL (by decide) c
  ·exact n0 1 c
 ·rcases tX.mp hx with rfl | hx
  ·exact Fr.new h k note rod (Int.le_refl _) (by rw[hk]; decide)
  ·rcases tX.mp hx with rfl | hx
   ·exact Fr.new h k note rod (by decide) (by rw[hk]; decide)
   ·rcases tX.mp hx with rfl | hx
    ·exact Fr.new h k note rod (by decide) (by rw[hk]; decide)
    ·exact(g.2 x hx).lay h k note rod
theorem Al.link {y:YR}{a b:Pr} (g:Al y (a.2::b.2::l)):Al (cz y a b) l:=by
 obtain⟨n1,n2⟩:=List.nodup_cons.mp g.1
 obtain⟨n3,n4⟩:=List.nodup_cons.mp n2
 exact⟨n4,fun x hx=>(g.2 x (tK _ (tK _ hx))).link (fun c=>n1 (by rw[<- c]; exact tK _ hx)) (fun c=>n3 (by rw[<- c]; exact hx))⟩
theorem Al.ne {y:YR}{a b:Int×Int} (g:Al y (a::b::l)):a≠b:=fun c=>(List.nodup_cons.mp g.1).1 (by rw[c]; exact tM)
structure WS where
 p:Addr
 dx:Addr
 td:Addr
 ts:Addr
 tc:Addr
 D:List ((Int×Int)×Addr×List Pr)
 S:List (Addr×List (Addr×Pr×Pr))
 T:List (Addr×List Pr)
noncomputable def wfl (W:WS):List (Str×V):=[("to_doors",.ref W.td),("to_stretches",.ref W.ts),("to_callers",.ref W.tc)]
noncomputable abbrev dkv (D:List ((Int×Int)×Addr×List Pr)):List (List Key×V):=D.map fun z=>(kE z.1.1 z.1.2,V.ref z.2.1)
noncomputable abbrev wD (D:List ((Int×Int)×Addr×List Pr)):Kn:=D.map fun z=>(z.2.1,HO.lst (prV z.2.2))
noncomputable abbrev wS (S:List (Addr×List (Addr×Pr×Pr))):Kn:=S.map fun z=>(z.1,HO.lst (z.2.map fun c=>V.ref c.1))
noncomputable abbrev wT (T:List (Addr×List Pr)):Kn:=T.map fun z=>(z.1,HO.lst (prV z.2))
noncomputable abbrev w5 (C:Addr) (W:WS):Kn:=[(W.p,.ins C W.dx (wfl W)),(W.dx,.own W.p),(W.td,.dT (dkv W.D)),(W.ts,.lst (W.S.map fun z=>V.ref z.1)),(W.tc,.lst (W.T.map fun z=>V.ref z.1))]
noncomputable def wL (C:Addr) (W:WS):Kn:=w5 C W++(wD W.D++(wS W.S++wT W.T))
theorem oH (W:WS):(wfl W).lookup ("to_doors" : Str)=some (.ref W.td):=by kernel_rfl
theorem wfl_s (W:WS):(wfl W).lookup ("to_stretches" : Str)=some (.ref W.ts):=by kernel_rfl
theorem oI (W:WS):(wfl W).lookup ("to_callers" : Str)=some (.ref W.tc):=by kernel_rfl
theorem wfl_n (W:WS):(wfl W).lookup ("lead" : Str)=none:=by kernel_rfl
noncomputable def dE (D:List ((Int×Int)×Addr×List Pr)):List (Int×Int):=D.flatMap fun z=>z.2.2.map (·.2)
noncomputable def sE (S:List (Addr×List (Addr×Pr×Pr))):List (Int×Int):=S.flatMap fun z=>z.2.map fun c=>c.2.1.2
noncomputable def tE (T:List (Addr×List Pr)):List (Int×Int):=T.flatMap fun z=>z.2.map (·.2)
noncomputable def WS.pend (W:WS):List (Int×Int):=dE W.D++(sE W.S++tE W.T)
noncomputable def WS.dn (W:WS):Nat:=(dE W.D).length
noncomputable def WS.sn (W:WS):Nat:=(sE W.S).length
noncomputable def WS.tn (W:WS):Nat:=(tE W.T).length
structure WOk (W:WS) (L:Kn) (Pl:Int×Int->Prop):Prop where
 kd:(W.D.map (·.1)).Nodup
 ne:∀ z ∈ W.D,z.2.2≠[]
 pd:∀ z ∈ W.D,Pl z.1
 eD:∀ z ∈ W.D,∀ x ∈ z.2.2,pK2 x ∈ L
 eS:∀ z ∈ W.S,∀ c ∈ z.2,(c.1,HO.tup [.ref c.2.1.1,.ref c.2.2.1]) ∈ L/\pK2 c.2.1 ∈ L/\pK2 c.2.2 ∈ L/\Pl c.2.2.2
 eT:∀ z ∈ W.T,∀ x ∈ z.2,pK2 x ∈ L
variable{W:WS}
theorem WOk.mono {L L':Kn}{Pl:Int×Int->Prop} (h:WOk W L Pl) (s:∀ z ∈ L,z ∈ L'):WOk W L' Pl :=
 ⟨h.kd,h.ne,h.pd,fun z hz x hx=>s _ (h.eD z hz x hx),fun z hz c hc=>⟨s _ (h.eS z hz c hc).1,s _ (h.eS z hz c hc).2.1,s _ (h.eS z hz c hc).2.2.1,(h.eS z hz c hc).2.2.2⟩,fun z hz x hx=>s _ (h.eT z hz x hx)⟩
theorem m8:∀ {D:List ((Int×Int)×Addr×List Pr)},(∀ z ∈ D,z.2.2≠[])->D.length<=(dE D).length
 | [],_=>Nat.le_refl _
 | z::r,h=>by
  have h1:=m8 (D:=r) fun x hx=>h x (tK _ hx)
  have h2:0<z.2.2.length:=List.length_pos_iff.mpr (h z tM)
  unfold dE at h1 ⊢
  rw[List.flatMap_cons,tW,tP,t6]
  omega
theorem mV {α β:Type}{f:α->List β}{l:List α}{i:Nat}{z:α} (h:l[i]?=some z):(f z).length<=(l.flatMap f).length:=by
 have:=tO h
 obtain⟨a,b,rfl⟩:=List.append_of_mem this
 rw[List.flatMap_append,List.flatMap_cons,tW,tW]
 omega
theorem jR {α β:Type}{f:α->List β}{l:List α}{i:Nat}{z z':α}{x:β} (h:l[i]?=some z) (e:f z'=f z++[x]):((l.set i z').flatMap f).Perm (x::l.flatMap f):=by
 induction l generalizing i with
 | nil=>cases h
 | cons a r ih=>
  cases i with
  | zero=>
   cases h
   rw[List.set_cons_zero,List.flatMap_cons,List.flatMap_cons,e,tR]
   exact List.perm_middle
  | succ i=>
   rw[List.set_cons_succ,List.flatMap_cons,List.flatMap_cons]
   exact(List.Perm.append_left _ (ih h)).trans List.perm_middle
inductive sp_Winit (C:Addr) (vs:List V) (H:Hp) (Q:VK) (E_:XK):Prop
 | mk (p dx:Addr) (L:Kn) (m:Nat) (_:vs=[.ref p,.int m]) (_:Has H ((p,.ins C dx [])::(dx,.own p)::L)) (_:m<=1000) (_:∀ H' (W:WS),W.p=p->W.D=[]->W.S.length=m->W.T.length=m->(∀ z ∈ W.S,z.2=[])->(∀ z ∈ W.T,z.2=[])->Has H' (wL C W++L)->Q .non H'):sp_Winit C vs H Q E_
noncomputable def inD (D:List ((Int×Int)×Addr×List Pr)) (pl:Int×Int) (x:Pr):Prop:=∃ z ∈ D,z.1=pl/\x ∈ z.2.2
structure Led (D D':List ((Int×Int)×Addr×List Pr)) (e:Pr) (pl:Int×Int):Prop where
 pm:(dE D').Perm (e.2::dE D)
 kd:(D'.map (·.1)).Nodup
 ne:∀ z ∈ D',z.2.2≠[]
 pk:∀ z ∈ D',z.1=pl∨z.1 ∈ D.map (·.1)
 io:∀ q x,inD D' q x↔inD D q x∨(q=pl/\x=e)
inductive sp_lead (C:Addr) (vs:List V) (H:Hp) (Q:VK) (E_:XK):Prop
 | mk (W:WS) (L:Kn) (e:Pr) (b:Addr) (pl:Int×Int) (_:vs=[.ref W.p,.ref e.1,.ref b]) (_:Has H (wL C W++L)) (_:pK2 (b,pl) ∈ L) (_:(W.D.map (·.1)).Nodup) (_:(∀ z ∈ W.D,z.2.2≠[])) (_:W.dn<=5000) (_:∀ H' D',Led W.D D' e pl->Has H' (wL C { W with D:=D' }++L)->Q .non H'):sp_lead C vs H Q E_
variable{D:List ((Int×Int)×Addr×List Pr)}{e:Pr}
theorem Led.new {pl:Int×Int}{l:Addr} (kd:(D.map (·.1)).Nodup) (ne:∀ z ∈ D,z.2.2≠[]) (h:pl ∉ D.map (·.1)):Led D (D++[(pl,l,[e])]) e pl:=by
 refine⟨?_,?_,fun z hz=>?_,fun z hz=>?_,fun q x=>⟨fun⟨z,hz,h1,h2⟩=>?_,fun h=>?_⟩⟩
 ·unfold dE
  rw[List.flatMap_append]
  exact List.perm_append_comm
 ·rw[tU]
  exact List.nodup_append.mpr ⟨kd,by simp,fun x hx y hy c=>h ((show y=pl by simpa using hy) ▸ c ▸ hx)⟩
 ·rcases tV.mp hz with hz | hz
  ·exact ne z hz
  ·rw[tT.mp hz]; simp
 ·rcases tV.mp hz with hz | hz
  ·exact .inr (tY hz)
  ·rw[tT.mp hz]; exact .inl rfl
 ·rcases tV.mp hz with hz | hz
  ·exact .inl ⟨z,hz,h1,h2⟩
  ·rw[tT.mp hz] at h1 h2
   exact .inr ⟨h1.symm,by simpa using h2⟩
 ·rcases h with ⟨z,hz,h1,h2⟩ | ⟨rfl,rfl⟩
  ·exact⟨z,tQ _ hz,h1,h2⟩
  ·exact⟨_,tL _ tM,U,by simp⟩
theorem Led.old {i:Nat}{z:(Int×Int)×Addr×List Pr} (kd:(D.map (·.1)).Nodup) (ne:∀ z ∈ D,z.2.2≠[]) (h:D[i]?=some z):Led D (D.set i (z.1,z.2.1,z.2.2++[e])) e z.1:=by
 have hi:=(List.getElem?_eq_some_iff.mp h).1
 have hm:=tO h
 have ek:(D.set i (z.1,z.2.1,z.2.2++[e])).map (·.1)=D.map (·.1):=by
  rw[List.map_set]
  refine List.ext_getElem? fun j=>?_
  rw[List.getElem?_set]
  split
  ·rename_i c
   subst c
   rw[if_pos (by rw[tP]; exact hi),tS,h]; rfl
  ·rfl
 refine⟨jR h (by rw[tU]; rfl),by rw[ek]; exact kd,fun x hx=>?_,fun x hx=>?_,fun q x=>⟨fun⟨u,hu,h1,h2⟩=>?_,fun g=>?_⟩⟩
 ·rcases List.mem_or_eq_of_mem_set hx with hx | rfl
  ·exact ne x hx
  ·simp
 ·exact .inr (by rw[<- ek]; exact tY hx)
 ·rcases List.mem_or_eq_of_mem_set hu with hu | rfl
  ·exact .inl ⟨u,hu,h1,h2⟩
  ·rcases tV.mp h2 with h2 | h2
   ·exact .inl ⟨z,hm,h1,h2⟩
   ·exact .inr ⟨h1.symm,tT.mp h2⟩
 ·have new:(z.1,z.2.1,z.2.2++[e]) ∈ D.set i (z.1,z.2.1,z.2.2++[e]):=List.mem_iff_getElem?.mpr ⟨i,by rw[List.getElem?_set,if_pos rfl,if_pos hi]⟩
  rcases g with ⟨u,hu,h1,h2⟩ | ⟨rfl,rfl⟩
  ·obtain⟨j,hj⟩:=List.mem_iff_getElem?.mp hu
   by_cases c:i=j
   ·subst c
    rw[h] at hj
    cases hj
    exact⟨_,new,h1,tQ _ h2⟩
   ·exact⟨u,List.mem_iff_getElem?.mpr ⟨j,by rw[List.getElem?_set,if_neg c]; exact hj⟩,h1,h2⟩
  ·exact⟨_,new,U,by simp⟩
theorem gY {pl:Int×Int} (h:aG (dkv D) (kE pl.1 pl.2)=none):pl ∉ D.map (·.1):=fun c=>by
 induction D with
 | nil=>cases c
 | cons z r ih=>
  by_cases e:kE z.1.1 z.1.2=kE pl.1 pl.2
  ·have h:aG ((kE z.1.1 z.1.2,V.ref z.2.1)::dkv r) (kE pl.1 pl.2)=none:=h
   rw[bu e] at h; cases h
  ·have h:aG ((kE z.1.1 z.1.2,V.ref z.2.1)::dkv r) (kE pl.1 pl.2)=none:=h
   rw[bv e] at h
   rcases tX.mp c with c | c
   ·exact e (by rw[c])
   ·exact ih h c
theorem gX {pl:Int×Int}{v:V} (h:aG (dkv D) (kE pl.1 pl.2)=some v):∃ (i:Nat) (z:(Int×Int)×Addr×List Pr),D[i]?=some z/\z.1=pl/\v=.ref z.2.1:=by
 induction D with
 | nil=>cases h
 | cons z r ih=>
  by_cases e:kE z.1.1 z.1.2=kE pl.1 pl.2
  ·have h:aG ((kE z.1.1 z.1.2,V.ref z.2.1)::dkv r) (kE pl.1 pl.2)=some v:=h
   rw[bu e] at h; cases h
   exact⟨0,z,U,cH e,U⟩
  ·have h:aG ((kE z.1.1 z.1.2,V.ref z.2.1)::dkv r) (kE pl.1 pl.2)=some v:=h
   rw[bv e] at h
   obtain⟨i,u,h1,h2,h3⟩:=ih h
   exact⟨i+1,u,h1,h2,h3⟩
theorem spl {α:Type}{l:List α}{i:Nat}{z:α} (h:l[i]?=some z):∃ a b,l=a++z::b/\∀ z',l.set i z'=a++z'::b:=by
 induction l generalizing i with
 | nil=>cases h
 | cons x r ih=>
  cases i with
  | zero=>cases h; exact⟨[],r,U,fun _=>rfl⟩
  | succ i=>
   obtain⟨a,b,e,f⟩:=ih h
   exact⟨x::a,b,by rw[e]; rfl,fun z'=>by rw[List.set_cons_succ,f]; rfl⟩
theorem hmid {X Y:Kn}{a:Addr}{o:HO} (h:Has H (X++(a,o)::Y)) (o':HO):Has (upd H a o') (X++(a,o')::Y) :=
 ((h.perm List.perm_middle).puti 0 U o').perm List.perm_middle.symm
theorem oi {D a b:List ((Int×Int)×Addr×List Pr)}{z z':(Int×Int)×Addr×List Pr} (e:D=a++z::b) (e1:z'.1=z.1) (e2:z'.2.1=z.2.1):dkv (a++z'::b)=dkv D:=by
 rw[e]
 show(a++z'::b).map _=(a++z::b).map _
 rw[tU,tU,t5,t5,e1,e2]
section
variable {P:Program}{w:World}{K:PySem.W.Frag}{mg:Str->Option Value}{base:Heap}{t:Adr}
theorem scWl:FnScope ["self","end","place"] ["self","end","place"] (aj pq):={}
theorem q5 (T:Txt K mg t):FnOk P w K mg base CX0 1 t.f_J31 t.d_J31 ["self","end","place"] (sp_lead t.c_Ways):=by
 refine T.F_J31.ok scWl (fun vs H Q E h=>?_) (fun cdv A outer s H vs Q E hr h=>?_)
 ·obtain⟨_,_,_,_,_,rfl,_⟩:=h
  rfl
 ·obtain⟨W,L,e,b,pl,rfl,hH,mb,kd,ne,bd,q⟩:=h
  have hu:=cS hr
  refine⟨_,(ai (ar (bS PySem.F.plainAttrs_list PySem.F.slot_list_append PySem.F.type_list_append aU (lX hu (aA (pv 0) rfl) (pv 2) (aX ag) ⟨U,U,U,U⟩) (aa (pv 1) ag)))),?_⟩
  rw[show L2.start ["self","end","place"] [V.ref W.p,V.ref e.1,V.ref b]=([some (V.ref W.p),some (V.ref e.1),some (V.ref b)]:St) from rfl]
  refine⟨_,U,W.p,_,W.dx,_,_,U,hH.get 0 U,T.cl_Ways,T.n_Ways_to_doors,oH _,W.td,U,.inr ⟨_,.inl (hH.get 2 U)⟩,_,U,by decide,fun l hl=>?_⟩
  have h1:=hH.alloc hl (.lst [])
  have dl:=Nat.le_trans (m8 ne) bd
  have gb:=h1.at_ _ (tK _ (tL _ mb))
  refine⟨b,_,kE pl.1 pl.2,U,h1.get 3 U,gb,sizeOk (by show(W.D.map _).length<=1000000; rw[tP]; omega),fun v hv=>?_,fun hn=>?_⟩
  ·obtain⟨i,z,hz,rfl,rfl⟩:=gX hv
   have gz:=h1.at_ (z.2.1,HO.lst (prV z.2.2)) (tK _ (tQ _ (tL _ (tQ _ (tY (f:=fun z:(Int×Int)×Addr×List Pr=>(z.2.1,HO.lst (prV z.2.2))) (tO hz))))))
   have lz:(prV z.2.2).length<=5000:=by
    have:=mV (f:=fun z:(Int×Int)×Addr×List Pr=>z.2.2.map (·.2)) hz
    rw[tP] at this
    unfold prV
    rw[tP]
    exact Nat.le_trans this bd
   refine⟨.inl ⟨U,_,SqL.of gz⟩,_,U,z.2.1,_,_,U,U,gz,sizeOk (by omega),?_⟩
   have er:prV z.2.2++[.ref e.1]=prV (z.2.2++[e]):=by unfold prV; rw[tU]; rfl
   rw[er]
   refine q _ _ (Led.old kd ne hz) ?_
   obtain⟨d1,d2,eD,eS⟩:=spl hz
   rw[eS]
   have h2:=fS h1.tail (show wL t.c_Ways W++L=(w5 t.c_Ways W++wD d1)++(z.2.1,HO.lst (prV z.2.2))::(wD d2++(wS W.S++(wT W.T++L))) by
    unfold wL
    rw[show wD W.D=wD d1++(z.2.1,HO.lst (prV z.2.2))::wD d2 by rw[eD]; show(d1++z::d2).map _=_; rw[tU,t5]]
    simp only[tR,List.cons_append])
   have h3:=hmid h2 (.lst (prV (z.2.2++[e])))
   unfold wL
   have e5:w5 t.c_Ways { W with D:=d1++(z.1,z.2.1,z.2.2++[e])::d2 }=w5 t.c_Ways W:=by
    show [_,_,(W.td,HO.dT (dkv (d1++(z.1,z.2.1,z.2.2++[e])::d2))),_,_]=_
    rw[oi (z':=(z.1,z.2.1,z.2.2++[e])) eD rfl rfl]
    rfl
   rw[e5,show wD (d1++(z.1,z.2.1,z.2.2++[e])::d2)=wD d1++(z.2.1,HO.lst (prV (z.2.2++[e])))::wD d2 by show(d1++(z.1,z.2.1,z.2.2++[e])::d2).map _=_; rw[tU,t5]]
   simpa only [tR,List.cons_append] using h3
  ·have np:=gY hn
   have h2:=h1.puti 3 U (.dT (aM (dkv W.D) (kE pl.1 pl.2) (.ref l)))
   refine⟨.inl ⟨U,_,SqL.of (h2.get 0 U)⟩,_,U,l,_,_,U,U,h2.get 0 U,sizeOk (by decide),?_⟩
   refine q _ _ (Led.new (l:=l) kd ne np) ?_
   have h3:=h2.puti 0 U (.lst (prV [e]))
   unfold wL
   have e5:w5 t.c_Ways { W with D:=W.D++[(pl,l,[e])] }=[(W.p,.ins t.c_Ways W.dx (wfl W)),(W.dx,.own W.p),(W.td,.dT (aM (dkv W.D) (kE pl.1 pl.2) (.ref l))),(W.ts,.lst (W.S.map fun z=>V.ref z.1)),(W.tc,.lst (W.T.map fun z=>V.ref z.1))]:=by
    rw[L2.putK_new _ hn]
    show [_,_,(W.td,HO.dT (dkv (W.D++[(pl,l,[e])]))),_,_]=_
    rw[show dkv (W.D++[(pl,l,[e])])=dkv W.D++[(kE pl.1 pl.2,.ref l)] by show(W.D++[(pl,l,[e])]).map _=_; rw[tU]; rfl]
    rfl
   rw[e5,show wD (W.D++[(pl,l,[e])])=wD W.D++[(l,HO.lst (prV [e]))] by show(W.D++[(pl,l,[e])]).map _=_; rw[tU]; rfl]
   have h4:=fS h3 (show _=(l,HO.lst (prV [e]))::(([(W.p,HO.ins t.c_Ways W.dx (wfl W)),(W.dx,.own W.p),(W.td,.dT (aM (dkv W.D) (kE pl.1 pl.2) (.ref l))),(W.ts,.lst (W.S.map fun z=>V.ref z.1)),(W.tc,.lst (W.T.map fun z=>V.ref z.1))]++wD W.D)++((wS W.S++wT W.T)++L)) by
    show(l,HO.lst (prV [e]))::([(W.p,HO.ins t.c_Ways W.dx (wfl W)),(W.dx,.own W.p),(W.td,.dT (aM (dkv W.D) (kE pl.1 pl.2) (.ref l))),(W.ts,.lst (W.S.map fun z=>V.ref z.1)),(W.tc,.lst (W.T.map fun z=>V.ref z.1))]++(wD W.D++(wS W.S++wT W.T))++L)=_
    simp only[tR,List.cons_append,List.nil_append])
   have h5:=h4.perm (List.perm_middle (l₁:=([(W.p,HO.ins t.c_Ways W.dx (wfl W)),(W.dx,.own W.p),(W.td,.dT (aM (dkv W.D) (kE pl.1 pl.2) (.ref l))),(W.ts,.lst (W.S.map fun z=>V.ref z.1)),(W.tc,.lst (W.T.map fun z=>V.ref z.1))]++wD W.D)) (l₂:=(wS W.S++wT W.T)++L)).symm
   refine fS h5 ?_
   simp only[tR,List.cons_append,List.nil_append]
end
theorem ju {α:Type}{P:α->Prop}{l:List α}{x:α} (h:∀ z ∈ l,P z) (hx:P x):∀ z ∈ l++[x],P z:=fun z hz=>by
 rcases tV.mp hz with hz | hz
 ·exact h z hz
 ·rw[tT.mp hz]; exact hx
section
variable {P:Program}{w:World}{K:PySem.W.Frag}{mg:Str->Option Value}{base:Heap}{t:Adr}
theorem scWi:FnScope ["self","many"] ["self","many"] (aj nJ):={}
theorem ok_Jz (T:Txt K mg t):FnOk P w K mg base CX0 1 t.f_Jz t.d_Jz ["self","many"] (sp_Winit t.c_Ways):=by
 refine T.F_Jz.ok scWi (fun vs H Q E h=>?_) (fun cdv A outer s H vs Q E hr h=>?_)
 ·obtain⟨_,_,_,_,rfl,_⟩:=h
  rfl
 ·obtain⟨p,dx,L,m,rfl,hH,bm,q⟩:=h
  refine⟨_,(ae (bj (pv 0) fH rfl)
   (ae (bj (pv 0) (dJ (esc:=aj nJ) (k:=1) ["stretch","self","many"] rfl (bh (by rfl) T.z_range (aa (pv 1) ag)) (fun _ _ _ _ _=>by exact(aq (i:=0) (show List.Nodup (["stretch","self","many"]:List Str) from by decide +kernel) rfl (Or.inl rfl))) (fun _ _ _ _ _=>by exact bA) (fun _ _ _ _ _=>by exact(aX ag)) rfl (by decide +kernel) (by decide +kernel) rfl (by decide +kernel) (by rfl) (fun _ _ h _=>h) (by decide +kernel)) rfl)
   (ai (bj (pv 0) (dJ (esc:=aj nJ) (k:=1) ["stretch","self","many"] rfl (bh (by rfl) T.z_range (aa (pv 1) ag)) (fun _ _ _ _ _=>by exact(aq (i:=0) (show List.Nodup (["stretch","self","many"]:List Str) from by decide +kernel) rfl (Or.inl rfl))) (fun _ _ _ _ _=>by exact bA) (fun _ _ _ _ _=>by exact(aX ag)) rfl (by decide +kernel) (by decide +kernel) rfl (by decide +kernel) (by rfl) (fun _ _ h _=>h) (by decide +kernel)) rfl)))),?_⟩
  rw[show L2.start ["self","many"] [V.ref p,V.int m]=([some (V.ref p),some (V.int m)]:St) from rfl]
  intro td htd
  have h1:=hH.alloc htd (.dT [])
  refine⟨_,U,p,_,dx,_,U,h1.get 1 U,T.cl_Ways,T.n_Ways_to_doors,(show 0<1000 by decide),?_⟩
  have h2:=h1.puti 1 U (.ins t.c_Ways dx [("to_doors",.ref td)])
  refine⟨_,U,_,U,by omega,by omega,fun ts hts=>?_⟩
  refine⟨fun i k zs H'=>k=m - i/\i<=m/\∃ S:List (Addr×List (Addr×Pr×Pr)),zs=S.map (fun z=>V.ref z.1)/\S.length=i/\(∀ z ∈ S,z.2=[])/\Has H' ((ts,.lst zs)::(wS S++((td,.dT [])::(p,.ins t.c_Ways dx [("to_doors",.ref td)])::(dx,.own p)::L))),⟨_,U,Nat.zero_le _,[],U,U,by simp,h2.alloc hts _⟩,?_⟩
  rintro i k zs H3 ⟨rfl,hi,S,rfl,hSl,hS,h3⟩
  refine⟨h3.get 0 U,?_⟩
  by_cases hlt:i<m
  ·refine .inr ⟨(show i<(m:Int).toNat by omega),?_⟩
   rintro x H4 ⟨rfl,rfl⟩
   refine⟨U,bJ ?_⟩
   refine⟨by decide,fun l hl=>?_⟩
   have h4:=h3.alloc hl (.lst [])
   refine⟨sizeOk (by rw[tP]; omega),h4.get 1 U,m - (i+1),by omega,U,hlt,S++[(l,[])],by rw[tU]; rfl,by simp[hSl],ju hS rfl,?_⟩
   have h5:=h4.puti 1 U (.lst (S.map (fun z=>V.ref z.1)++[.ref l]))
   refine fS ((h5.swap2).perm (.cons _ (List.perm_middle (l₁:=wS S) (l₂:=(td,HO.dT [])::(p,.ins t.c_Ways dx [("to_doors",.ref td)])::(dx,.own p)::L)).symm)) ?_
   rw[show wS (S++[(l,[])])=wS S++[(l,HO.lst [])] by show(S++[(l,[])]).map _=_; rw[tU]; rfl]
   simp only[tR,List.cons_append,List.nil_append]
  ·have ei:i=m:=by omega
   refine .inl ⟨(show(m:Int).toNat<=i by omega),?_⟩
   dsimp only[List.set]
   have h4:=h3.perm (List.perm_append_comm (l₁:=(ts,HO.lst (S.map fun z:Addr×List (Addr×Pr×Pr)=>V.ref z.1))::wS S) (l₂:=(td,HO.dT [])::(p,.ins t.c_Ways dx [("to_doors",.ref td)])::(dx,.own p)::L))
   refine⟨_,U,p,_,dx,_,U,h4.get 1 U,T.cl_Ways,T.n_Ways_to_stretches,(show 1<1000 by decide),?_⟩
   have h5:=h4.puti 1 U (.ins t.c_Ways dx [("to_doors",.ref td),("to_stretches",.ref ts)])
   refine⟨_,U,_,U,by omega,by omega,fun tc htc=>?_⟩
   obtain⟨L2,eL2⟩:∃ L2:Kn,(td,HO.dT [])::(p,.ins t.c_Ways dx [("to_doors",.ref td),("to_stretches",.ref ts)])::(dx,.own p)::(L++((ts,HO.lst (S.map fun z:Addr×List (Addr×Pr×Pr)=>V.ref z.1))::wS S))=L2:=⟨_,U⟩
   have h6:=fS h5 eL2
   refine⟨fun i k zs H'=>k=m - i/\i<=m/\∃ S:List (Addr×List Pr),zs=S.map (fun z=>V.ref z.1)/\S.length=i/\(∀ z ∈ S,z.2=[])/\Has H' ((tc,.lst zs)::(wT S++L2)),⟨_,U,Nat.zero_le _,[],U,U,by simp,h6.alloc htc _⟩,?_⟩
   clear h3 h4 h5 h6 hlt
   rintro j k zs H3 ⟨rfl,hj,T',rfl,hTl,hT,h3⟩
   refine⟨h3.get 0 U,?_⟩
   by_cases hlt:j<m
   ·refine .inr ⟨(show j<(m:Int).toNat by omega),?_⟩
    rintro x H4 ⟨rfl,rfl⟩
    refine⟨U,bJ ?_⟩
    refine⟨by decide,fun l hl=>?_⟩
    have h4:=h3.alloc hl (.lst [])
    refine⟨sizeOk (by rw[tP]; omega),h4.get 1 U,m - (j+1),by omega,U,hlt,T'++[(l,[])],by rw[tU]; rfl,by simp[hTl],ju hT rfl,?_⟩
    have h5:=h4.puti 1 U (.lst (T'.map (fun z=>V.ref z.1)++[.ref l]))
    refine fS ((h5.swap2).perm (.cons _ (List.perm_middle (l₁:=wT T') (l₂:=L2)).symm)) ?_
    rw[show wT (T'++[(l,[])])=wT T'++[(l,HO.lst (prV []))] by show(T'++[(l,[])]).map _=_; rw[tU]; rfl]
    simp only[tR,List.cons_append,List.nil_append]
    rfl
   ·refine .inl ⟨(show(m:Int).toNat<=j by omega),?_⟩
    dsimp only[List.set]
    have ej:j=m:=by omega
    have h4:=h3.perm (List.perm_append_comm (l₁:=(tc,HO.lst (T'.map fun z:Addr×List Pr=>V.ref z.1))::wT T') (l₂:=L2))
    rw[<- eL2] at h4
    refine⟨_,U,p,_,dx,_,U,h4.get 1 U,T.cl_Ways,T.n_Ways_to_callers,(show 2<1000 by decide),?_⟩
    have h5:=h4.puti 1 U (.ins t.c_Ways dx (wfl ⟨p,dx,td,ts,tc,[],S,T'⟩))
    refine q _ ⟨p,dx,td,ts,tc,[],S,T'⟩ rfl rfl (by show S.length=m; omega) (by show T'.length=m; omega) hS hT ?_
    refine Has.ac h5 ?_
    simp only[List.cons_append,List.set_cons_succ,List.set_cons_zero,wL,wD,List.map_nil,Ms.app,Ms.cons,Ms.nil,Ms.zl,Ms.zr]
    ac_rfl
end
theorem j8 {κ:Type} [DecidableEq κ] {kvs:List (κ×V)}{k:κ}{v:V}{x:κ} (h:x ∈ (aM kvs k v).map (·.1)):x ∈ kvs.map (·.1)∨x=k:=by
 unfold aM at h
 split at h
 ·left
  rw[uh] at h
  obtain⟨p,hp,e⟩:=uc.mp h
  refine uc.mpr ⟨p,hp,?_⟩
  rw[<- e]
  show p.1=(if p.1=k then(p.1,v) else p).1
  split <;> rfl
 ·rw[tU,tV] at h
  rcases h with h | h
  ·exact .inl h
  ·right; simpa using h
noncomputable def dF (ds:List (Addr×List Pr)):List (Int×Int):=ds.flatMap fun z=>z.2.map (·.2)
theorem js:∀ {ds:List (Addr×List Pr)}{k r k' r':Nat}{z z':Addr×List Pr}{e e':Pr},(dF ds).Nodup->ds[k]?=some z->z.2[r]?=some e->ds[k']?=some z'->z'.2[r']?=some e'->e.2=e'.2->k=k'/\r=r'
 | [],k,_,_,_,_,_,_,_,_,h,_,_,_,_=>by simp at h
 | u::ds,k,r,k',r',z,z',e,e',nd,h1,h2,h3,h4,he=>by
  have nd:(u.2.map (·.2)++dF ds).Nodup:=nd
  obtain⟨n1,n2,n3⟩:=List.nodup_append.mp nd
  have out:∀ {j s:Nat}{v:Addr×List Pr}{g:Pr},ds[j]?=some v->v.2[s]?=some g->g.2 ∈ dF ds:=fun hv hg=>List.mem_flatMap.mpr ⟨_,tO hv,tY (f:=fun x:Pr=>x.2) (tO hg)⟩
  cases k with
  | zero=>
   cases h1
   cases k' with
   | zero=>
    cases h3
    refine⟨U,?_⟩
    have hr:r<(u.2.map (fun x:Pr=>x.2)).length:=by rw[tP]; exact(List.getElem?_eq_some_iff.mp h2).1
    refine(List.getElem?_inj hr n1).mp ?_
    rw[tS,tS,h2,h4]
    exact congrArg some he
   | succ k'=>exact absurd he (n3 _ (tY (f:=fun x:Pr=>x.2) (tO h2)) _ (out h3 h4))
  | succ k=>
   cases k' with
   | zero=>
    cases h3
    exact absurd he.symm (n3 _ (tY (f:=fun x:Pr=>x.2) (tO h4)) _ (out h1 h2))
   | succ k'=>
    obtain⟨a,b⟩:=js n2 h1 h2 h3 h4 he
    exact⟨by rw[a],b⟩
structure LA where
 p:Addr
 dx:Addr
 y:Addr
 d:Addr
 m:Addr
 c:Addr
 r:Addr
noncomputable def lfl (A:LA):List (Str×V):=[("yard",.ref A.y),("doors",.ref A.d),("mark_rods",.ref A.m),("counter_rods",.ref A.c),("rows_at",.ref A.r)]
theorem dh (A:LA):(lfl A).lookup ("yard" : Str)=some (.ref A.y):=by kernel_rfl
theorem mJ (A:LA):(lfl A).lookup ("doors" : Str)=some (.ref A.d):=by kernel_rfl
theorem pP (A:LA):(lfl A).lookup ("mark_rods" : Str)=some (.ref A.m):=by kernel_rfl
theorem pQ (A:LA):(lfl A).lookup ("counter_rods" : Str)=some (.ref A.c):=by kernel_rfl
theorem pO (A:LA):(lfl A).lookup ("rows_at" : Str)=some (.ref A.r):=by kernel_rfl
theorem eJ (A:LA):(lfl A).lookup ("door" : Str)=none/\(lfl A).lookup ("mark_rod" : Str)=none/\(lfl A).lookup ("bit_rods" : Str)=none:=⟨by kernel_rfl,by kernel_rfl,by kernel_rfl⟩
noncomputable abbrev dsV (ds:List (Addr×List Pr)):List V:=ds.map fun z=>V.ref z.1
noncomputable abbrev crV (cr:List (Addr×List Int)):List V:=cr.map fun z=>V.ref z.1
structure LIn (C:Addr) (A:LA) (ds:List (Addr×List Pr)) (mr:List Int) (cr:List (Addr×List Int)) (L:Kn):Prop where
 p:(A.p,HO.ins C A.dx (lfl A)) ∈ L
 d:(A.d,HO.lst (dsV ds)) ∈ L
 dl:∀ z ∈ ds,(z.1,HO.lst (prV z.2)) ∈ L
 de:∀ z ∈ ds,∀ x ∈ z.2,pK2 x ∈ L
 m:(A.m,HO.lst (mr.map V.int)) ∈ L
 c:(A.c,HO.lst (crV cr)) ∈ L
 cl:∀ z ∈ cr,(z.1,HO.lst (z.2.map V.int)) ∈ L
variable{cr:List (Addr×List Int)}{ds:List (Addr×List Pr)}{mr:List Int}{C:Addr}
theorem LIn.mono {A:LA}{L L':Kn} (h:LIn C A ds mr cr L) (s:∀ z ∈ L,z ∈ L'):LIn C A ds mr cr L' :=
 ⟨s _ h.p,s _ h.d,fun z hz=>s _ (h.dl z hz),fun z hz x hx=>s _ (h.de z hz x hx),s _ h.m,s _ h.c,fun z hz=>s _ (h.cl z hz)⟩
structure RAt (kvs:List (List Key×V)) (N:Kn) (ds:List (Addr×List Pr)) (p:Nat->Nat->Prop):Prop where
 k:∀ k ∈ kvs.map (·.1),∃ z ∈ ds,∃ x ∈ z.2,k=kE x.2.1 x.2.2
 v:∀ k r z x,p k r->ds[k]?=some z->z.2[r]?=some x->∃ a,aG kvs (kE x.2.1 x.2.2)=some (.ref a)/\(a,HO.tup [.int (k:Int),.int (r:Int)]) ∈ N
variable{kvs:List (List Key×V)}
theorem RAt.put {N:Kn}{p:Nat->Nat->Prop} (h:RAt kvs N ds p) (nd:(dF ds).Nodup) {i j:Nat}{z:Addr×List Pr} (hz:ds[i]?=some z) (he:z.2[j]?=some e) (a:Addr):RAt (aM kvs (kE e.2.1 e.2.2) (.ref a)) ((a,.tup [.int (i:Int),.int (j:Int)])::N) ds (fun k r=>p k r∨(k=i/\r=j)):=by
 refine⟨fun k hk=>(j8 hk).elim (h.k k) fun c=>⟨z,tO hz,e,tO he,c⟩,fun k r z' x hp hz' hx=>?_⟩
 by_cases c:k=i/\r=j
 ·obtain⟨rfl,rfl⟩:=c
  rw[hz] at hz'
  cases hz'
  rw[he] at hx
  cases hx
  exact⟨a,by rw[aL,if_pos rfl],tM⟩
 ·obtain⟨a',h1,h2⟩:=h.v k r z' x (hp.elim id fun q=>absurd q c) hz' hx
  refine⟨a',?_,tK _ h2⟩
  rw[aL,if_neg fun q=>c (js nd hz' hx hz he (cH q))]
  exact h1
theorem RAt.sub {N:Kn}{p q:Nat->Nat->Prop} (h:RAt kvs N ds p) (s:∀ k r z x,q k r->ds[k]?=some z->z.2[r]?=some x->p k r):RAt kvs N ds q:=⟨h.k,fun k r z x a b c=>h.v k r z x (s k r z x a b c) b c⟩
inductive sp_Linit (C:Addr) (vs:List V) (H:Hp) (Q:VK) (E_:XK):Prop
 | mk (p dx y d m c:Addr) (ds:List (Addr×List Pr)) (mr:List Int) (cr:List (Addr×List Int)) (L:Kn) (_:vs=[.ref p,.ref y,.ref d,.ref m,.ref c]) (_:Has H ((p,.ins C dx [])::(dx,.own p)::L)) (_:(d,HO.lst (dsV ds)) ∈ L) (_:(∀ z ∈ ds,(z.1,HO.lst (prV z.2)) ∈ L)) (_:(∀ z ∈ ds,∀ x ∈ z.2,pK2 x ∈ L)) (_:(m,HO.lst (mr.map V.int)) ∈ L) (_:(c,HO.lst (crV cr)) ∈ L) (_:(∀ z ∈ cr,(z.1,HO.lst (z.2.map V.int)) ∈ L)) (_:ds.length<=1000) (_:(∀ z ∈ ds,z.2.length<=500)) (_:(dF ds).Nodup) (_:∀ H' A N,A.p=p->A.y=y->A.d=d->A.m=m->A.c=c->(A.p,HO.ins C A.dx (lfl A)) ∈ N->(∃ kvs,(A.r,HO.dT kvs) ∈ N/\RAt kvs N ds fun _ _=>True)->Has H' (N++L)->Q .non H'):sp_Linit C vs H Q E_
inductive sp_door (C:Addr) (vs:List V) (H:Hp) (Q:VK) (E_:XK):Prop
 | mk (A:LA) (ds:List (Addr×List Pr)) (mr:List Int) (cr:List (Addr×List Int)) (L:Kn) (k r:Nat) (z:Addr×List Pr) (x:Pr) (_:vs=[.ref A.p,.int k,.int r]) (_:(∀ z ∈ L,H z.1=some z.2)) (_:LIn C A ds mr cr L) (_:ds[k]?=some z) (_:z.2[r]?=some x) (_:Q (.ref x.1) H):sp_door C vs H Q E_
inductive sp_mark_rod (C:Addr) (vs:List V) (H:Hp) (Q:VK) (E_:XK):Prop
 | mk (A:LA) (ds:List (Addr×List Pr)) (mr:List Int) (cr:List (Addr×List Int)) (L:Kn) (k:Nat) (r:Int) (_:vs=[.ref A.p,.int k]) (_:(∀ z ∈ L,H z.1=some z.2)) (_:LIn C A ds mr cr L) (_:mr[k]?=some r) (_:Q (.int r) H):sp_mark_rod C vs H Q E_
inductive sp_bit_rods (C:Addr) (vs:List V) (H:Hp) (Q:VK) (E_:XK):Prop
 | mk (A:LA) (ds:List (Addr×List Pr)) (mr:List Int) (cr:List (Addr×List Int)) (L:Kn) (k:Nat) (z:Addr×List Int) (_:vs=[.ref A.p,.int k]) (_:(∀ z ∈ L,H z.1=some z.2)) (_:LIn C A ds mr cr L) (_:cr[k]?=some z) (_:∀ l,H l=none->Q (.ref l) (upd H l (.lst (z.2.map V.int)))):sp_bit_rods C vs H Q E_
section
variable {P:Program}{w:World}{K:PySem.W.Frag}{mg:Str->Option Value}{base:Heap}{t:Adr}
theorem scLd:FnScope ["self","stretch","row"] ["self","stretch","row"] (aj px):={}
theorem jj (T:Txt K mg t):FnOk P w K mg base CX0 2 t.f_J11 t.d_J11 ["self","stretch","row"] (sp_door t.c_Laid):=by
 refine T.F_J11.ok scLd (fun vs H Q E h=>?_) (fun cdv A outer s H vs Q E hr h=>?_)
 ·obtain⟨_,_,_,_,_,_,_,_,_,rfl,_⟩:=h
  rfl
 ·obtain⟨A,ds,mr,cr,L,k,r,z,x,rfl,hL,lin,hz,hx,q⟩:=h
  have hk:k<ds.length:=(List.getElem?_eq_some_iff.mp hz).1
  have hr':r<z.2.length:=(List.getElem?_eq_some_iff.mp hx).1
  have gd:=hL _ lin.d
  have gz:=hL _ (lin.dl z (tO hz))
  have gp:=hL _ lin.p
  have ed:(dsV ds)[k]?=some (.ref z.1):=by show(ds.map _)[k]?=_; rw[tS,hz]; rfl
  have ex:(prV z.2)[r]?=some (.ref x.1):=by unfold prV; rw[tS,hx]; rfl
  refine⟨_,(ae (ar (pcl (pL T) hr T.m_Jc T.F_Jc.kp (tD T) (aa (pv 1) (aa (aN aI (by rfl) T.z_len (by rfl) (aa (aA (pv 0) rfl) ag)) ag))))
   (ae (ar (pcl (pC T) hr T.m_Jx T.F_Jx.kp (sX T) (aa (pv 2) (aa (aN aI (by rfl) T.z_len (by rfl) (aa (av aB (aA (pv 0) rfl) (pv 1)) ag)) ag))))
   (ai (au (av aB (av aB (aA (pv 0) rfl) (pv 1) (fun _ _=>rfl)) (pv 2)))))),?_⟩
  rw[show L2.start ["self","stretch","row"] [V.ref A.p,V.int k,V.int r]=([some (V.ref A.p),some (V.int k),some (V.int r)]:St) from rfl]
  refine⟨_,U,_,U,A.p,_,A.dx,_,_,U,gp,T.cl_Laid,T.n_Laid_doors,mJ _,A.d,_,U,.inl (SqL.of gd),k,_,U,by omega,(by show(k:Int)<((ds.map _).length:Nat); rw[tP]; omega),?_⟩
  refine⟨_,U,_,U,A.p,_,A.dx,_,_,U,gp,T.cl_Laid,T.n_Laid_doors,mJ _,_,U,A.d,_,_,_,U,U,SqL.of gd,am ed,z.1,_,U,.inl (SqL.of gz),r,_,U,by omega,(by unfold prV; rw[tP]; omega),?_⟩
  exact⟨_,U,A.p,_,A.dx,_,_,U,gp,T.cl_Laid,T.n_Laid_doors,mJ _,_,U,A.d,_,_,_,U,U,SqL.of gd,am ed,_,U,z.1,_,_,_,U,U,SqL.of gz,am ex,q⟩
theorem scLm:FnScope ["self","mark"] ["self","mark"] (aj sC):={}
theorem mC (T:Txt K mg t):FnOk P w K mg base CX0 2 t.f_Jf t.d_Jf ["self","mark"] (sp_mark_rod t.c_Laid):=by
 refine T.F_Jf.ok scLm (fun vs H Q E h=>?_) (fun cdv A outer s H vs Q E hr h=>?_)
 ·obtain⟨_,_,_,_,_,_,_,rfl,_⟩:=h
  rfl
 ·obtain⟨A,ds,mr,cr,L,k,r,rfl,hL,lin,hk,q⟩:=h
  have hk':k<mr.length:=(List.getElem?_eq_some_iff.mp hk).1
  have gm:=hL _ lin.m
  have gp:=hL _ lin.p
  have em:(mr.map V.int)[k]?=some (.int r):=by rw[tS,hk]; rfl
  refine⟨_,(ae (ar (pcl (pF T) hr T.m_Jq T.F_Jq.kp (tf T) (aa (pv 1) (aa (aN aI (by rfl) T.z_len (by rfl) (aa (aA (pv 0) rfl) ag)) ag))))
   (ai (au (av aB (aA (pv 0) rfl) (pv 1))))),?_⟩
  rw[show L2.start ["self","mark"] [V.ref A.p,V.int k]=([some (V.ref A.p),some (V.int k)]:St) from rfl]
  refine⟨_,U,_,U,A.p,_,A.dx,_,_,U,gp,T.cl_Laid,T.n_Laid_mark_rods,pP _,A.m,_,U,.inl (SqL.of gm),k,_,U,by omega,(by rw[tP]; omega),?_⟩
  exact⟨_,U,A.p,_,A.dx,_,_,U,gp,T.cl_Laid,T.n_Laid_mark_rods,pP _,_,U,A.m,_,_,_,U,U,SqL.of gm,am em,q⟩
theorem scLb:FnScope ["self","counter"] ["self","counter"] (aj sD):={}
theorem pK (T:Txt K mg t):FnOk P w K mg base CX0 2 t.f_Je t.d_Je ["self","counter"] (sp_bit_rods t.c_Laid):=by
 refine T.F_Je.ok scLb (fun vs H Q E h=>?_) (fun cdv A outer s H vs Q E hr h=>?_)
 ·obtain⟨_,_,_,_,_,_,_,rfl,_⟩:=h
  rfl
 ·obtain⟨A,ds,mr,cr,L,k,z,rfl,hL,lin,hk,q⟩:=h
  have hk':k<cr.length:=(List.getElem?_eq_some_iff.mp hk).1
  have gc:=hL _ lin.c
  have gp:=hL _ lin.p
  have gz:=hL _ (lin.cl z (tO hk))
  have em:(crV cr)[k]?=some (.ref z.1):=by show(cr.map _)[k]?=_; rw[tS,hk]; rfl
  refine⟨_,(ae (ar (pcl (pM T) hr T.m_Jb T.F_Jb.kp (tF T) (aa (pv 1) (aa (aN aI (by rfl) T.z_len (by rfl) (aa (aA (pv 0) rfl) ag)) ag))))
   (ai (au (a9 ba (by rfl) T.z_list (by rfl) (aa (av aB (aA (pv 0) rfl) (pv 1)) ag))))),?_⟩
  rw[show L2.start ["self","counter"] [V.ref A.p,V.int k]=([some (V.ref A.p),some (V.int k)]:St) from rfl]
  refine⟨_,U,_,U,A.p,_,A.dx,_,_,U,gp,T.cl_Laid,T.n_Laid_counter_rods,pQ _,A.c,_,U,.inl (SqL.of gc),k,_,U,by omega,(by show(k:Int)<((cr.map _).length:Nat); rw[tP]; omega),?_⟩
  exact⟨_,U,A.p,_,A.dx,_,_,U,gp,T.cl_Laid,T.n_Laid_counter_rods,pQ _,_,U,A.c,_,_,_,U,U,SqL.of gc,am em,z.1,_,U,.inl (SqL.of gz),fun l hl=>q l hl⟩
end
section
variable {P:Program}{w:World}{K:PySem.W.Frag}{mg:Str->Option Value}{base:Heap}{t:Adr}
theorem scLi:FnScope ["self","yard","doors","mark_rods","counter_rods","stretch","ends","row","end"] ["self","yard","doors","mark_rods","counter_rods"] (aj r6):={}
theorem ok_Jy (T:Txt K mg t):FnOk P w K mg base CX0 1 t.f_Jy t.d_Jy ["self","yard","doors","mark_rods","counter_rods"] (sp_Linit t.c_Laid):=by
 refine T.F_Jy.ok scLi (fun vs H Q E h=>?_) (fun cdv A outer s H vs Q E hr h=>?_)
 ·obtain⟨_,_,_,_,_,_,_,_,_,_,rfl,_⟩:=h
  rfl
 ·obtain⟨p,dx,y,d,m,c,ds,mr,cr,L,rfl,hH,md,mdl,mde,mm,mc,mcl,bd,bz,ndF,q⟩:=h
  have hu:=cS hr
  refine⟨_,(ae (bj (pv 0) (pv 1) rfl)
   (ae (bj (pv 0) (pv 2) rfl)
   (ae (bj (pv 0) (pv 3) rfl)
   (ae (bj (pv 0) (pv 4) rfl)
   (ae (bj (pv 0) fH rfl)
   (ai (bi PassesOwn.never rfl (dI (by rfl) T.z_enumerate (aa (pv 2) ag)) (bx rfl (ay (aq (i:=5) scLi.nd rfl (Or.inl rfl)) (ay (aq (i:=6) scLi.nd rfl (Or.inl rfl)) bc)))
    (ai (bi PassesOwn.never rfl (dI (by rfl) T.z_enumerate (aa (pv 6) ag)) (bx rfl (ay (aq (i:=7) scLi.nd rfl (Or.inl rfl)) (ay (aq (i:=8) scLi.nd rfl (Or.inl rfl)) bc)))
      (ai (db hu (aA (pv 0) rfl) (pv 8) (az (aa (pv 5) (aa (pv 7) ag))) rfl))))))))))),?_⟩
  rw[show L2.start ["self","yard","doors","mark_rods","counter_rods","stretch","ends","row","end"] [V.ref p,V.ref y,V.ref d,V.ref m,V.ref c]=([some (V.ref p),some (V.ref y),some (V.ref d),some (V.ref m),some (V.ref c),none,none,none,none]:St) from rfl]
  refine⟨_,U,_,U,p,_,dx,_,U,hH.get 0 U,T.cl_Laid,T.n_Laid_yard,(show 0<1000 by decide),?_⟩
  have h1:=hH.puti 0 U (.ins t.c_Laid dx (bg ("yard" : Str) (.ref y) ([]:List (Str×V))))
  rw[show bg ("yard" : Str) (.ref y) ([]:List (Str×V))=([("yard",.ref y)]:List (Str×V)) from by kernel_rfl] at h1 ⊢
  generalize upd H p _=H1 at h1 ⊢
  refine⟨_,U,_,U,p,_,dx,_,U,h1.get 0 U,T.cl_Laid,T.n_Laid_doors,(show 1<1000 by decide),?_⟩
  have h2:=h1.puti 0 U (.ins t.c_Laid dx (bg ("doors" : Str) (.ref d) ([("yard",.ref y)]:List (Str×V))))
  rw[show bg ("doors" : Str) (.ref d) ([("yard",.ref y)]:List (Str×V))=([("yard",.ref y),("doors",.ref d)]:List (Str×V)) from by kernel_rfl] at h2 ⊢
  generalize upd H1 p _=H2 at h2 ⊢
  refine⟨_,U,_,U,p,_,dx,_,U,h2.get 0 U,T.cl_Laid,T.n_Laid_mark_rods,(show 2<1000 by decide),?_⟩
  have h3:=h2.puti 0 U (.ins t.c_Laid dx (bg ("mark_rods" : Str) (.ref m) ([("yard",.ref y),("doors",.ref d)]:List (Str×V))))
  rw[show bg ("mark_rods" : Str) (.ref m) ([("yard",.ref y),("doors",.ref d)]:List (Str×V))=([("yard",.ref y),("doors",.ref d),("mark_rods",.ref m)]:List (Str×V)) from by kernel_rfl] at h3 ⊢
  generalize upd H2 p _=H3 at h3 ⊢
  refine⟨_,U,_,U,p,_,dx,_,U,h3.get 0 U,T.cl_Laid,T.n_Laid_counter_rods,(show 3<1000 by decide),?_⟩
  have h4:=h3.puti 0 U (.ins t.c_Laid dx (bg ("counter_rods" : Str) (.ref c) ([("yard",.ref y),("doors",.ref d),("mark_rods",.ref m)]:List (Str×V))))
  rw[show bg ("counter_rods" : Str) (.ref c) ([("yard",.ref y),("doors",.ref d),("mark_rods",.ref m)]:List (Str×V))=([("yard",.ref y),("doors",.ref d),("mark_rods",.ref m),("counter_rods",.ref c)]:List (Str×V)) from by kernel_rfl] at h4 ⊢
  generalize upd H3 p _=H4 at h4 ⊢
  intro r hr0
  have h5:=h4.alloc hr0 (.dT [])
  refine⟨_,U,p,_,dx,_,U,h5.get 1 U,T.cl_Laid,T.n_Laid_rows_at,(show 4<1000 by decide),?_⟩
  have h6:=h5.puti 1 U (.ins t.c_Laid dx (bg ("rows_at" : Str) (.ref r) ([("yard",.ref y),("doors",.ref d),("mark_rods",.ref m),("counter_rods",.ref c)]:List (Str×V))))
  rw[show bg ("rows_at" : Str) (.ref r) ([("yard",.ref y),("doors",.ref d),("mark_rods",.ref m),("counter_rods",.ref c)]:List (Str×V))=lfl ⟨p,dx,y,d,m,c,r⟩ from by kernel_rfl] at h6 ⊢
  generalize upd (upd H4 r _) p _=H6 at h6 ⊢
  obtain⟨B,eB⟩:∃ B:LA,(⟨p,dx,y,d,m,c,r⟩:LA)=B:=⟨_,U⟩
  obtain rfl:B.p=p:=by rw[<- eB]
  obtain rfl:B.dx=dx:=by rw[<- eB]
  obtain rfl:B.y=y:=by rw[<- eB]
  obtain rfl:B.d=d:=by rw[<- eB]
  obtain rfl:B.m=m:=by rw[<- eB]
  obtain rfl:B.c=c:=by rw[<- eB]
  obtain rfl:B.r=r:=by rw[<- eB]
  rw[eB] at h6
  clear hH h1 h2 h3 h4 h5 eB
  have h7:Has H6 ((B.r,.dT [])::(B.p,.ins t.c_Laid B.dx (lfl B))::(B.dx,.own B.p)::([]++L)):=h6
  have hsub:∀ {N:Kn}{c1 c2 c3 z:Addr×HO},z ∈ L->z ∈ c1::c2::c3::(N++L):=fun h=>tK _ (tK _ (tK _ (tL _ h)))
  have ld:(dsV ds).length=ds.length:=tP ..
  refine⟨_,U,B.d,U,⟨_,SqL.of (h7.at_ _ (hsub md))⟩,fU (xs:=dsV ds) (fun i σ H'=>∃ (kvs:List (List Key×V)) (Nw:Kn) (o1 o2 o3 o4:Option V),σ=[some (.ref B.p),some (.ref B.y),some (.ref B.d),some (.ref B.m),some (.ref B.c),o1,o2,o3,o4] /\
   Has H' ((B.r,.dT kvs)::(B.p,.ins t.c_Laid B.dx (lfl B))::(B.dx,.own B.p)::(Nw++L))/\kvs.length<=500*i/\RAt kvs Nw ds fun k _=>k<i) ⟨[],[],_,_,_,_,U,h7,Nat.zero_le _,(fun _ h=>nomatch h),fun k _ _ _ h=>absurd h (Nat.not_lt_zero _)⟩ (fun i σ H' _ ⟨kvs,Nw,_,_,_,_,_,h8,_,_⟩=>SqL.of (h8.at_ _ (hsub md))) ?_ ?_⟩
  ·rintro i x σ H1 tp hx ⟨kvs,Nw,o1,o2,o3,o4,rfl,h8,bk,kk⟩ htp
   have hx:(ds.map fun z=>V.ref z.1)[i]?=some x:=hx
   rw[tS] at hx
   obtain⟨z,hz,rfl⟩:=Option.map_eq_some_iff.mp hx
   have hzm:=tO hz
   have hi:i<ds.length:=(List.getElem?_eq_some_iff.mp hz).1
   have h9:=h8.alloc htp (.tup [.int i,.ref z.1])
   refine⟨tp,_,U,SqT.of (h9.get 0 U),U,_,_,U,_,_,U,U,?_⟩
   dsimp only[List.set]
   have h10:=h9.tail
   have lz:(prV z.2).length=z.2.length:=by unfold prV; rw[tP]
   refine⟨_,U,z.1,U,⟨_,SqL.of (h10.at_ _ (hsub (mdl z hzm)))⟩,fU (xs:=prV z.2) (fun j σ H'=>∃ (kvs:List (List Key×V)) (Nw:Kn) (o3 o4:Option V),σ=[some (.ref B.p),some (.ref B.y),some (.ref B.d),some (.ref B.m),some (.ref B.c),some (.int i),some (.ref z.1),o3,o4] /\
    Has H' ((B.r,.dT kvs)::(B.p,.ins t.c_Laid B.dx (lfl B))::(B.dx,.own B.p)::(Nw++L))/\kvs.length<=500*i+j/\RAt kvs Nw ds fun k r=>k<i∨(k=i/\r<j)) ⟨kvs,Nw,_,_,U,h10,bk,kk.sub fun k r _ _ h _ _=>h.elim id fun q=>absurd q.2 (Nat.not_lt_zero _)⟩ (fun j σ H' _ ⟨kvs,Nw,_,_,_,h8,_,_⟩=>SqL.of (h8.at_ _ (hsub (mdl z hzm)))) ?_ ?_⟩
   ·clear h8 h9 h10 bk kk
    rintro j x σ H2 tp2 hx ⟨kvs,Nw,o3,o4,rfl,h8,bk,kk⟩ htp2
    unfold prV at hx
    rw[tS] at hx
    obtain⟨e,he,rfl⟩:=Option.map_eq_some_iff.mp hx
    have hj:j<z.2.length:=(List.getElem?_eq_some_iff.mp he).1
    have h9:=h8.alloc htp2 (.tup [.int j,.ref e.1])
    refine⟨tp2,_,U,SqT.of (h9.get 0 U),U,_,_,U,_,_,U,U,?_⟩
    dsimp only[List.set]
    have h10:=h9.tail
    refine⟨_,U,_,U,(show 2<=sizeLine by decide),fun a ha=>?_⟩
    have h11:=h10.alloc ha (.tup [.int i,.int j])
    have ge:=h11.at_ _ (tK _ (hsub (mde z hzm e (tO he))))
    have bz':=bz z hzm
    refine⟨_,U,B.p,_,B.dx,_,_,U,h11.get 2 U,T.cl_Laid,T.n_Laid_rows_at,pO _,_,U,B.r,_,U,DPut.t (k:=kE e.2.1 e.2.2) (h11.get 1 U) ge (sizeOk (by omega)),?_⟩
    have h12:=h11.puti 1 U (.dT (aM kvs (kE e.2.1 e.2.2) (.ref a)))
    refine⟨aM kvs (kE e.2.1 e.2.2) (.ref a),(a,.tup [.int i,.int j])::Nw,_,_,U,?_,by have:=bq kvs (kE e.2.1 e.2.2) (.ref a); omega,(kk.put ndF hz he a).sub fun k r _ _ h _ _=>by omega⟩
    refine Has.ac h12 ?_
    simp only[List.set_cons_succ,List.set_cons_zero,List.cons_append,Ms.app,Ms.cons]
    ac_rfl
   ·rintro σ H2 ⟨kvs,Nw,o3,o4,rfl,h8,bk,kk⟩
    have:=bz z hzm
    exact⟨kvs,Nw,_,_,_,_,U,h8,by omega,kk.sub fun k r z' x h a b=>by
     by_cases c:k=i
     ·subst c
      rw[hz] at a
      cases a
      exact .inr ⟨U,by rw[lz]; exact(List.getElem?_eq_some_iff.mp b).1⟩
     ·exact .inl (by omega)⟩
  ·rintro σ H1 ⟨kvs,Nw,o1,o2,o3,o4,rfl,h8,bk,kk⟩
   exact q _ B ((B.r,.dT kvs)::(B.p,.ins t.c_Laid B.dx (lfl B))::(B.dx,.own B.p)::Nw) rfl rfl rfl rfl rfl (tK _ tM) ⟨kvs,tM,⟨kk.k,fun k r z x _ a b=>by
    obtain⟨a',h1,h2⟩:=kk.v k r z x (by rw[ld]; exact(List.getElem?_eq_some_iff.mp a).1) a b
    exact⟨a',h1,tK _ (tK _ (tK _ h2))⟩⟩⟩ h8
end
noncomputable def Rw.dc (cr:List (Addr×List Int)):Rw->Nat
 | .bell _=>1
 | .set _ _=>1
 | .ask _ _ _=>1
 | .bump c _=>2*((cr[c.toNat]?).map (fun z=>z.2.length)).getD 0+1
 | .go _=>0
 | .fin=>0
noncomputable def Rw.outs:Rw->Nat
 | .bell _=>1
 | .set _ _=>1
 | .ask _ _ _=>2
 | .bump _ _=>2
 | .go _=>1
 | .fin=>0
noncomputable def Rw.deedy:Rw->Bool
 | .fin=>false
 | _=>true
structure ROk (mr:List Int) (cr:List (Addr×List Int)) (n:Nat):Prop where
 m:∀ r ∈ mr,0<=r/\r<n
 c:∀ z ∈ cr,∀ r ∈ z.2,0<=r/\r<n
 n:∀ z ∈ cr,z.2≠[]/\z.2.length<=8
theorem ROk.up {y y':YR} (h:ROk mr cr y.sides.length) (u:Up y y'):ROk mr cr y'.sides.length :=
 ⟨fun r hr=>⟨(h.m r hr).1,by have:=(h.m r hr).2; have:=u.sl; omega⟩,fun z hz r hr=>⟨(h.c z hz r hr).1,by have:=(h.c z hz r hr).2; have:=u.sl; omega⟩,h.n⟩
noncomputable def DD (y:YR) (L:Kn) (nd:Int) (mr:List Int) (cr:List (Addr×List Int)) (x:Int×Int):Rw->List (Int×Int)->Prop
 | .bell n,o=>∃ b:Int,Mt y L x (b,0)/\Kp y b .bell/\aG y.notes (Sum.inl b)=some (.int n)/\o=[(b,1)]
 | .set m s,o=>∃ b r:Int,mr[m.toNat]?=some r/\Mt y L x (b,s)/\Kp y b .lazy/\aG y.rods (Sum.inl b)=some (.int r)/\o=[(b,0)]
 | .ask m _ _,o=>∃ b r:Int,mr[m.toNat]?=some r/\Mt y L x (b,0)/\Kp y b .still/\aG y.rods (Sum.inl b)=some (.int r)/\o=[(b,1),(b,2)]
 | .bump c _,o=>∃ (b n:Int) (z:Addr×List Int) (zs:List (Int×Int)) (v:Int×Int),(nd<=b/\nd<=n)/\cr[c.toNat]?=some z/\Mt y L x (b,0)/\Kp y b .line/\Kp y n .line/\TT y L (b,1) zs z.2 v/\(∀ w ∈ zs,Lead y L w (n,0))/\o=[(n,1),v]
 | .go _,o=>o=[x]
 | .fin,_=>True
variable{nd:Int}{o:List (Int×Int)}
theorem DD.up {y y':YR}{L L':Kn}{x:Int×Int}{w:Rw} (h:DD y L nd mr cr x w o) (u:Up y y') (s:∀ v ∈ L,v ∈ L'):DD y' L' nd mr cr x w o:=by
 cases w with
 | bell n=>obtain⟨b,h1,h2,h3,h4⟩:=h; exact⟨b,h1.up u s,h2.up u,u.n _ _ h3,h4⟩
 | set m d=>obtain⟨b,r,h0,h1,h2,h3,h4⟩:=h; exact⟨b,r,h0,h1.up u s,h2.up u,u.r _ _ h3,h4⟩
 | ask m d e=>obtain⟨b,r,h0,h1,h2,h3,h4⟩:=h; exact⟨b,r,h0,h1.up u s,h2.up u,u.r _ _ h3,h4⟩
 | bump c r=>obtain⟨b,n,z,zs,v,hnd,h0,h1,h2,h3,h4,h5,h6⟩:=h; exact⟨b,n,z,zs,v,hnd,h0,h1.up u s,h2.up u,h3.up u,h4.up u s,fun w hw=>(h5 w hw).up u s,h6⟩
 | go _=>exact h
 | fin=>exact h
theorem kj {y:YR}{N M R:Nat} (h:Ld y N M R) (note:Int) (rod:V):aG (bE y .bell note rod).notes (Sum.inl (N:Int))=some (.int note):=by
 show aG (if Kd.bell=Kd.bell then aM y.notes (Sum.inl y.next) (.int note) else y.notes) _=_
 rw[if_pos rfl,aL,if_pos (by rw[h.nx])]
inductive sp_deed (Cy Cl:Addr) (vs:List V) (H:Hp) (Q:VK) (E_:XK):Prop
 | mk (p:Addr) (y:YR) (L:Kn) (A:LA) (ds:List (Addr×List Pr)) (mr:List Int) (cr:List (Addr×List Int)) (a:Addr) (x:Rw) (out:Pr) (N M R nr k ns:Nat) (G:List (Int×Int)) (nd:Int) (_:vs=[.ref A.p,.ref a,.ref out.1]) (_:A.y=p) (_:YIn Cy H p y L) (_:LIn Cl A ds mr cr L) (_:(a,HO.tup x.v) ∈ L) (_:pK2 out ∈ L) (_:Ld y N M R) (_:Al y (out.2::G)) (_:x.ok mr.length cr.length nr k ns) (_:x.deedy=true) (_:ROk mr cr y.sides.length) (_:N<=6000) (_:M<=25000) (_:R<=1000) (_:nd<=N) (_:∀ H' y' Nw l (zs:List Pr) N' M',Ld y' N' M' R->N'<=N+x.dc cr->M'<=M+50->Up y y'->Al y' (zs.map (·.2)++G)->zs.length=x.outs->(∀ z ∈ zs,pK2 z ∈ Nw∨z=out)->DD y' (Nw++L) nd mr cr out.2 x (zs.map (·.2))->YIn Cy H' p y' ((l,.lst (prV zs))::(Nw++L))->Q (.ref l) H'):sp_deed Cy Cl vs H Q E_
theorem dt {p:Addr}{y:YR}{L L':Kn} (Y:YIn C H p y L) (e:L=L'):YIn C H p y L':=e ▸ Y
theorem perm3 {α:Type}{a b c:α}{l:List α}:(a::b::c::l).Perm (c::a::b::l):=(List.Perm.cons a (.swap c b l)).trans (.swap c a _)
section
variable {P:Program}{w:World}{K:PySem.W.Frag}{mg:Str->Option Value}{base:Heap}{t:Adr}
theorem scDd:FnScope ["laid","row","out","yard","word","bell","point","into","done","around"] ["laid","row","out"] (aj o8):={}
theorem qW (T:Txt K mg t):FnOk P w K mg base CX0 7 t.f_J91 t.d_J91 ["laid","row","out"] (sp_deed t.c_Yard t.c_Laid):=by
 obtain⟨ds_l2,hd_Jd1_2,hb_Jd1_2⟩:=cZ T
 obtain⟨ds_l3,hd_Jd1_3,hb_Jd1_3⟩:=nt T
 obtain⟨g_lay,bw⟩:=bw T
 refine T.F_J91.ok scDd (fun vs H Q E h=>?_) (fun cdv A outer s H vs Q E hr h=>?_)
 ·obtain⟨_,_,_,_,_,_,_,_,_,_,_,_,_,_,_,_,_,_,rfl,_⟩:=h
  rfl
 ·obtain⟨p,y,L,B,ds,mr,cr,a,x,out,N,M,R,nr,k,ns,G,nd,rfl,eY,Y,lin,mx,mo,D,al,xok,xd,rok,bN,bM,bR,hnd,q⟩:=h
  refine⟨_,(ae (ax (i:=3) scDd.nd rfl (Or.inl rfl) (aA (pv 0) rfl))
   (ae (ax (i:=4) scDd.nd rfl (Or.inl rfl) (av aK (pv 1) ah))
   (ae (aD (ak aW (pv 4) aJ (ao _))
    (ae (ax (i:=5) scDd.nd rfl (Or.inl rfl) (aC (pv 3) T.cl_Yard T.M_Jd1 (cE T) hr hb_Jd1_3 hd_Jd1_3 aF (aa aJ (aa (av aK (pv 1) ah) ag))))
     (ae (ar (aC (pv 3) T.cl_Yard T.M_J21 (cF T) hr (dY T) .nil aF (@aa _ _ _ _ _ (pv 2) (@aa _ _ _ _ _ (az (aa (pv 5) (aa ah ag))) ag (by rfl)) (by rfl))))
     (ai (au (aX (@aa _ _ _ _ _ (az (aa (pv 5) (aa ah ag))) ag (by rfl)))))))
    ap)
   (ae (aD (ak aW (pv 4) aJ (ao _))
    (ae (ax (i:=6) scDd.nd rfl (Or.inl rfl) (fG (pv 3) T.cl_Yard T.M_Jd1 (cE T) (hr.mono (by decide)) bw aF (aa aJ ag) (g9 (aC (pv 0) T.cl_Laid T.M_Jf (mC T) hr (rP T) .nil aF (aa (av aK (pv 1) ah) ag)) jf)))
     (ae (ar (aC (pv 3) T.cl_Yard T.M_J21 (cF T) hr (dY T) .nil aF (@aa _ _ _ _ _ (pv 2) (@aa _ _ _ _ _ (az (aa (pv 6) (aa (av aK (pv 1) ah) ag))) ag (by rfl)) (by rfl))))
     (ai (au (aX (@aa _ _ _ _ _ (az (aa (pv 6) (aa ah ag))) ag (by rfl)))))))
    ap)
   (ae (aD (ak aW (pv 4) aJ (ao _))
    (ae (ax (i:=6) scDd.nd rfl (Or.inl rfl) (fG (pv 3) T.cl_Yard T.M_Jd1 (cE T) (hr.mono (by decide)) bw aF (aa aJ ag) (g9 (aC (pv 0) T.cl_Laid T.M_Jf (mC T) hr (rP T) .nil aF (aa (av aK (pv 1) ah) ag)) jf)))
     (ae (ar (aC (pv 3) T.cl_Yard T.M_J21 (cF T) hr (dY T) .nil aF (@aa _ _ _ _ _ (pv 2) (@aa _ _ _ _ _ (az (aa (pv 6) (aa ah ag))) ag (by rfl)) (by rfl))))
     (ai (au (aX (@aa _ _ _ _ _ (az (aa (pv 6) (aa ah ag))) (@aa _ _ _ _ _ (az (aa (pv 6) (aa ah ag))) ag (by rfl)) (by rfl)))))))
    ap)
   (ae (aD (ak aW (pv 4) aJ (ao _))
    (ae (bK (pcl (l3 T) hr T.m_tally T.F_tally.kp (oo T) (aa (pv 3) (aa (aC (pv 0) T.cl_Laid T.M_Je (pK T) hr (tw T) .nil aF (aa (av aK (pv 1) ah) ag)) ag))) (bx rfl (ay (aq (i:=7) scDd.nd rfl (Or.inl rfl)) (ay (aq (i:=8) scDd.nd rfl (Or.inl rfl)) (ay (aq (i:=9) scDd.nd rfl (Or.inl rfl)) bc)))))
     (ae (ar (aC (pv 3) T.cl_Yard T.M_J21 (cF T) hr (dY T) .nil aF (aa (pv 2) (aa (pv 7) ag))))
     (ai (au (aX (aa (pv 8) (aa (pv 9) ag)))))))
    ap)
   (ai (au (aX (aa (pv 2) ag)))))))))),?_⟩
  rw[show L2.start ["laid","row","out","yard","word","bell","point","into","done","around"] [V.ref B.p,V.ref a,V.ref out.1]=([some (V.ref B.p),some (V.ref a),some (V.ref out.1),none,none,none,none,none,none,none]:St) from rfl]
  have gB:=Y.at_ lin.p
  have ga:=Y.at_ mx
  subst eY
  refine⟨_,U,B.p,_,B.dx,_,_,U,gB,T.cl_Laid,T.n_Laid_yard,dh _,?_⟩
  dsimp only[List.set]
  refine⟨_,U,a,_,_,_,U,U,SqT.of ga,am (j:=0) rfl,?_⟩
  dsimp only[List.set]
  have fo:Fr y out.2:=al.2 _ tM
  have gal:=al.tail
  cases x with
  | fin=>cases xd
  | go r=>
   refine⟨_,U,U,_,U,ifF (sne "go" "bell") ?_⟩
   refine⟨_,U,U,_,U,ifF (sne "go" "set") ?_⟩
   refine⟨_,U,U,_,U,ifF (sne "go" "ask") ?_⟩
   refine⟨_,U,U,_,U,ifF (sne "go" "bump") ?_⟩
   refine⟨_,U,(sz_ 1),fun l hl=>?_⟩
   exact q _ y [] l [out] N M D (Nat.le_refl _) (by omega) (Up.refl _) al rfl (fun z hz=>.inr (tT.mp hz)) rfl (Y.alloc hl _)
  | bell n=>
   refine⟨_,U,U,_,U,ifT (decide_eq_true rfl) ?_⟩
   obtain⟨A1,gy⟩:=Y.obj
   refine⟨_,U,B.y,A1.dx,_,U,gy,(bQ _ _ _).1,_,U,a,_,_,_,U,U,SqT.of ga,am (j:=1) rfl,?_⟩
   refine tn0 ?_
   refine cG Y D ⟨by omega,by omega,bR⟩ .bell n .non (fun _=>xok) (fun c=>nomatch c) (fun H2 Y2=>?_)
   have D2:=D.lay .bell n .non
   have al2:=al.lay2 D .bell n .non rfl
   have up2:=D.up .bell n .non
   dsimp only[List.set]
   obtain⟨A2,gy2⟩:=Y2.obj
   refine⟨_,U,B.y,A2.dx,_,U,gy2,(cq _ _ _).2.2.1,_,U,_,U,(show 2<=sizeLine by decide),fun c0 hc0=>?_⟩
   have Y3:=Y2.alloc hc0 (.tup [.int N,.int 0])
   refine tn0 ?_
   have al3:=al2.perm (perm3 (a:=((N:Int),0)) (b:=((N:Int),1)))
   have f0:=al2.2 _ tM
   have fo2:=al3.2 _ tM
   refine ci (a:=out) (b:=(c0,(N:Int),0)) Y3 D2 (by omega) (tK _ mo) tM fo2 f0 al3.ne (fun H4 Y4=>?_)
   have D4:=D2.link (a:=out) (b:=(c0,(N:Int),0)) fo2 f0
   have al4:=Al.link (a:=out) (b:=(c0,(N:Int),0)) al3
   have up4:=up2.trans (Up.link (a:=out) (b:=(c0,(N:Int),0)) fo2 f0)
   refine⟨_,U,(show 2<=sizeLine by decide),fun c1 hc1=>?_⟩
   have Y5:=Y4.alloc hc1 (.tup [.int N,.int 1])
   refine⟨(sz_ 1),fun l hl=>?_⟩
   exact q _ _ [(c1,.tup [.int N,.int 1]),(c0,.tup [.int N,.int 0])] l [(c1,(N:Int),1)] _ _ D4 (Nat.le_refl _) (by omega) up4 al4 rfl (fun z hz=>by rw[tT.mp hz]; exact .inl tM) ⟨N,Mt.l1 (b:=(c0,(N:Int),0)) (tK _ tM) al3.ne,(Kp.lay D .bell n .non).up (Up.link (a:=out) (b:=(c0,(N:Int),0)) fo2 f0),kj D n .non,U⟩ (Y5.alloc hl _)
  | set m sd=>
   refine⟨_,U,U,_,U,ifF (sne "set" "bell") ?_⟩
   refine⟨_,U,U,_,U,ifT (decide_eq_true rfl) ?_⟩
   obtain⟨m0,m1,hsd⟩:=xok
   obtain⟨mn,rfl⟩:=Int.eq_ofNat_of_zero_le m0
   have hmn:mn<mr.length:=by omega
   have hmr:=tN hmn
   have rb:=rok.m _ (List.getElem_mem hmn)
   obtain⟨A1,gy⟩:=Y.obj
   refine⟨_,U,B.y,A1.dx,_,U,gy,(bQ _ _ _).1,?_⟩
   refine tc1 ?_
   refine⟨_,U,B.p,B.dx,_,U,gB,(eJ _).2.1,_,U,a,_,_,_,U,U,SqT.of ga,am (j:=1) rfl,?_⟩
   refine tn0 ?_
   refine⟨B,ds,mr,cr,L,mn,mr[mn],U,fun z hz=>Y.at_ hz,lin,hmr,?_⟩
   refine tn0 ?_
   refine cG Y D ⟨by omega,by omega,bR⟩ .lazy 0 (.int mr[mn]) (fun c=>nomatch c) (fun _ _=>⟨_,U,rb.1,rb.2⟩) (fun H2 Y2=>?_)
   have D2:=D.lay .lazy 0 (.int mr[mn])
   have al2:=al.lay3 D .lazy 0 (.int mr[mn]) rfl
   have up2:=D.up .lazy 0 (.int mr[mn])
   have ga2:=Y2.at_ mx
   dsimp only[List.set]
   obtain⟨A2,gy2⟩:=Y2.obj
   refine⟨_,U,B.y,A2.dx,_,U,gy2,(cq _ _ _).2.2.1,_,U,_,U,_,U,a,_,_,_,U,U,SqT.of ga2,am (j:=2) rfl,(show 2<=sizeLine by decide),fun c0 hc0=>?_⟩
   have Y3:=Y2.alloc hc0 (.tup [.int N,.int sd])
   refine tn0 ?_
   have al3:Al (bE y .lazy 0 (.int mr[mn])) (out.2::((N:Int),sd)::((N:Int),0)::G):=by
    rcases hsd with rfl | rfl
    ·exact(al2.sub (l':=((N:Int),0)::((N:Int),1)::out.2::G) (.cons₂ _ (.cons₂ _ (.cons _ (List.Sublist.refl _))))).perm (perm3.trans (.cons _ (.swap _ _ _)))
    ·exact(al2.sub (l':=((N:Int),0)::((N:Int),2)::out.2::G) (.cons₂ _ (.cons _ (.cons₂ _ (List.Sublist.refl _))))).perm (perm3.trans (.cons _ (.swap _ _ _)))
   have fo2:=al3.2 _ tM
   have fs:=al3.2 _ (tK _ tM)
   refine ci (a:=out) (b:=(c0,(N:Int),sd)) Y3 D2 (by omega) (tK _ mo) tM fo2 fs al3.ne (fun H4 Y4=>?_)
   have D4:=D2.link (a:=out) (b:=(c0,(N:Int),sd)) fo2 fs
   have al4:=Al.link (a:=out) (b:=(c0,(N:Int),sd)) al3
   have up4:=up2.trans (Up.link (a:=out) (b:=(c0,(N:Int),sd)) fo2 fs)
   refine⟨_,U,(show 2<=sizeLine by decide),fun c1 hc1=>?_⟩
   have Y5:=Y4.alloc hc1 (.tup [.int N,.int 0])
   refine⟨(sz_ 1),fun l hl=>?_⟩
   exact q _ _ [(c1,.tup [.int N,.int 0]),(c0,.tup [.int N,.int sd])] l [(c1,(N:Int),0)] _ _ D4 (Nat.le_refl _) (by omega) up4 al4 rfl (fun z hz=>by rw[tT.mp hz]; exact .inl tM) ⟨N,mr[mn],hmr,Mt.l1 (b:=(c0,(N:Int),sd)) (tK _ tM) al3.ne,(Kp.lay D .lazy 0 (.int mr[mn])).up (Up.link (a:=out) (b:=(c0,(N:Int),sd)) fo2 fs),d7 D .lazy 0 mr[mn] rfl,U⟩ (Y5.alloc hl _)
  | ask m r1 r2=>
   refine⟨_,U,U,_,U,ifF (sne "ask" "bell") ?_⟩
   refine⟨_,U,U,_,U,ifF (sne "ask" "set") ?_⟩
   refine⟨_,U,U,_,U,ifT (decide_eq_true rfl) ?_⟩
   obtain⟨m0,m1,_⟩:=xok
   obtain⟨mn,rfl⟩:=Int.eq_ofNat_of_zero_le m0
   have hmn:mn<mr.length:=by omega
   have hmr:=tN hmn
   have rb:=rok.m _ (List.getElem_mem hmn)
   obtain⟨A1,gy⟩:=Y.obj
   refine⟨_,U,B.y,A1.dx,_,U,gy,(bQ _ _ _).1,?_⟩
   refine tc1 ?_
   refine⟨_,U,B.p,B.dx,_,U,gB,(eJ _).2.1,_,U,a,_,_,_,U,U,SqT.of ga,am (j:=1) rfl,?_⟩
   refine tn0 ?_
   refine⟨B,ds,mr,cr,L,mn,mr[mn],U,fun z hz=>Y.at_ hz,lin,hmr,?_⟩
   refine tn0 ?_
   refine cG Y D ⟨by omega,by omega,bR⟩ .still 0 (.int mr[mn]) (fun c=>nomatch c) (fun _ _=>⟨_,U,rb.1,rb.2⟩) (fun H2 Y2=>?_)
   have D2:=D.lay .still 0 (.int mr[mn])
   have al2:=al.lay3 D .still 0 (.int mr[mn]) rfl
   have up2:=D.up .still 0 (.int mr[mn])
   dsimp only[List.set]
   obtain⟨A2,gy2⟩:=Y2.obj
   refine⟨_,U,B.y,A2.dx,_,U,gy2,(cq _ _ _).2.2.1,_,U,_,U,(show 2<=sizeLine by decide),fun c0 hc0=>?_⟩
   have Y3:=Y2.alloc hc0 (.tup [.int N,.int 0])
   refine tn0 ?_
   have al3:Al (bE y .still 0 (.int mr[mn])) (out.2::((N:Int),0)::((N:Int),1)::((N:Int),2)::G):=al2.perm ((List.Perm.cons _ perm3).trans (.swap _ _ _))
   have fo2:=al3.2 _ tM
   have fs:=al3.2 _ (tK _ tM)
   refine ci (a:=out) (b:=(c0,(N:Int),0)) Y3 D2 (by omega) (tK _ mo) tM fo2 fs al3.ne (fun H4 Y4=>?_)
   have D4:=D2.link (a:=out) (b:=(c0,(N:Int),0)) fo2 fs
   have al4:=Al.link (a:=out) (b:=(c0,(N:Int),0)) al3
   have up4:=up2.trans (Up.link (a:=out) (b:=(c0,(N:Int),0)) fo2 fs)
   refine⟨_,U,(show 2<=sizeLine by decide),fun c1 hc1=>?_⟩
   have Y5:=Y4.alloc hc1 (.tup [.int N,.int 1])
   refine⟨_,U,(show 2<=sizeLine by decide),fun c2 hc2=>?_⟩
   have Y6:=Y5.alloc hc2 (.tup [.int N,.int 2])
   refine⟨(sz_ 2),fun l hl=>?_⟩
   refine q _ _ [(c2,.tup [.int N,.int 2]),(c1,.tup [.int N,.int 1]),(c0,.tup [.int N,.int 0])] l [(c1,(N:Int),1),(c2,(N:Int),2)] _ _ D4 (Nat.le_refl _) (by omega) up4 al4 rfl (fun z hz=>?_) ⟨N,mr[mn],hmr,Mt.l1 (b:=(c0,(N:Int),0)) (tK _ (tK _ tM)) al3.ne,(Kp.lay D .still 0 (.int mr[mn])).up (Up.link (a:=out) (b:=(c0,(N:Int),0)) fo2 fs),d7 D .still 0 mr[mn] rfl,U⟩ (Y6.alloc hl _)
   rcases tX.mp hz with rfl | hz
   ·exact .inl (tK _ tM)
   ·rw[tT.mp hz]; exact .inl tM
  | bump c r=>
   refine⟨_,U,U,_,U,ifF (sne "bump" "bell") ?_⟩
   refine⟨_,U,U,_,U,ifF (sne "bump" "set") ?_⟩
   refine⟨_,U,U,_,U,ifF (sne "bump" "ask") ?_⟩
   refine⟨_,U,U,_,U,ifT (decide_eq_true rfl) ?_⟩
   obtain⟨m0,m1,_⟩:=xok
   obtain⟨cn,rfl⟩:=Int.eq_ofNat_of_zero_le m0
   have hcn:cn<cr.length:=by omega
   have hcr:=tN hcn
   have hcm:=List.getElem_mem hcn
   have rb:=rok.c _ hcm
   obtain⟨rne,rl8⟩:=rok.n _ hcm
   have edc:(Rw.bump (cn:Int) r).dc cr=2*cr[cn].2.length+1:=by
    show 2*((cr[((cn:Int)).toNat]?).map (fun z=>z.2.length)).getD 0+1=_
    rw[Int.toNat_natCast,hcr]; rfl
   refine⟨_,U,_,U,B.p,B.dx,_,U,gB,(eJ _).2.2,_,U,a,_,_,_,U,U,SqT.of ga,am (j:=1) rfl,?_⟩
   refine tn0 ?_
   refine⟨B,ds,mr,cr,L,cn,cr[cn],U,fun z hz=>Y.at_ hz,lin,hcr,fun rl hrl=>?_⟩
   have Y1:=Y.alloc hrl (.lst (cr[cn].2.map V.int))
   refine tn0 ?_
   refine⟨B.y,y,_,rl,cr[cn].2,N,M,R,U,Y1,tM,rb,rne,D,by omega,by omega,bR,fun H2 y2 Nw tp e0 e1 e2 M2 D2 bM2 up2 old2 f0 f1 f2 n01 n02 n12 b0 b1 b2 k0 k1 k2 ⟨n,zs,ea,eb,kN,kn,tt,ld⟩ Y2=>?_⟩
   refine⟨tp,_,U,SqT.of (Y2.at_ tM),U,_,_,U,_,_,U,_,_,U,U,?_⟩
   dsimp only[List.set]
   obtain⟨A2,gy2⟩:=Y2.obj
   have hold:∀ x ∈ out.2::G,x.1<(N:Int):=fun x hx=>D.lt (al.2 x hx).1
   have al2:Al y2 (out.2::e0.2::e1.2::e2.2::G):=by
    have no:∀ (e:Pr),(N:Int)<=e.2.1->e.2 ∉ out.2::G:=fun e he c=>by have:=hold _ c; omega
    have a0:=List.nodup_cons.mp al.1
    refine⟨List.nodup_cons.mpr ⟨fun c=>?_,List.nodup_cons.mpr ⟨fun c=>?_,List.nodup_cons.mpr ⟨fun c=>?_,List.nodup_cons.mpr ⟨fun c=>no e2 b2 (tK _ c),a0.2⟩⟩⟩⟩,fun x hx=>?_⟩
    ·rcases tX.mp c with c | c
     ·exact no e0 b0 (by rw[<- c]; exact tM)
     ·rcases tX.mp c with c | c
      ·exact no e1 b1 (by rw[<- c]; exact tM)
      ·rcases tX.mp c with c | c
       ·exact no e2 b2 (by rw[<- c]; exact tM)
       ·exact a0.1 c
    ·rcases tX.mp c with c | c
     ·exact n01 c
     ·rcases tX.mp c with c | c
      ·exact n02 c
      ·exact no e0 b0 (tK _ c)
    ·rcases tX.mp c with c | c
     ·exact n12 c
     ·exact no e1 b1 (tK _ c)
    ·rcases tX.mp hx with rfl | hx
     ·exact old2 _ fo
     ·rcases tX.mp hx with rfl | hx
      ·exact f0
      ·rcases tX.mp hx with rfl | hx
       ·exact f1
       ·rcases tX.mp hx with rfl | hx
        ·exact f2
        ·exact old2 _ (gal.2 x hx)
   have fo2:=al2.2 _ tM
   refine⟨_,U,B.y,A2.dx,_,U,gy2,(cq _ _ _).2.2.1,_,U,_,U,?_⟩
   refine tn0 ?_
   refine ci (a:=out) (b:=e0) Y2 D2 (by omega) (tK _ (tL _ (tK _ mo))) (tK _ (tQ _ k0)) fo2 f0 al2.ne (fun H4 Y4=>?_)
   have D4:=D2.link (a:=out) (b:=e0) fo2 f0
   have al4:=Al.link (a:=out) (b:=e0) al2
   have up4:=up2.trans (Up.link (a:=out) (b:=e0) fo2 f0)
   refine⟨_,U,_,U,(sz_ 2),fun l hl=>?_⟩
   have Y5:=Y4.alloc hl (.lst (prV [e1,e2]))
   refine q _ _ ((tp,.tup [.ref e0.1,.ref e1.1,.ref e2.1])::(Nw++[(rl,.lst (cr[cn].2.map V.int))])) l [e1,e2] _ _ D4 (by rw[edc]; exact Nat.le_refl _) (by omega) up4 al4 rfl (fun z hz=>?_) ?_ ?_
   ·rcases tX.mp hz with rfl | hz
    ·exact .inl (tK _ (tQ _ k1))
    ·rw[tT.mp hz]; exact .inl (tK _ (tQ _ k2))
   ·have l4:=Up.link (a:=out) (b:=e0) fo2 f0
    have s1:∀ v ∈ Nw++(rl,HO.lst (cr[cn].2.map V.int))::L,v ∈ ((tp,HO.tup [.ref e0.1,.ref e1.1,.ref e2.1])::(Nw++[(rl,.lst (cr[cn].2.map V.int))]))++L:=fun v hv=>by
     simp only[List.cons_append,tR,List.nil_append]
     exact tK _ hv
    have m1:Mt (cz y2 out e0) (((tp,HO.tup [.ref e0.1,.ref e1.1,.ref e2.1])::(Nw++[(rl,.lst (cr[cn].2.map V.int))]))++L) out.2 e0.2:=Mt.l1 (s1 _ (tQ _ k0)) al2.ne
    rw[ea] at m1
    refine⟨N,n,cr[cn],zs,e2.2,⟨hnd,by rw[eb] at b1; exact Int.le_trans hnd b1⟩,hcr,m1,kN.up l4,kn.up l4,tt.up l4 s1,fun w hw=>(ld w hw).up l4 s1,?_⟩
    show [e1.2,e2.2]=_
    rw[eb]
   ·exact dt Y5 (by simp only[List.cons_append,tR,List.nil_append])
end
theorem YIn.ac {p:Addr}{y:YR}{L L':Kn} (Y:YIn C H p y L) (e:Ms.mk L=Ms.mk L'):YIn C H p y L':=Y.perm (Ms.perm e)
theorem YIn.mid {p:Addr}{y:YR}{X Y:Kn}{a:Addr}{o:HO} (h:YIn C H p y (X++(a,o)::Y)) (o':HO) (hn:∀ z:Pr,(a,o)≠pK2 z:=by intro z c; simp[pK2] at c):YIn C (upd H a o') p y (X++(a,o')::Y) :=
 ((h.perm List.perm_middle).put0 o' hn).perm List.perm_middle.symm
theorem wL_T {C:Addr}{i:Nat}{z z':Addr×List Pr} (h:W.T[i]?=some z) (e:z'.1=z.1):∃ X Y,wL C W=X++(z.1,HO.lst (prV z.2))::Y/\wL C { W with T:=W.T.set i z' }=X++(z.1,HO.lst (prV z'.2))::Y:=by
 obtain⟨a,b,e1,e2⟩:=spl h
 have er:(W.T.set i z').map (fun z=>V.ref z.1)=W.T.map (fun z=>V.ref z.1):=by rw[e2,e1,tU,tU,t5,t5,e]
 refine⟨w5 C W++(wD W.D++(wS W.S++wT a)),wT b,?_,?_⟩
 ·unfold wL
  rw[show wT W.T=wT a++(z.1,HO.lst (prV z.2))::wT b by rw[e1]; show(a++z::b).map _=_; rw[tU,t5]]
  simp only[tR]
 ·unfold wL
  rw[show w5 C { W with T:=W.T.set i z' }=w5 C W by show [_,_,_,_,(W.tc,HO.lst ((W.T.set i z').map fun z=>V.ref z.1))]=_; rw[er]; rfl]
  rw[show wT (W.T.set i z')=wT a++(z.1,HO.lst (prV z'.2))::wT b by rw[e2]; show(a++z'::b).map _=_; rw[tU,t5,e]]
  simp only[tR]
variable{L:Kn}{D':List ((Int×Int)×Addr×List Pr)}
theorem WOk.led {Pl:Int×Int->Prop}{pl:Int×Int} (h:WOk W L Pl) (l:Led W.D D' e pl) (hp:Pl pl) (he:pK2 e ∈ L):WOk { W with D:=D' } L Pl:=by
 refine⟨l.kd,l.ne,fun z hz=>?_,fun z hz x hx=>?_,h.eS,h.eT⟩
 ·rcases l.pk z hz with e | e
  ·rw[e]; exact hp
  ·obtain⟨u,hu,e⟩:=uc.mp e
   rw[<- e]; exact h.pd u hu
 ·rcases (l.io z.1 x).mp ⟨z,hz,rfl,hx⟩ with ⟨u,hu,_,hx⟩ | ⟨_,rfl⟩
  ·exact h.eD u hu x hx
  ·exact he
theorem WS.pendD (W:WS) {x:Int×Int} (h:(dE D').Perm (x::dE W.D)):(WS.pend { W with D:=D' }).Perm (x::W.pend):=List.Perm.append_right _ h
theorem WS.pendT (W:WS) {T':List (Addr×List Pr)}{x:Int×Int} (h:(tE T').Perm (x::tE W.T)):(WS.pend { W with T:=T' }).Perm (x::W.pend):=(List.Perm.append_left _ (List.Perm.append_left _ h)).trans ((List.Perm.append_left _ List.perm_middle).trans List.perm_middle)
noncomputable def Rw.rc (cr:List (Addr×List Int)):Rw->Nat
 | .fin=>1
 | x=>x.dc cr+x.outs
noncomputable def WS.cN (W:WS):Nat:=W.dn+3*W.sn+W.tn
noncomputable def WS.cM (W:WS):Nat:=4*W.dn+12*W.sn+4*W.tn
theorem Mt.mv {y:YR}{L L':Kn}{x z:Int×Int} (h:Mt y L x z) (s:∀ b:Pr,pK2 b ∈ L->pK2 b ∈ L'):Mt y L' x z:=by
 obtain⟨b,h1,h2⟩:=h
 exact⟨b,h1,s (b,z) h2⟩
theorem Ch.mv {y:YR}{L L':Kn}{n:Nat}{x z:Int×Int} (h:Ch y L n x z) (s:∀ b:Pr,pK2 b ∈ L->pK2 b ∈ L'):Ch y L' n x z:=by
 induction h with
 | refl x=>exact .refl x
 | still m k ha _ ih=>exact .still (m.mv s) k ha ih
theorem Lead.mv {y:YR}{L L':Kn}{x z:Int×Int} (h:Lead y L x z) (s:∀ b:Pr,pK2 b ∈ L->pK2 b ∈ L'):Lead y L' x z:=by
 obtain⟨b,h1,n,w,h2,h3,h4⟩:=h
 exact⟨b,h1,n,w,h2,h3.mv s,h4.mv s⟩
theorem TT.mv {y:YR}{L L':Kn}{x o:Int×Int}{rs:List Int} (h:TT y L x l rs o) (s:∀ b:Pr,pK2 b ∈ L->pK2 b ∈ L'):TT y L' x l rs o:=by
 induction h with
 | nil=>exact .nil
 | snoc _ m1 m2 k hr ih=>exact .snoc ih (m1.mv s) (m2.mv s) k hr
theorem DD.mv {y:YR}{L L':Kn}{x:Int×Int}{w:Rw} (h:DD y L nd mr cr x w o) (s:∀ b:Pr,pK2 b ∈ L->pK2 b ∈ L'):DD y L' nd mr cr x w o:=by
 cases w with
 | bell n=>obtain⟨b,h1,h2⟩:=h; exact⟨b,h1.mv s,h2⟩
 | set m d=>obtain⟨b,r,h0,h1,h2⟩:=h; exact⟨b,r,h0,h1.mv s,h2⟩
 | ask m d e=>obtain⟨b,r,h0,h1,h2⟩:=h; exact⟨b,r,h0,h1.mv s,h2⟩
 | bump c r=>obtain⟨b,n,z,zs,v,hnd,h0,h1,h2,h3,h4,h5,h6⟩:=h; exact⟨b,n,z,zs,v,hnd,h0,h1.mv s,h2,h3,h4.mv s,fun w hw=>(h5 w hw).mv s,h6⟩
 | go _=>exact h
 | fin=>exact h
theorem kU (C:Addr) (W:WS) (b:Pr):pK2 b ∉ wL C W:=by
 unfold wL
 intro h
 rcases tV.mp h with h | h
 ·simp at h
 rcases tV.mp h with h | h
 ·obtain⟨z,_,e⟩:=uc.mp h
  injection e with _ e
  cases e
 rcases tV.mp h with h | h
 ·obtain⟨z,_,e⟩:=uc.mp h
  injection e with _ e
  cases e
 ·obtain⟨z,_,e⟩:=uc.mp h
  injection e with _ e
  cases e
theorem nW {Cy Cw:Addr}{p:Addr}{y:YR}{Q:V->Hp->Prop}{b wp:Addr}{pl:Int×Int} (ew:W.p=wp) (Y:YIn Cy H p y (wL Cw W++L)) (mb:pK2 (b,pl) ∈ L) (kd:(W.D.map (·.1)).Nodup) (ne:∀ z ∈ W.D,z.2.2≠[]) (bd:W.dn<=5000)
  (q:∀ H' D',Led W.D D' e pl->YIn Cy H' p y (wL Cw { W with D:=D' }++L)->Q .non H'):sp_lead Cw [.ref wp,.ref e.1,.ref b] H Q E0:=by
 subst ew
 obtain⟨A,rfl,h,re⟩:=Y.re
 have ac:∀ {a b c:Kn},Ms.mk (a++(b++c))=Ms.mk (b++(a++c)):=fun {a b c}=>by
  simp only[Ms.app]
  ac_rfl
 exact⟨W,yL Cy A y++L,e,b,pl,U,Has.ac h ac,tL _ mb,kd,ne,bd,fun H' D' ld h'=>q H' D' ld (re rfl (fun z hz=>(tV.mp hz).elim (fun c=>absurd c (kU _ _ z)) fun c=>tL _ c) (Has.ac h' ac))⟩
noncomputable def inS (W:WS) (s:Nat) (o:Int×Int) (b:Int×Int):Prop:=∃ z,W.S[s]?=some z/\∃ c ∈ z.2,c.2.1.2=o/\c.2.2.2=b
noncomputable def inT (W:WS) (s:Nat) (o:Int×Int):Prop:=∃ z,W.T[s]?=some z/\∃ c ∈ z.2,c.2=o
noncomputable def S0 (W:WS):Prop:=∀ z ∈ W.S,z.2=[]
structure Wup (W W':WS):Prop where
 d:∀ q x,inD W.D q x->inD W'.D q x
 s:∀ s o b,inS W s o b->inS W' s o b
 t:∀ s o,inT W s o->inT W' s o
 z:S0 W->S0 W'
theorem Wup.refl (W:WS):Wup W W:=⟨fun _ _ h=>h,fun _ _ _ h=>h,fun _ _ h=>h,id⟩
theorem Wup.trans {A B C:WS} (h:Wup A B) (g:Wup B C):Wup A C:=⟨fun q x i=>g.d q x (h.d q x i),fun s o b i=>g.s s o b (h.s s o b i),fun s o i=>g.t s o (h.t s o i),fun i=>g.z (h.z i)⟩
noncomputable def RowW (y:YR) (L:Kn) (nd:Int) (mr:List Int) (cr:List (Addr×List Int)) (W:WS) (k r:Nat) (o:Int×Int):Rw->Prop
 | .fin=>inT W k o
 | x=>∃ zs:List Pr,DD y L nd mr cr o x (zs.map (·.2))/\∀ (j:Nat) (z:Pr) (pl:Int×Int),zs[j]?=some z->(x.onw k r)[j]?=some pl->inD W.D pl z
theorem RowW.of {y:YR}{k r:Nat}{o:Int×Int}{x:Rw} (hd:x.deedy=true) (zs:List Pr) (h:DD y L nd mr cr o x (zs.map (·.2))) (g:∀ (j:Nat) (z:Pr) (pl:Int×Int),zs[j]?=some z->(x.onw k r)[j]?=some pl->inD W.D pl z):RowW y L nd mr cr W k r o x:=by
 cases x <;> first | exact⟨zs,h,g⟩ | cases hd
theorem RowW.up {y y':YR}{L L':Kn}{W W':WS}{k r:Nat}{o:Int×Int}{x:Rw} (h:RowW y L nd mr cr W k r o x) (u:Up y y') (s:∀ b:Pr,pK2 b ∈ L->pK2 b ∈ L') (w:Wup W W'):RowW y' L' nd mr cr W' k r o x:=by
 cases x with
 | fin=>exact w.t _ _ h
 | bell n=>obtain⟨zs,h1,h2⟩:=h; exact⟨zs,(h1.up u (fun _ h=>h)).mv s,fun j z pl a b=>w.d _ _ (h2 j z pl a b)⟩
 | set m d=>obtain⟨zs,h1,h2⟩:=h; exact⟨zs,(h1.up u (fun _ h=>h)).mv s,fun j z pl a b=>w.d _ _ (h2 j z pl a b)⟩
 | ask m d e=>obtain⟨zs,h1,h2⟩:=h; exact⟨zs,(h1.up u (fun _ h=>h)).mv s,fun j z pl a b=>w.d _ _ (h2 j z pl a b)⟩
 | bump c d=>obtain⟨zs,h1,h2⟩:=h; exact⟨zs,(h1.up u (fun _ h=>h)).mv s,fun j z pl a b=>w.d _ _ (h2 j z pl a b)⟩
 | go n=>obtain⟨zs,h1,h2⟩:=h; exact⟨zs,(h1.up u (fun _ h=>h)).mv s,fun j z pl a b=>w.d _ _ (h2 j z pl a b)⟩
inductive sp_layrow (Cy Cl Cw:Addr) (vs:List V) (H:Hp) (Q:VK) (E_:XK):Prop
 | mk (p:Addr) (y:YR) (L:Kn) (A:LA) (ds:List (Addr×List Pr)) (mr:List Int) (cr:List (Addr×List Int)) (W:WS) (a:Addr) (x:Rw) (k r:Nat) (z:Addr×List Pr) (e:Pr) (N M R nr:Nat) (G:List (Int×Int)) (Pl:Int×Int->Prop) (nd:Int) (_:vs=[.ref A.p,.ref W.p,.ref a,.int k,.int r]) (_:A.y=p) (_:YIn Cy H p y (wL Cw W++L)) (_:LIn Cl A ds mr cr L) (_:(a,HO.tup x.v) ∈ L) (_:ds[k]?=some z) (_:z.2[r]?=some e) (_:Ld y N M R) (_:Al y (W.pend++((e.2.1,1)::G))) (_:x.ok mr.length cr.length nr k W.S.length) (_:ROk mr cr y.sides.length) (_:WOk W L Pl) (_:k<W.T.length) (_:(∀ q ∈ x.onw k r,Pl q)) (_:N+W.cN<=4900) (_:M+W.cM<=20000) (_:R<=1000) (_:nd<=N) (_:∀ H' y' Nw W' N' M',W'.p=W.p->W'.S.length=W.S.length->W'.T.length=W.T.length->Ld y' N' M' R->N'+W'.cN<=N+W.cN+x.rc cr->M'+W'.cM<=M+W.cM+60->Up y y'->Al y' (W'.pend++G)->WOk W' (Nw++L) Pl->Wup W W'->RowW y' (Nw++L) nd mr cr W' k r (e.2.1,1) x->YIn Cy H' p y' (wL Cw W'++(Nw++L))->Q .non H'):sp_layrow Cy Cl Cw vs H Q E_
variable{K:PySem.W.Frag}
theorem mU {a b:Addr}{xs ys:List V}{g:TG}{tb:TS}{D:Ends}{σ:St} (hl:xs.length=ys.length) (Pv:Nat->St->Hp->Prop) (h0:Pv 0 σ H) (ha:∀ i σ H,i<=xs.length->Pv i σ H->SqL K H a xs/\SqL K H b ys)
  (hs:∀ i x y σ H p,xs[i]?=some x->ys[i]?=some y->Pv i σ H->H p=none->g (.ref p) σ (upd H p (.tup [x,y])) fun σ2 H2=>tb { D with nx:=Pv (i+1),ct:=Pv (i+1),bk:=D.nx } σ2 H2) (hd:∀ σ H,Pv xs.length σ H->D.nx σ H) :
  ∃ W:Nat->Nat->St->Hp->Prop,(∃ m,W 0 m σ H)/\∀ i m σ H,W i m σ H ->
   ((Itz K a b).stop i H/\D.nx σ H)∨((Itz K a b).go i H/\∃ N:St->Hp->Prop,(∀ σ' H',N σ' H'->∃ m',m'<m/\W (i+1) m' σ' H')/\∀ x H',(Itz K a b).yld i H x H'->g x σ H' fun σ2 H2=>tb { D with nx:=N,ct:=N,bk:=D.nx } σ2 H2):=by
 refine⟨fun i m σ H=>m=xs.length - i/\i<=xs.length/\Pv i σ H,⟨_,U,Nat.zero_le _,h0⟩,?_⟩
 rintro i m σ H ⟨rfl,hi,hp⟩
 obtain⟨qa,qb⟩:=ha i σ H hi hp
 by_cases c:i<xs.length
 ·refine .inr ⟨⟨xs,xs[i],ys,ys[i]'(by omega),qa,tN c,qb,tN (by omega)⟩,Pv (i+1),fun σ' H' h'=>⟨_,by omega,U,by omega,h'⟩,?_⟩
  rintro v H' ⟨p,x,y,rfl,hpn,rfl,hx,hy⟩
  exact hs i x y σ H p (hx _ qa) (hy _ qb) hp hpn
 ·have e:i=xs.length:=by omega
  subst e
  exact .inl ⟨⟨xs,ys,qa,qb,.inl (Nat.le_refl _)⟩,hd σ H hp⟩
theorem Rw.outs_onw {x:Rw} (h:x.deedy=true) (k n:Int):(x.onw k n).length=x.outs:=by cases x <;> first | rfl | cases h
theorem Rw.nce:∀ {x:Rw},x.deedy=true->¬ (V.str x.ws=V.str ("call" : Str))/\¬ (V.str x.ws=V.str ("end" : Str))
 | .bell _,_=>⟨(show ¬ (V.str ("bell" : Str)=V.str ("call" : Str)) by decide +kernel),(show ¬ (V.str ("bell" : Str)=V.str ("end" : Str)) by decide +kernel)⟩
 | .set _ _,_=>⟨(show ¬ (V.str ("set" : Str)=V.str ("call" : Str)) by decide +kernel),(show ¬ (V.str ("set" : Str)=V.str ("end" : Str)) by decide +kernel)⟩
 | .ask _ _ _,_=>⟨(show ¬ (V.str ("ask" : Str)=V.str ("call" : Str)) by decide +kernel),(show ¬ (V.str ("ask" : Str)=V.str ("end" : Str)) by decide +kernel)⟩
 | .bump _ _,_=>⟨(show ¬ (V.str ("bump" : Str)=V.str ("call" : Str)) by decide +kernel),(show ¬ (V.str ("bump" : Str)=V.str ("end" : Str)) by decide +kernel)⟩
 | .go _,_=>⟨(show ¬ (V.str ("go" : Str)=V.str ("call" : Str)) by decide +kernel),(show ¬ (V.str ("go" : Str)=V.str ("end" : Str)) by decide +kernel)⟩
section
variable {P:Program}{w:World}{K:PySem.W.Frag}{mg:Str->Option Value}{base:Heap}{t:Adr}
theorem scLw:FnScope ["laid","ways","row","stretch","number","out","end","place"] ["laid","ways","row","stretch","number"] (aj oX):={}
theorem qR (T:Txt K mg t):FnOk P w K mg base CX0 8 t.f_Ji1 t.d_Ji1 ["laid","ways","row","stretch","number"] (sp_layrow t.c_Yard t.c_Laid t.c_Ways):=by
 refine T.F_Ji1.ok scLw (fun vs H Q E h=>?_) (fun cdv A outer s H vs Q E hr h=>?_)
 ·obtain⟨_,_,_,_,_,_,_,_,_,_,_,_,_,_,_,_,_,_,_,_,_,rfl,_⟩:=h
  rfl
 ·obtain⟨p,y,L,B,ds,mr,cr,W,a,x,k,r,z,e,N,M,R,nr,G,Pl,nd,rfl,eY,Y,lin,mx,hz,he,D,al,xok,rok,wok,hk,hpl,bN,bM,bR,hnd,q⟩:=h
  refine⟨_,(ae (ax (i:=5) scLw.nd rfl (Or.inl rfl) (az (aa (av aK (aC (pv 0) T.cl_Laid T.M_J11 (jj T) hr (nq T) .nil aF (aa (pv 3) (aa (pv 4) ag))) ah) (aa ah ag))))
   (ai (aD (ak aW (av aK (pv 2) ah) aJ (ao _))
    (ai (ar (bS PySem.F.plainAttrs_list PySem.F.slot_list_append PySem.F.type_list_append aU (av aB (aA (pv 1) rfl) (av aK (pv 2) ah (fun _ _=>rfl))) (@aa _ _ _ _ _ (az (@aa _ _ _ _ _ (pv 5) (@aa _ _ _ _ _ (az (aa (pv 3) (aa (aw aQ (pv 4) ah) ag))) ag (by rfl)) (by rfl))) ag (by rfl)))))
    (ai (aD (ak aW (av aK (pv 2) ah) aJ (ao _))
      (ai (ar (bS PySem.F.plainAttrs_list PySem.F.slot_list_append PySem.F.type_list_append aU (av aB (aA (pv 1) rfl) (pv 3)) (aa (pv 5) ag))))
      (ai (bi PassesOwn.never rfl (jg (by rfl) T.z_zip (aa (pcl (qW T) hr T.m_J91 T.F_J91.kp (b_J91 T) (aa (pv 0) (aa (pv 2) (aa (pv 5) ag)))) (aa (pcl (qO T) hr T.m_Jm1 T.F_Jm1.kp (b_Jm1 T) (aa (pv 2) (aa (pv 3) (aa (pv 4) ag)))) ag))) (bx rfl (ay (aq (i:=6) scLw.nd rfl (Or.inl rfl)) (ay (aq (i:=7) scLw.nd rfl (Or.inl rfl)) bc)))
        (ai (ar (aC (pv 1) T.cl_Ways T.M_J31 (q5 T) hr (b_J31 T) .nil aF (aa (pv 6) (aa (pv 7) ag)))))))))))),?_⟩
  rw[show L2.start ["laid","ways","row","stretch","number","out","end","place"] [V.ref B.p,V.ref W.p,V.ref a,V.int k,V.int r]=([some (V.ref B.p),some (V.ref W.p),some (V.ref a),some (V.int k),some (V.int r),none,none,none]:St) from rfl]
  have inL:∀ {v:Addr×HO},v ∈ L->v ∈ wL t.c_Ways W++L:=fun h=>tL _ h
  have gB:=Y.at_ (inL lin.p)
  have hzm:=tO hz
  have ge:=Y.at_ (inL (lin.de z hzm e (tO he)))
  refine⟨_,U,B.p,B.dx,_,U,gB,(eJ _).1,_,U,_,U,?_⟩
  refine tn0 ?_
  refine⟨B,ds,mr,cr,L,k,r,z,e,U,fun v hv=>Y.at_ (inL hv),lin,hz,he,?_⟩
  refine⟨e.1,_,_,_,U,U,SqT.of ge,am (j:=0) rfl,(show 2<=sizeLine by decide),fun o ho=>?_⟩
  dsimp only[List.set]
  have Y1:=(Y.alloc ho (.tup [.int e.2.1,.int 1])).perm (List.perm_middle (l₁:=wL t.c_Ways W) (l₂:=L)).symm
  have ga:=Y1.at_ (tL _ (tK _ mx))
  have gw:H W.p=some (.ins t.c_Ways W.dx (wfl W)):=Y.at_ (z:=(W.p,.ins t.c_Ways W.dx (wfl W))) (tQ _ tM)
  have gW:=Y1.at_ (z:=(W.p,.ins t.c_Ways W.dx (wfl W))) (tQ _ tM)
  have lin1:=lin.mono (fun v hv=>tK (o,HO.tup [.int e.2.1,.int 1]) hv)
  have wok1:=wok.mono (fun v hv=>tK (o,HO.tup [.int e.2.1,.int 1]) hv)
  generalize upd H o _=H1 at Y1 ga gW ⊢
  have wp:Al y ((e.2.1,1)::(W.pend++G)):=al.perm List.perm_middle
  refine⟨_,U,a,_,_,_,U,U,SqT.of ga,am (j:=0) rfl,U,_,U,?_⟩
  by_cases hd:x.deedy=true
  ·obtain⟨hc,hf⟩:=Rw.nce hd
   refine ifF (decide_eq_false hc) ?_
   refine⟨_,U,a,_,_,_,U,U,SqT.of ga,am (j:=0) rfl,U,_,U,ifF (decide_eq_false hf) ?_⟩
   refine⟨_,U,_,U,_,U,?_⟩
   refine tn0 ?_
   refine⟨p,y,_,B,ds,mr,cr,a,x,(o,e.2.1,1),N,M,R,nr,k,W.S.length,W.pend++G,nd,U,eY,Y1,lin1.mono (fun v hv=>tL _ hv),tL _ (tK _ mx),tL _ tM,D,wp,xok,hd,rok,by omega,by omega,bR,hnd,fun H2 y2 N2 l zs N' M' D2 bN2 bM2 up2 al2 lz mz dd2 Y2=>?_⟩
   have gr:(a,HO.tup x.v) ∈ (l,HO.lst (prV zs))::(N2++(wL t.c_Ways W++(o,HO.tup [.int e.2.1,.int 1])::L)):=tK _ (tL _ (tL _ (tK _ mx)))
   refine⟨_,U,_,U,_,U,?_⟩
   refine tn0 ?_
   obtain⟨A2,eA2,h2,re2⟩:=Y2.rac
   refine⟨a,x,k,r,_,U,h2,tL _ gr,fun H3 l2 ps eps h3=>?_⟩
   refine tn0 ?_
   subst eA2
   obtain⟨L3,eL3⟩:∃ L3:Kn,(l2,HO.lst (prV ps))::(l,HO.lst (prV zs))::(PrK ps++(N2++((o,HO.tup [.int e.2.1,.int 1])::L)))=L3:=⟨_,U⟩
   have Y3:YIn t.c_Yard H3 A2.p y2 (wL t.c_Ways W++L3):=by
    refine re2 (X:=(l2,HO.lst (prV ps))::PrK ps) h3 (Ms.perm ?_)
    rw[<- eL3]
    simp only[Ms.app,Ms.cons]
    ac_rfl
   clear h2 h3
   have dd3:DD y2 L3 nd mr cr (e.2.1,1) x (zs.map (·.2)):=dd2.mv fun b hb=>by
    rw[<- eL3]
    rcases tV.mp hb with h | h
    ·exact tK _ (tK _ (tL _ (tQ _ h)))
    ·rcases tV.mp h with h | h
     ·exact absurd h (kU _ _ b)
     ·exact tK _ (tK _ (tL _ (tL _ h)))
   have toL3:∀ v ∈ L,v ∈ L3:=fun v hv=>by rw[<- eL3]; exact tK _ (tK _ (tL _ (tL _ (tK _ hv))))
   have ml2:(l2,HO.lst (prV ps)) ∈ L3:=by rw[<- eL3]; exact tM
   have ml:(l,HO.lst (prV zs)) ∈ L3:=by rw[<- eL3]; exact tK _ tM
   have mps:∀ v ∈ ps,pK2 v ∈ L3:=fun v hv=>by rw[<- eL3]; exact tK _ (tK _ (tQ _ (tY (f:=fun z:Pr=>(z.1,HO.tup [.int z.2.1,.int z.2.2])) hv)))
   have mzs:∀ v ∈ zs,pK2 v ∈ L3:=fun v hv=>by
    rw[<- eL3]
    rcases mz v hv with h | rfl
    ·exact tK _ (tK _ (tL _ (tQ _ h)))
    ·exact tK _ (tK _ (tL _ (tL _ tM)))
   have lps:ps.length=zs.length:=by rw[lz,<- Rw.outs_onw hd (k:Int) (r:Int),<- eps,tP]
   have lpv:∀ l:List Pr,(prV l).length=l.length:=fun l=>by unfold prV; rw[tP]
   have o2:x.outs<=2:=by cases x <;> simp only[Rw.outs] <;> decide
   refine⟨l,l2,U,⟨_,SqL.of (Y3.at_ (tL _ ml))⟩,⟨_,SqL.of (Y3.at_ (tL _ ml2))⟩,mU (xs:=prV zs) (ys:=prV ps) (by rw[lpv,lpv,lps]) (fun j σ H'=>∃ (W':WS) (u1 u2:Option V),σ=[some (.ref B.p),some (.ref W.p),some (.ref a),some (.int k),some (.int r),some (.ref o),u1,u2]/\W'.p=W.p/\W'.S=W.S/\W'.T=W.T /\
    YIn t.c_Yard H' A2.p y2 (wL t.c_Ways W'++L3)/\WOk W' L3 Pl/\W'.dn=W.dn+j/\Al y2 (W'.pend++((zs.drop j).map (·.2)++G))/\Wup W W'/\∀ (i:Nat) (z:Pr) (pl:Int×Int),i<j->zs[i]?=some z->(x.onw k r)[i]?=some pl->inD W'.D pl z) ⟨W,_,_,U,U,U,U,Y3,wok.mono toL3,U,?_,Wup.refl _,fun i z pl h=>absurd h (Nat.not_lt_zero _)⟩ (fun j σ H' _ ⟨W',u1,u2,_,_,_,_,Y',_⟩=>⟨SqL.of (Y'.at_ (tL _ ml)),SqL.of (Y'.at_ (tL _ ml2))⟩) ?_ ?_⟩
   ·refine al2.perm ?_
    rw[<- tR,<- tR]
    exact List.Perm.append_right _ List.perm_append_comm
   ·rintro j v1 v2 σ H4 tp hv1 hv2 ⟨W',u1,u2,rfl,e1,e2,e3,Y4,wok4,dn4,al4,wu4,io4⟩ htp
    unfold prV at hv1 hv2
    rw[tS] at hv1 hv2
    obtain⟨d,hd1,rfl⟩:=Option.map_eq_some_iff.mp hv1
    obtain⟨pl,hp1,rfl⟩:=Option.map_eq_some_iff.mp hv2
    have hj:j<zs.length:=(List.getElem?_eq_some_iff.mp hd1).1
    have Y5:=Y4.alloc htp (.tup [.ref d.1,.ref pl.1])
    refine⟨tp,_,U,SqT.of (Y5.at_ tM),U,_,_,U,_,_,U,U,?_⟩
    dsimp only[List.set]
    have Y6:=Y5.drop
    have gW':=Y6.at_ (z:=(W'.p,.ins t.c_Ways W'.dx (wfl W'))) (tQ _ tM)
    rw[e1] at gW'
    refine⟨_,U,W.p,W'.dx,_,U,gW',wfl_n _,_,U,_,U,?_⟩
    refine tn0 ?_
    have hpm:pl.2 ∈ x.onw k r:=by rw[<- eps]; exact tY (f:=fun z:Pr=>z.2) (tO hp1)
    have bdn:W'.dn<=5000:=by rw[dn4]; unfold WS.cN at bN; omega
    refine nW (b:=pl.1) (pl:=pl.2) e1 Y6 (mps pl (tO hp1)) wok4.kd wok4.ne bdn (fun H7 D' ld Y7=>?_)
    have hdm:=tO hd1
    refine⟨{ W' with D:=D' },_,_,U,e1,e2,e3,Y7,wok4.led ld (hpl _ hpm) (mzs d hdm),?_,?_,wu4.trans ⟨fun q x h=>(ld.io q x).mpr (.inl h),fun _ _ _ h=>h,fun _ _ h=>h,id⟩,fun i z q hi hz hq=>?_⟩
    ·have:=ld.pm.length_eq
     rw[t6] at this
     show(dE D').length=_
     rw[this]
     have h:(dE W'.D).length=W.dn+j:=dn4
     omega
    ·refine al4.perm ?_
     have edr:zs.drop j=d::zs.drop (j+1):=by rw[List.drop_eq_getElem_cons hj,(List.getElem?_eq_some_iff.mp hd1).2]
     rw[edr,t5,List.cons_append]
     exact List.perm_middle.trans (List.Perm.append_right _ (W'.pendD ld.pm).symm)
    ·rcases Nat.lt_succ_iff_lt_or_eq.mp hi with hi | rfl
     ·exact(ld.io q z).mpr (.inl (io4 i z q hi hz hq))
     ·rw[hd1] at hz
      cases hz
      rw[<- eps,tS,hp1] at hq
      cases hq
      exact(ld.io _ _).mpr (.inr ⟨U,U⟩)
   ·rintro σ H4 ⟨W',u1,u2,rfl,e1,e2,e3,Y4,wok4,dn4,al4,wu4,io4⟩
    rw[lpv] at dn4 al4
    rw[List.drop_length,List.map_nil,List.nil_append] at al4
    have er:x.rc cr=x.dc cr+x.outs:=by cases x <;> first | rfl | cases hd
    refine q H4 y2 ((l2,HO.lst (prV ps))::(l,HO.lst (prV zs))::(PrK ps++(N2++[(o,HO.tup [.int e.2.1,.int 1])]))) W' N' M' e1 (by rw[e2]) (by rw[e3]) D2 ?_ ?_ up2 al4 ?_ wu4 (RowW.of hd zs (dd3.mv fun b hb=>?_) fun j z pl hz hq=>io4 j z pl (by rw[lpv]; exact(List.getElem?_eq_some_iff.mp hz).1) hz hq) ?_
    ·unfold WS.cN
     rw[er,dn4,show W'.sn=W.sn by unfold WS.sn; rw[e2],show W'.tn=W.tn by unfold WS.tn; rw[e3]]
     omega
    ·unfold WS.cM
     rw[dn4,show W'.sn=W.sn by unfold WS.sn; rw[e2],show W'.tn=W.tn by unfold WS.tn; rw[e3]]
     omega
    ·refine wok4.mono fun v hv=>?_
     rw[<- eL3] at hv
     simpa only [List.cons_append,tR,List.nil_append] using hv
    ·rw[<- eL3] at hb
     simpa only [List.cons_append,tR,List.nil_append] using hb
    ·refine dt Y4 ?_
     rw[<- eL3]
     simp only[List.cons_append,tR,List.nil_append]
  ·cases x with
   | bell _=>exact absurd rfl hd
   | set _ _=>exact absurd rfl hd
   | ask _ _ _=>exact absurd rfl hd
   | bump _ _=>exact absurd rfl hd
   | go _=>exact absurd rfl hd
   | fin=>
    refine ifF (sne "end" "call") ?_
    refine⟨_,U,a,_,_,_,U,U,SqT.of ga,am (j:=0) rfl,U,_,U,ifT (decide_eq_true rfl) ?_⟩
    have hT:=tN hk
    obtain⟨zT,ezT⟩:∃ zT,W.T[k]=zT:=⟨_,U⟩
    rw[ezT] at hT
    have gts:=Y1.at_ (z:=(W.tc,HO.lst (W.T.map fun z=>V.ref z.1))) (tQ _ (by unfold wL; simp))
    have gz:=Y1.at_ (z:=(zT.1,HO.lst (prV zT.2))) (tQ _ (by
     unfold wL
     exact tL _ (tL _ (tL _ (tY (f:=fun z:Addr×List Pr=>(z.1,HO.lst (prV z.2))) (tO hT))))))
    have lT:(zT.2.map (·.2)).length<=W.tn:=mV (f:=fun z:Addr×List Pr=>z.2.map (·.2)) hT
    have eT:(W.T.map fun z=>V.ref z.1)[k]?=some (.ref zT.1):=by rw[tS,hT]; rfl
    refine⟨_,U,W.p,_,W.dx,_,_,U,gW,T.cl_Ways,T.n_Ways_to_callers,oI _,_,U,W.tc,_,_,_,U,U,SqL.of gts,am eT,.inl ⟨U,_,SqL.of gz⟩,_,U,?_⟩
    refine tn0 ?_
    refine⟨zT.1,_,_,U,U,gz,sizeOk (by unfold prV; rw[tP] at lT ⊢; unfold WS.cN at bN; omega),?_⟩
    obtain⟨z',ez'⟩:∃ z':Addr×List Pr,(zT.1,zT.2++[(o,e.2.1,1)])=z':=⟨_,U⟩
    obtain⟨X,X2,eX,eX'⟩:=wL_T (C:=t.c_Ways) (z':=z') hT (by rw[<- ez'])
    have ev:prV zT.2++[.ref o]=prV z'.2:=by rw[<- ez']; unfold prV; rw[tU]; rfl
    rw[ev]
    have Y4:YIn t.c_Yard _ p y (X++(zT.1,HO.lst (prV zT.2))::(X2++((o,.tup [.int e.2.1,.int 1])::L))):=dt Y1 (by rw[eX]; simp only[tR,List.cons_append])
    have Y5:=Y4.mid (.lst (prV z'.2))
    have pm:(tE (W.T.set k z')).Perm ((e.2.1,1)::tE W.T):=by
     unfold tE
     exact jR (z':=z') (x:=(e.2.1,1)) hT (by rw[<- ez',tU]; rfl)
    have etn:(WS.tn { W with T:=W.T.set k z' })=W.tn+1:=by
     have:=pm.length_eq
     rw[t6] at this
     exact this
    refine q _ y [(o,.tup [.int e.2.1,.int 1])] { W with T:=W.T.set k z' } N M rfl rfl (List.length_set ..) D ?_ ?_ (Up.refl _) ?_ ?_ ?_ ?_ ?_
    ·show N+(W.dn+3*W.sn+WS.tn { W with T:=W.T.set k z' })<=N+(W.dn+3*W.sn+W.tn)+1
     rw[etn]; omega
    ·show M+(4*W.dn+12*W.sn+4*WS.tn { W with T:=W.T.set k z' })<=M+(4*W.dn+12*W.sn+4*W.tn)+60
     rw[etn]; omega
    ·exact wp.perm (List.Perm.append_right G (W.pendT pm).symm)
    ·have w0:=wok.mono (fun v (hv:v ∈ L)=>(tL [(o,HO.tup [.int e.2.1,.int 1])] hv))
     refine⟨w0.kd,w0.ne,w0.pd,w0.eD,w0.eS,fun u hu v hv=>?_⟩
     rcases List.mem_or_eq_of_mem_set hu with hu | rfl
     ·exact w0.eT u hu v hv
     ·rw[<- ez'] at hv
      rcases tV.mp hv with hv | hv
      ·exact w0.eT _ (tO hT) v hv
      ·rw[tT.mp hv]
       exact tQ _ tM
    ·refine⟨fun _ _ h=>h,fun _ _ _ h=>h,fun s' o' ⟨z,hz,c',hc',h'⟩=>?_,id⟩
     by_cases cs:k=s'
     ·subst cs
      rw[hT] at hz
      cases hz
      refine⟨z',?_,c',?_,h'⟩
      ·show(W.T.set k z')[k]?=_
       rw[List.getElem?_set,if_pos rfl,if_pos hk]
      ·rw[<- ez']; exact tQ _ hc'
     ·refine⟨z,?_,c',hc',h'⟩
      show(W.T.set k z')[s']?=_
      rw[List.getElem?_set,if_neg cs]; exact hz
    ·refine⟨z',?_,(o,e.2.1,1),?_,U⟩
     ·show(W.T.set k z')[k]?=_
      rw[List.getElem?_set,if_pos rfl,if_pos hk]
     ·rw[<- ez']; exact tL _ tM
    ·refine dt Y5 ?_
     rw[eX']
     simp only[tR,List.cons_append,List.nil_append]
end
theorem apc {α:Type}{a b c:List α}:(a++(b++c)).Perm (b++(a++c)):=by
 rw[<- tR a b c,<- tR b a c]
 exact List.Perm.append_right _ List.perm_append_comm
theorem Al.lay1 {y:YR}{N M R:Nat} (h:Ld y N M R) (g:Al y l) (k:Kd) (note:Int) (rod:V) (hk:k.many=1):Al (bE y k note rod) (((N:Int),0)::l):=by
 refine⟨List.nodup_cons.mpr ⟨fun c=>(g.2 _ c).ne h rfl,g.1⟩,fun x hx=>?_⟩
 rcases tX.mp hx with rfl | hx
 ·exact Fr.new h k note rod (Int.le_refl _) (by rw[hk]; decide)
 ·exact(g.2 x hx).lay h k note rod
theorem iO {p lo:Addr}{y:YR}{zs:List Pr}{z:Pr}{N M R:Nat}{G:List (Int×Int)}{Q:V->Hp->Prop} (Y:YIn C H p y L) (ml:(lo,HO.lst (prV zs)) ∈ L) (mzs:∀ x ∈ zs,pK2 x ∈ L) (mz:pK2 z ∈ L) (D:Ld y N M R) (al:Al y (z.2::(zs.map (·.2)++G)))
  (bN:N+zs.length<=8000) (bM:M+4*zs.length<=29000) (bR:R<=1000) (q:∀ H' y' Nw M',Ld y' (N+(zs.length - 1)) M' R->M'<=M+4*zs.length->Up y y'->Al y' G->(∀ x ∈ zs,Lead y' (Nw++L) x.2 z.2)->YIn C H' p y' (Nw++L)->Q .non H'):sp_merge C [.ref p,.ref lo,.ref z.1] H Q E0:=by
 obtain⟨n1,n2⟩:=List.nodup_cons.mp al.1
 have n3:=List.nodup_append.mp n2
 refine⟨p,y,L,lo,zs,z,N,M,R,U,Y,ml,mzs,mz,D,n3.1,fun c=>n1 (tQ _ c),fun x hx=>al.2 _ (tK _ (tQ _ (tY (f:=fun x:Pr=>x.2) hx))),al.2 _ tM,bN,bM,bR,fun H' y' Nw M' D' _ _ _ bM' up old ld Y'=>q H' y' Nw M' D' bM' up ?_ (fun x hx=>⟨_,by rw[D'.nx]; omega,ld x hx⟩) Y'⟩
 exact⟨n3.2.1,fun x hx=>old x (al.2 _ (tK _ (tL _ hx))) (fun c=>n3.2.2 x c x hx rfl) (fun c=>n1 (by rw[<- c]; exact tL _ hx))⟩
theorem kT {b:Pr}{X Y:Kn} (h:pK2 b ∈ X++(wL C W++Y)):pK2 b ∈ X++Y:=by
 rcases tV.mp h with h | h
 ·exact tQ _ h
 ·rcases tV.mp h with h | h
  ·exact absurd h (kU _ _ b)
  ·exact tL _ h
noncomputable def EndW (y:YR) (L:Kn) (ends:List Pr):Prop:=∃ n:Int,Kp y n .stop/\∀ x ∈ ends,Lead y L x.2 (n,0)
theorem EndW.up {y y':YR}{L L':Kn}{ends:List Pr} (h:EndW y L ends) (u:Up y y') (s:∀ b:Pr,pK2 b ∈ L->pK2 b ∈ L'):EndW y' L' ends:=by
 obtain⟨n,h1,h2⟩:=h
 exact⟨n,h1.up u,fun x hx=>((h2 x hx).up u (fun _ h=>h)).mv s⟩
inductive sp_lcalls (Cy Cw:Addr) (vs:List V) (H:Hp) (Q:VK) (E_:XK):Prop
 | mk (p:Addr) (y:YR) (L:Kn) (W:WS) (k:Nat) (zS:Addr×List (Addr×Pr×Pr)) (zT:Addr×List Pr) (N M R:Nat) (G:List (Int×Int)) (Pl:Int×Int->Prop) (_:vs=[.ref p,.ref W.p,.int k]) (_:YIn Cy H p y (wL Cw W++L)) (_:W.S[k]?=some zS) (_:W.T[k]?=some zT) (_:zS.2=[]) (_:Ld y N M R) (_:Al y (dE W.D++(zS.2.map (fun c=>c.2.1.2)++(zT.2.map (·.2)++G)))) (_:WOk W L Pl) (_:Pl ((k:Int),0)) (_:N+W.dn+3*zS.2.length+zT.2.length<=4800) (_:M+4*W.dn+12*zS.2.length+4*zT.2.length<=20000) (_:R<=1000) (_:∀ H' y' Nw D' N' M',Ld y' N' M' R->N'+(dE D').length<=N+W.dn+3*zS.2.length+zT.2.length+2->M'+4*(dE D').length<=M+4*W.dn+12*zS.2.length+4*zT.2.length+10->Up y y'->Al y' (dE D'++G)->WOk { W with D:=D' } (Nw++L) Pl->(∀ q x,inD W.D q x->inD D' q x)->EndW y' (Nw++L) zT.2->YIn Cy H' p y' (wL Cw { W with D:=D' }++(Nw++L))->Q .non H'):sp_lcalls Cy Cw vs H Q E_
theorem wL_mS {k:Nat}{z:Addr×List (Addr×Pr×Pr)} (h:W.S[k]?=some z):(z.1,HO.lst (z.2.map fun c=>V.ref c.1)) ∈ wL C W:=by
 unfold wL
 exact tL _ (tL _ (tQ _ (tY (f:=fun z:Addr×List (Addr×Pr×Pr)=>(z.1,HO.lst (z.2.map fun c=>V.ref c.1))) (tO h))))
theorem wL_mT {k:Nat}{z:Addr×List Pr} (h:W.T[k]?=some z):(z.1,HO.lst (prV z.2)) ∈ wL C W:=by
 unfold wL
 exact tL _ (tL _ (tL _ (tY (f:=fun z:Addr×List Pr=>(z.1,HO.lst (prV z.2))) (tO h))))
theorem pZ :(W.ts,HO.lst (W.S.map fun z=>V.ref z.1)) ∈ wL C W:=by unfold wL; simp
theorem p0 :(W.tc,HO.lst (W.T.map fun z=>V.ref z.1)) ∈ wL C W:=by unfold wL; simp
theorem wL_mp :(W.p,HO.ins C W.dx (wfl W)) ∈ wL C W:=tM
section
variable {P:Program}{w:World}{K:PySem.W.Frag}{mg:Str->Option Value}{base:Heap}{t:Adr}
theorem scFn:FnScope ["yard","many","line","leaves","point"] ["yard","many"] (aj oS):={}
theorem qL (T:Txt K mg t):FnOk P w K mg base CX0 5 t.f_fan t.d_fan ["yard","many"] qq:=T.F_fan.ok scFn (fun _ _ _ _ h=>h.elim) (fun _ _ _ _ _ _ _ _ _ h=>h.elim)
theorem scLo:FnScope ["yard","ways","end","place","both","inward","outward"] ["yard","ways","end","place"] (aj sw):={}
theorem pI (T:Txt K mg t):FnOk P w K mg base CX0 6 t.f_Jl t.d_Jl ["yard","ways","end","place"] qq:=T.F_Jl.ok scLo (fun _ _ _ _ h=>h.elim) (fun _ _ _ _ _ _ _ _ _ h=>h.elim)
theorem scLk2:FnScope ["yard","ways","stretch","calls","root","leaves","leaf","out","behind"] ["yard","ways","stretch"] (aj sf):={}
theorem ok_Ju (T:Txt K mg t):FnOk P w K mg base CX0 7 t.f_Ju t.d_Ju ["yard","ways","stretch"] (sp_lcalls t.c_Yard t.c_Ways):=by
 obtain⟨ds_l2,hd_Jd1_2,hb_Jd1_2⟩:=cZ T
 refine T.F_Ju.ok scLk2 (fun vs H Q E h=>?_) (fun cdv A outer s H vs Q E hr h=>?_)
 ·obtain⟨_,_,_,_,_,_,_,_,_,_,_,_,rfl,_⟩:=h
  rfl
 ·obtain⟨p,y,L,W,k,zS,zT,N,M,R,G,Pl,rfl,Y,hS,hT,hc,D,al,wok,hpl,bN,bM,bR,q⟩:=h
  refine⟨_,(ae (ax (i:=3) scLk2.nd rfl (Or.inl rfl) (av aB (aA (pv 1) rfl) (pv 2)))
   (ae (aD (b7 (dD (pv 3) (by intro _; rfl)))
    (ae (ar (pcl (dN T) hr T.m_merge T.F_merge.kp (fq T) (@aa _ _ _ _ _ (pv 0) (@aa _ _ _ _ _ (av aB (aA (pv 1) rfl) (pv 2)) (@aa _ _ _ _ _ (az (aa (aC (pv 0) T.cl_Yard T.M_Jd1 (cE T) hr hb_Jd1_2 hd_Jd1_2 aF (aa aJ ag)) (aa ah ag))) ag (by rfl)) (by rfl)) (by rfl))))
     (ai jJ))
    ap)
   (ae (bK (pcl (qL T) hr T.m_fan T.F_fan.kp (b_fan T) (aa (pv 0) (aa (aN aI (by rfl) T.z_len (by rfl) (aa (pv 3) ag)) ag))) (bx rfl (ay (aq (i:=4) scLk2.nd rfl (Or.inl rfl)) (ay (aq (i:=5) scLk2.nd rfl (Or.inl rfl)) bc))))
   (ae (ar (pcl (dN T) hr T.m_merge T.F_merge.kp (fq T) (aa (pv 0) (aa (av aB (aA (pv 1) rfl) (pv 2)) (aa (pcl (pI T) hr T.m_Jl T.F_Jl.kp (tq T) (@aa _ _ _ _ _ (pv 0) (@aa _ _ _ _ _ (pv 1) (@aa _ _ _ _ _ (pv 4) (@aa _ _ _ _ _ (az (aa (pv 2) (aa ah ag))) ag (by rfl)) (by rfl)) (by rfl)) (by rfl))) ag)))))
   (ai (bi PassesOwn.never rfl (jg (by rfl) T.z_zip (aa (pv 5) (aa (pv 3) ag))) (bx rfl (ay (aq (i:=6) scLk2.nd rfl (Or.inl rfl)) (ay (bx rfl (ay (aq (i:=7) scLk2.nd rfl (Or.inl rfl)) (ay (aq (i:=8) scLk2.nd rfl (Or.inl rfl)) bc))) bc)))
    (ai (ar (aC (pv 0) T.cl_Yard T.M_J21 (cF T) hr (dY T) .nil aF (aa (pv 7) (aa (pcl (pI T) hr T.m_Jl T.F_Jl.kp (tq T) (aa (pv 0) (aa (pv 1) (aa (pv 6) (aa (pv 8) ag))))) ag))))))))))),?_⟩
  rw[show L2.start ["yard","ways","stretch","calls","root","leaves","leaf","out","behind"] [V.ref p,V.ref W.p,V.int k]=([some (V.ref p),some (V.ref W.p),some (V.int k),none,none,none,none,none,none]:St) from rfl]
  have gW:=Y.at_ (tQ _ wL_mp)
  have eS:(W.S.map fun z=>V.ref z.1)[k]?=some (.ref zS.1):=by rw[tS,hS]; rfl
  have eT:(W.T.map fun z=>V.ref z.1)[k]?=some (.ref zT.1):=by rw[tS,hT]; rfl
  have mT:∀ x ∈ zT.2,pK2 x ∈ L:=fun x hx=>wok.eT zT (tO hT) x hx
  have mS:=fun c hc=>wok.eS zS (tO hS) c hc
  refine⟨_,U,W.p,_,W.dx,_,_,U,gW,T.cl_Ways,T.n_Ways_to_stretches,wfl_s _,_,U,W.ts,_,_,_,U,U,SqL.of (Y.at_ (tQ _ pZ)),am eS,?_⟩
  dsimp only[List.set]
  have gS:=Y.at_ (tQ _ (wL_mS hS))
  have lS:(zS.2.map fun c=>V.ref c.1).length=zS.2.length:=tP ..
  refine⟨_,U,false,.inl ⟨_,SqL.of gS,by rw[hc]; rfl⟩,dP ?_⟩
  rw[hc,List.map_nil,List.nil_append] at al
  refine⟨_,U,_,U,W.p,_,W.dx,_,_,U,gW,T.cl_Ways,T.n_Ways_to_callers,oI _,_,U,W.tc,_,_,_,U,U,SqL.of (Y.at_ (tQ _ p0)),am eT,?_⟩
  obtain⟨A1,gy⟩:=Y.obj
  refine⟨_,U,p,A1.dx,_,U,gy,(bQ _ _ _).1,?_⟩
  refine tc1 ?_
  refine cG Y D ⟨by omega,by omega,bR⟩ .stop 0 .non (fun c=>nomatch c) (fun c=>nomatch c) (fun H2 Y2=>?_)
  have D2:=D.lay .stop 0 .non
  have al2:=al.lay1 D .stop 0 .non rfl
  have up2:=D.up .stop 0 .non
  have k2:Kp _ N .stop:=Kp.lay D .stop 0 .non
  refine⟨(show 2<=sizeLine by decide),fun c0 hc0=>?_⟩
  have Y3:=Y2.alloc hc0 (.tup [.int N,.int 0])
  refine tn0 ?_
  refine iO (z:=(c0,(N:Int),0)) (zs:=zT.2) (G:=dE W.D++G) Y3 (tK _ (tQ _ (wL_mT hT))) (fun x hx=>tK _ (tL _ (mT x hx))) tM D2 (al2.perm (.cons _ ?_)) (by omega) (by omega) bR (fun H4 y4 N4 M4 D4 bM4 up4 al4 ld4 Y4=>?_)
  ·rw[<- tR,<- tR]
   exact List.Perm.append_right _ List.perm_append_comm
  refine q H4 y4 (N4++[(c0,.tup [.int N,.int 0])]) W.D _ M4 D4 ?_ ?_ (up2.trans up4) al4 (wok.mono fun v hv=>tL _ hv) (fun _ _ h=>h) ⟨N,k2.up up4,fun x hx=>(ld4 x hx).mv fun b hb=>?_⟩ (Y4.ac (by simp only[Ms.app,Ms.cons,Ms.nil,Ms.zr]; ac_rfl))
  ·show N+1+(zT.2.length - 1)+W.dn<=_; rw[hc,List.length_nil]; omega
  ·show M4+4*W.dn<=_; rw[hc,List.length_nil]; omega
  ·have hb':pK2 b ∈ (N4++[(c0,HO.tup [.int N,.int 0])])++(wL t.c_Ways W++L):=by simpa only [tR,List.cons_append,List.nil_append] using hb
   exact kT hb'
end
theorem iH (A:PA):(pfl A).lookup ("rows" : Str)=none:=by kernel_rfl
inductive sp_prows (C:Addr) (vs:List V) (H:Hp) (Q:VK) (E_:XK):Prop
 | mk (A:PA) (ms ws:List Int) (ss:Ss) (L:Kn) (k:Nat) (z:Addr×List (Addr×Rw)) (_:vs=[.ref A.p,.int k]) (_:Has H L) (_:PIn C A ms ws ss L) (_:ss[k]?=some z) (_:∀ H' l,Has H' ((l,.lst (rwV z.2))::L)->Q (.ref l) H'):sp_prows C vs H Q E_
section
variable {P:Program}{w:World}{K:PySem.W.Frag}{mg:Str->Option Value}{base:Heap}{t:Adr}
theorem scPs:FnScope ["self","stretch"] ["self","stretch"] (aj sx):={}
theorem pJ (T:Txt K mg t):FnOk P w K mg base CX0 2 t.f_Jk t.d_Jk ["self","stretch"] (sp_prows t.c_Program):=by
 refine T.F_Jk.ok scPs (fun vs H Q E h=>?_) (fun cdv A outer s H vs Q E hr h=>?_)
 ·obtain⟨_,_,_,_,_,_,_,rfl,_⟩:=h
  rfl
 ·obtain⟨A,ms,ws,ss,L,k,z,rfl,hH,pin,hz,q⟩:=h
  have hL:∀ {z:Addr×HO},z ∈ L->H z.1=some z.2:=fun m=>hH.at_ _ m
  have hk:k<ss.length:=(List.getElem?_eq_some_iff.mp hz).1
  refine⟨_,(ae (ar (pcl (pL T) hr T.m_Jc T.F_Jc.kp (tD T) (aa (pv 1) (aa (aV (pv 0) T.cl_Program T.M_Ji (gI T) hr (kQ T) .nil aF) ag))))
   (ai (au (a9 ba (by rfl) T.z_list (by rfl) (aa (av aB (aA (pv 0) rfl) (pv 1)) ag))))),?_⟩
  refine⟨_,U,_,U,A.p,A.dx,_,U,hL pin.p,(cL _).1,A,_,U,hL pin.p,hL pin.s,k,_,U,by omega,(by unfold ssV; rw[tP]; omega),?_⟩
  exact⟨_,U,A.p,_,A.dx,_,_,U,hL pin.p,T.cl_Program,T.n_Program_stretches,iG _,_,U,A.s,_,_,_,U,U,SqL.of (hL pin.s),am (c9 hz),z.1,_,U,.inl (SqL.of (hL (pin.l z (tO hz)))),fun l hl=>q _ l (hH.alloc hl _)⟩
end
noncomputable def dB (ds:List (Addr×List Pr)):List (Int×Int):=ds.flatMap fun z=>z.2.map fun e=>(e.2.1,1)
noncomputable def et (ds:List (Addr×List Pr)) (q:Int×Int):Prop:=∃ (k r:Nat) (z:Addr×List Pr) (e:Pr),q=((k:Int),(r:Int))/\ds[k]?=some z/\z.2[r]?=some e
noncomputable def rcs (cr:List (Addr×List Int)) (rs:List (Addr×Rw)):Nat:=(rs.map fun x=>x.2.rc cr).sum
noncomputable def rct (cr:List (Addr×List Int)) (ss:Ss):Nat:=(ss.map fun z=>rcs cr z.2).sum
noncomputable def rln (ss:Ss):Nat:=(ss.map fun z=>z.2.length).sum
noncomputable def DMt (ds:List (Addr×List Pr)) (ss:Ss):Prop:=ds.map (fun z=>z.2.length)=ss.map (fun z=>z.2.length)
variable{ss:Ss}
theorem DMt.get (h:DMt ds ss) {k:Nat}{z:Addr×List (Addr×Rw)} (hz:ss[k]?=some z):∃ u,ds[k]?=some u/\u.2.length=z.2.length:=by
 have e:(ds.map fun z=>z.2.length)[k]?=some z.2.length:=by rw[h,tS,hz]; rfl
 rw[tS] at e
 obtain⟨u,h1,h2⟩:=Option.map_eq_some_iff.mp e
 exact⟨u,h1,h2⟩
theorem DMt.len (h:DMt ds ss):ds.length=ss.length:=by simpa using congrArg List.length h
theorem DMt.pl (h:DMt ds ss) {k r:Nat}{z:Addr×List (Addr×Rw)} (hz:ss[k]?=some z) (hr:r<z.2.length):et ds ((k:Int),(r:Int)):=by
 obtain⟨u,h1,h2⟩:=h.get hz
 exact⟨k,r,u,u.2[r]'(by omega),U,h1,tN (by omega)⟩
theorem bY {α:Type}{l:List α}{k:Nat}{z:α} (h:l[k]?=some z):l.take (k+1)=l.take k++[z]:=by rw[List.take_succ,h]; rfl
theorem iE {k:Nat}{z:Addr×List (Addr×Rw)} (h:ss[k]?=some z):rct cr (ss.take (k+1))=rct cr (ss.take k)+rcs cr z.2:=by
 unfold rct
 rw[bY h,tU,List.sum_append]
 simp
theorem dA {k:Nat}{z:Addr×List (Addr×Rw)} (h:ss[k]?=some z):rln (ss.take (k+1))=rln (ss.take k)+z.2.length:=by
 unfold rln
 rw[bY h,tU,List.sum_append]
 simp
theorem iF {rs:List (Addr×Rw)}{r:Nat}{x:Addr×Rw} (h:rs[r]?=some x):rcs cr (rs.take (r+1))=rcs cr (rs.take r)+x.2.rc cr:=by
 unfold rcs
 rw[bY h,tU,List.sum_append]
 simp
theorem jb {l:List Nat}{m:List Nat} (h:l.Sublist m):l.sum<=m.sum:=by
 induction h with
 | slnil=>exact Nat.le_refl _
 | cons a _ ih=>rw[List.sum_cons]; omega
 | cons_cons a _ ih=>rw[List.sum_cons,List.sum_cons]; omega
theorem qv {cr:List (Addr×List Int)}{ss:Ss} (k:Nat):rct cr (ss.take k)<=rct cr ss:=jb ((List.take_sublist k ss).map _)
theorem lI {ss:Ss} (k:Nat):rln (ss.take k)<=rln ss:=jb ((List.take_sublist k ss).map _)
theorem qw {cr:List (Addr×List Int)}{rs:List (Addr×Rw)} (k:Nat):rcs cr (rs.take k)<=rcs cr rs:=jb ((List.take_sublist k rs).map _)
theorem iT (nf:(dF ds).Nodup):∀ {D:List ((Int×Int)×Addr×List Pr)},(D.map (·.1)).Nodup->(∀ z ∈ D,et ds z.1)->∃ es:List Pr,es.length=D.length/\(es.map (·.2)).Nodup/\(∀ x ∈ es,x.2 ∈ dF ds) /\
  ∀ (i:Nat) z,D[i]?=some z->∃ (k r:Nat) (u:Addr×List Pr) (e:Pr),z.1=((k:Int),(r:Int))/\ds[k]?=some u/\u.2[r]?=some e/\es[i]?=some e
 | [],_,_=>⟨[],U,List.nodup_nil,fun x hx=>(nomatch hx),fun i z h=>by simp at h⟩
 | w::D,nd,pl=>by
  obtain⟨n1,n2⟩:=List.nodup_cons.mp nd
  obtain⟨es,le,ne,me,ge⟩:=iT nf n2 fun z hz=>pl z (tK _ hz)
  obtain⟨k,r,u,e,e1,h1,h2⟩:=pl w tM
  have mF:e.2 ∈ dF ds:=List.mem_flatMap.mpr ⟨u,tO h1,tY (f:=fun x:Pr=>x.2) (tO h2)⟩
  refine⟨e::es,by rw[t6,t6,le],List.nodup_cons.mpr ⟨fun c=>?_,ne⟩,fun x hx=>?_,fun i z h=>?_⟩
  ·obtain⟨x,hx,ex⟩:=uc.mp c
   obtain⟨i,hi⟩:=List.mem_iff_getElem?.mp hx
   have hil:i<D.length:=by rw[<- le]; exact(List.getElem?_eq_some_iff.mp hi).1
   obtain⟨k',r',u',e',e1',h1',h2',h3'⟩:=ge i _ (tN hil)
   rw[hi] at h3'
   cases h3'
   obtain⟨a,b⟩:=js nf h1 h2 h1' h2' ex.symm
   refine n1 (uc.mpr ⟨_,List.getElem_mem hil,?_⟩)
   show _=w.1
   rw[e1',e1,a,b]
  ·rcases tX.mp hx with rfl | hx
   ·exact mF
   ·exact me x hx
  ·cases i with
   | zero=>cases h; exact⟨k,r,u,e,e1,h1,h2,U⟩
   | succ i=>exact ge i z h
theorem qI {nm nc:Nat} (dm:DMt ds ss) (good:Good nm nc ss) {k r:Nat}{z:Addr×List (Addr×Rw)}{x:Addr×Rw} (hz:ss[k]?=some z) (hx:z.2[r]?=some x):∀ q ∈ x.2.onw k r,et ds q:=by
 obtain⟨ok,la,ly,hla,hlast⟩:=good k z hz
 have hr:r<z.2.length:=(List.getElem?_eq_some_iff.mp hx).1
 have xok:=ok x (tO hx)
 have nl:x.2.last=false->et ds ((k:Int),(r:Int)+1):=fun h=>by
  have:r+1<z.2.length:=by
   rcases Nat.lt_or_ge (r+1) z.2.length with c | c
   ·exact c
   ·exfalso
    rw[List.getLast?_eq_getElem?,show z.2.length - 1=r by omega,hx] at hla
    cases hla
    rw[h] at hlast
    cases hlast
  exact dm.pl hz this
 have ir:∀ {a:Int},0<=a->a<z.2.length->et ds ((k:Int),a):=fun {a} h0 h1=>by
  obtain⟨n,rfl⟩:=Int.eq_ofNat_of_zero_le h0
  exact dm.pl hz (by omega)
 obtain⟨xa,xr⟩:=x
 cases xr with
 | bell n=>intro q hq; rw[tT.mp hq]; exact nl rfl
 | set m s=>intro q hq; rw[tT.mp hq]; exact nl rfl
 | ask m a b=>
  intro q hq
  rcases tX.mp hq with rfl | hq
  ·exact ir xok.2.2.1 xok.2.2.2.1
  ·rw[tT.mp hq]; exact ir xok.2.2.2.2.1 xok.2.2.2.2.2
 | bump c a=>
  intro q hq
  rcases tX.mp hq with rfl | hq
  ·exact nl rfl
  ·rw[tT.mp hq]; exact ir xok.2.2.1 xok.2.2.2
 | go a=>intro q hq; rw[tT.mp hq]; exact ir xok.1 xok.2
 | fin=>intro q hq; cases hq
noncomputable def RowsW (y:YR) (L:Kn) (nd:Int) (mr:List Int) (cr:List (Addr×List Int)) (W:WS) (ds:List (Addr×List Pr)) (ss:Ss) (p:Nat->Nat->Prop):Prop :=
 ∀ k r z x u e,p k r->ss[k]?=some z->z.2[r]?=some x->ds[k]?=some u->u.2[r]?=some e->RowW y L nd mr cr W k r (e.2.1,1) x.2
theorem RowsW.up {y y':YR}{L L':Kn}{W W':WS}{p:Nat->Nat->Prop} (h:RowsW y L nd mr cr W ds ss p) (u:Up y y') (s:∀ b:Pr,pK2 b ∈ L->pK2 b ∈ L') (w:Wup W W'):RowsW y' L' nd mr cr W' ds ss p :=
 fun k r z x u' e a b c d f=>(h k r z x u' e a b c d f).up u s w
noncomputable def ToDoor (y:YR) (L:Kn) (ds:List (Addr×List Pr)) (pl o:Int×Int):Prop:=∃ (k r:Nat) (u:Addr×List Pr) (e:Pr),pl=((k:Int),(r:Int))/\ds[k]?=some u/\u.2[r]?=some e/\Lead y L o e.2
theorem ToDoor.up {y y':YR}{L L':Kn}{pl o:Int×Int} (h:ToDoor y L ds pl o) (u:Up y y') (s:∀ b:Pr,pK2 b ∈ L->pK2 b ∈ L'):ToDoor y' L' ds pl o:=by
 obtain⟨k,r,z,e,h1,h2,h3,h4⟩:=h
 exact⟨k,r,z,e,h1,h2,h3,(h4.up u (fun _ h=>h)).mv s⟩
noncomputable def nB (y:YR) (L:Kn) (nd:Int) (mr:List Int) (cr:List (Addr×List Int)) (ds:List (Addr×List Pr)) (ss:Ss):Prop:=∃ W:WS,W.T.length=ss.length/\RowsW y L nd mr cr W ds ss (fun _ _=>True)/\(∀ (j:Nat) (zT:Addr×List Pr),W.T[j]?=some zT->EndW y L zT.2)/\∀ pl o,inD W.D pl o->ToDoor y L ds pl o.2
inductive sp_lways (Cy Cl Cp:Addr) (vs:List V) (H:Hp) (Q:VK) (E_:XK):Prop
 | mk (p:Addr) (y:YR) (L:Kn) (A:LA) (B:PA) (ds:List (Addr×List Pr)) (mr:List Int) (cr:List (Addr×List Int)) (ms ws:List Int) (ss:Ss) (N M R:Nat) (_:vs=[.ref A.p,.ref B.p]) (_:A.y=p) (_:YIn Cy H p y L) (_:LIn Cl A ds mr cr L) (_:PIn Cp B ms ws ss L) (_:Good mr.length cr.length ss) (_:DMt ds ss) (_:Ld y N M R) (_:Al y (dF ds++dB ds)) (_:ROk mr cr y.sides.length) (_:ss.length<=100) (_:N+rct cr ss+2*ss.length<=4500) (_:M+60*rln ss+10*ss.length<=18000) (_:R<=1000) (_:∀ H' y' Nw N' M',Ld y' N' M' R->N'<=N+rct cr ss+2*ss.length->Up y y'->nB y' (Nw++L) N mr cr ds ss->YIn Cy H' p y' (Nw++L)->Q .non H'):sp_lways Cy Cl Cp vs H Q E_
section
variable {P:Program}{w:World}{K:PySem.W.Frag}{mg:Str->Option Value}{base:Heap}{t:Adr}
theorem scLy2:FnScope ["laid","program","ways","stretch","number","row","place","outs"] ["laid","program"] (aj pc):={}
theorem qX (T:Txt K mg t):FnOk P w K mg base CX0 9 t.f_J81 t.d_J81 ["laid","program"] (sp_lways t.c_Yard t.c_Laid t.c_Program):=by
 refine T.F_J81.ok scLy2 (fun vs H Q E h=>?_) (fun cdv A outer s H vs Q E hr h=>?_)
 ·obtain⟨_,_,_,_,_,_,_,_,_,_,_,_,_,_,rfl,_⟩:=h
  rfl
 ·obtain⟨p,y,L,A',B,ds,mr,cr,ms,ws,ss,N,M,R,rfl,eY,Y,lin,pin,good,dm,D,al,rok,bs,bN,bM,bR,q⟩:=h
  subst eY
  refine⟨_,(ae (ax (i:=2) scLy2.nd rfl (Or.inl rfl) (hU T.mk_Ways (ok_Jz T) (hr.mono (by decide)) (by rfl) T.m_Ways (b_Jz T) .nil aF (aa (aV (pv 1) T.cl_Program T.M_Ji (gI T) hr (kQ T) .nil aF) ag)))
   (ae (bi PassesOwn.never rfl (bh (by rfl) T.z_range (aa (aV (pv 1) T.cl_Program T.M_Ji (gI T) hr (kQ T) .nil aF) ag)) (aq (i:=3) scLy2.nd rfl (Or.inl rfl))
    (ai (bi PassesOwn.never rfl (dI (by rfl) T.z_enumerate (aa (aC (pv 1) T.cl_Program T.M_Jk (pJ T) hr (tu T) .nil aF (aa (pv 3) ag)) ag)) (bx rfl (ay (aq (i:=4) scLy2.nd rfl (Or.inl rfl)) (ay (aq (i:=5) scLy2.nd rfl (Or.inl rfl)) bc)))
      (ai (ar (pcl (qR T) hr T.m_Ji1 T.F_Ji1.kp (b_Ji1 T) (aa (pv 0) (aa (pv 2) (aa (pv 5) (aa (pv 3) (aa (pv 4) ag)))))))))))
   (ae (bi PassesOwn.never rfl (bh (by rfl) T.z_range (aa (aV (pv 1) T.cl_Program T.M_Ji (gI T) hr (kQ T) .nil aF) ag)) (aq (i:=3) scLy2.nd rfl (Or.inl rfl))
    (ai (ar (pcl (ok_Ju T) hr T.m_Ju T.F_Ju.kp (b_Ju T) (aa (aA (pv 0) rfl) (aa (pv 2) (aa (pv 3) ag)))))))
   (ai (lN (bi PassesOwn.never rfl (kc (aA (pv 2) rfl)) (bx rfl (ay (aq (i:=6) scLy2.nd rfl (Or.inl rfl)) (ay (aq (i:=7) scLy2.nd rfl (Or.inl rfl)) bc)))
    (ae (bK (pv 6) (bx rfl (ay (aq (i:=3) scLy2.nd rfl (Or.inl rfl)) (ay (aq (i:=4) scLy2.nd rfl (Or.inl rfl)) bc))))
     (ai (ar (pcl (dN T) hr T.m_merge T.F_merge.kp (fq T) (aa (aA (pv 0) rfl) (aa (pv 7) (aa (aC (pv 0) T.cl_Laid T.M_J11 (jj T) hr (nq T) .nil aF (aa (pv 3) (aa (pv 4) ag))) ag))))))))))))),?_⟩
  rw[show L2.start ["laid","program","ways","stretch","number","row","place","outs"] [V.ref A'.p,V.ref B.p]=([some (V.ref A'.p),some (V.ref B.p),none,none,none,none,none,none]:St) from rfl]
  have lss:(ssV ss).length=ss.length:=by unfold ssV; rw[tP]
  have many:∀ {H':Hp}{Q':V->Hp->Prop},(∀ v ∈ L,H' v.1=some v.2)->Q' (.int ss.length) H'->sp_many t.c_Program [.ref B.p] H' Q' E0:=fun {H' Q'} hL hq=>⟨B,_,U,hL _ pin.p,hL _ pin.s,by rw[lss]; exact hq⟩
  refine⟨_,U,B.p,B.dx,_,U,Y.at_ pin.p,(cL _).1,?_⟩
  refine tn0 ?_
  refine many (fun v hv=>Y.at_ hv) ?_
  refine tn0 ?_
  intro wp dx h1 h2 h3
  obtain⟨Ay,eAy,hY,reY⟩:=Y.re
  refine⟨wp,dx,yL t.c_Yard Ay y++L,ss.length,U,(hY.alloc h2 _).alloc ?_ _,by omega,fun H2 W eW eD eSl eTl hS hT h4=>?_⟩
  ·rw[aH (Ne.symm h3)]; exact h1
  refine⟨U,?_⟩
  dsimp only[eL,List.set]
  have Y1:YIn t.c_Yard H2 A'.y y (wL t.c_Ways W++([]++L)):=reY eAy (fun z hz=>tL _ hz) (h4.perm (List.perm_append_comm_assoc _ _ _))
  clear hY h4 h1 h2 h3
  have inL:∀ {W:WS}{Nw:Kn}{v:Addr×HO},v ∈ L->v ∈ wL t.c_Ways W++(Nw++L):=fun h=>tL _ (tL _ h)
  have nS:sE W.S=[]:=by
   unfold sE
   rw[List.flatMap_eq_nil_iff]
   intro z hz
   rw[hS z hz]; rfl
  have nT:tE W.T=[]:=by
   unfold tE
   rw[List.flatMap_eq_nil_iff]
   intro z hz
   rw[hT z hz]; rfl
  have wok1:WOk W ([]++L) (et ds):=⟨by rw[eD]; exact List.nodup_nil,by rw[eD]; exact(fun z hz=>(nomatch hz)),by rw[eD]; exact(fun z hz=>(nomatch hz)),by rw[eD]; exact(fun z hz=>(nomatch hz)),(fun z hz c hc=>by rw[hS z hz] at hc; exact(nomatch hc)),(fun z hz c hc=>by rw[hT z hz] at hc; exact(nomatch hc))⟩
  have pd1:W.pend=[]:=by unfold WS.pend; rw[eD,nS,nT]; rfl
  have c1:W.cN=0:=by unfold WS.cN WS.dn WS.sn WS.tn; rw[eD,nS,nT]; rfl
  have c2:W.cM=0:=by unfold WS.cM WS.dn WS.sn WS.tn; rw[eD,nS,nT]; rfl
  refine⟨_,U,B.p,B.dx,_,U,Y1.at_ (inL pin.p),(cL _).1,?_⟩
  refine tn0 ?_
  refine many (fun v hv=>Y1.at_ (inL hv)) ?_
  refine tn0 ?_
  refine⟨_,U,by omega,by omega,bB (fun k σ H'=>∃ (y':YR) (W:WS) (Nw:Kn) (N' M':Nat) (o1 o2 o3 o4 o5:Option V),σ=[some (.ref A'.p),some (.ref B.p),some (.ref wp),o1,o2,o3,o4,o5]/\W.p=wp/\W.S.length=ss.length/\W.T.length=ss.length/\S0 W/\Ld y' N' M' R/\N'+W.cN<=N+rct cr (ss.take k)/\M'+W.cM<=M+60*rln (ss.take k)/\Up y y' /\
   Al y' (W.pend++(dB (ds.drop k)++dF ds))/\WOk W (Nw++L) (et ds)/\YIn t.c_Yard H' A'.y y' (wL t.c_Ways W++(Nw++L))/\RowsW y' (Nw++L) (N:Int) mr cr W ds ss (fun j _=>j<k)) ⟨y,W,[],N,M,_,_,_,_,_,U,eW,eSl,eTl,hS,D,by rw[c1]; exact Nat.le_refl _,by rw[c2]; exact Nat.le_refl _,Up.refl _,?_,wok1,Y1,fun k' r' z' x' u' e' a=>absurd a (Nat.not_lt_zero _)⟩ ?_ ?_⟩
  ·rw[pd1]
   exact al.perm List.perm_append_comm
  ·clear Y1 wok1 pd1 c1 c2 eW eD eSl eTl hS hT nS nT
   rintro k σ H3 hk ⟨y1,W,Nw,N1,M1,o1,o2,o3,o4,o5,rfl,eW,eSl,eTl,s0,D1,bN1,bM1,up1,al1,wok1,Y1,rw1⟩
   have hkl:k<ss.length:=by omega
   have hz:=tN hkl
   obtain⟨z,ez⟩:∃ z,ss[k]=z:=⟨_,U⟩
   rw[ez] at hz
   have hzm:=tO hz
   obtain⟨u,hu,lu⟩:=dm.get hz
   have hkd:k<ds.length:=by rw[dm.len]; exact hkl
   have edr:ds.drop k=u::ds.drop (k+1):=by rw[List.drop_eq_getElem_cons hkd,(List.getElem?_eq_some_iff.mp hu).2]
   have edB:dB (ds.drop k)=u.2.map (fun e=>(e.2.1,1))++dB (ds.drop (k+1)):=by rw[edr]; rfl
   rw[edB] at al1
   have hge:=qv (cr:=cr) (ss:=ss) (k+1)
   have hgl:=lI (ss:=ss) (k+1)
   rw[iE hz] at hge
   rw[dA hz] at hgl
   dsimp only[List.set]
   rw[Int.zero_add]
   refine⟨_,U,B.p,B.dx,_,U,Y1.at_ (inL pin.p),iH _,_,U,?_⟩
   refine tn0 ?_
   obtain⟨A1,eA1,hY1,re1⟩:=Y1.rac
   refine⟨B,ms,ws,ss,_,k,z,U,hY1,pin.mono fun v hv=>tL _ (inL hv),hz,fun H4 l h4=>?_⟩
   refine tn0 ?_
   have Y2:YIn t.c_Yard H4 A'.y y1 (wL t.c_Ways W++(((l,HO.lst (rwV z.2))::Nw)++L)):=re1 (X:=[(l,HO.lst (rwV z.2))]) h4 (Ms.perm (by simp only[List.cons_append,List.nil_append,Ms.app,Ms.cons]; ac_rfl))
   have wok2:WOk W (((l,HO.lst (rwV z.2))::Nw)++L) (et ds):=wok1.mono fun v hv=>tK _ hv
   have lrw:(rwV z.2).length=z.2.length:=by unfold rwV; rw[tP]
   refine⟨l,U,⟨_,SqL.of (Y2.at_ (tL _ tM))⟩,fU (xs:=rwV z.2) (fun r σ H'=>∃ (y':YR) (W:WS) (Nw:Kn) (N' M':Nat) (o2 o3 o4 o5:Option V),σ=[some (.ref A'.p),some (.ref B.p),some (.ref wp),some (.int k),o2,o3,o4,o5]/\W.p=wp/\W.S.length=ss.length/\W.T.length=ss.length/\S0 W/\Ld y' N' M' R/\N'+W.cN<=N+rct cr (ss.take k)+rcs cr (z.2.take r)/\M'+W.cM<=M+60*(rln (ss.take k)+r)/\Up y y' /\
    Al y' (W.pend++((u.2.drop r).map (fun e=>(e.2.1,1))++(dB (ds.drop (k+1))++dF ds)))/\WOk W (Nw++L) (et ds)/\(l,HO.lst (rwV z.2)) ∈ Nw/\YIn t.c_Yard H' A'.y y' (wL t.c_Ways W++(Nw++L))/\RowsW y' (Nw++L) (N:Int) mr cr W ds ss (fun j i=>j<k∨(j=k/\i<r)))
    ⟨y1,W,_,N1,M1,_,_,_,_,U,eW,eSl,eTl,s0,D1,bN1,bM1,up1,by rw[List.drop_zero]; rw[tR] at al1; exact al1,wok2,tM,Y2,fun k' r' z' x' u' e' a b c d f=>(rw1 k' r' z' x' u' e' (a.elim id fun q=>absurd q.2 (Nat.not_lt_zero _)) b c d f).up (Up.refl _) (fun b hb=>tK _ hb) (Wup.refl _)⟩ (fun r σ H' _ ⟨y',W,Nw,N',M',_,_,_,_,_,_,_,_,_,_,_,_,_,_,_,ml,Y',_⟩=>SqL.of (Y'.at_ (tL _ (tQ _ ml)))) ?_ ?_⟩
   ·clear Y2 wok2 al1 up1 bN1 bM1 D1 eW eSl eTl wok1 hY1 h4
    rintro r v σ H5 tp hv ⟨y2,W,Nw,N2,M2,o2,o3,o4,o5,rfl,eW,eSl,eTl,s0,D2,bN2,bM2,up2,al2,wok2,ml,Y2,rw2⟩ htp
    unfold rwV at hv
    rw[tS] at hv
    obtain⟨x,hx,rfl⟩:=Option.map_eq_some_iff.mp hv
    have hr:r<z.2.length:=(List.getElem?_eq_some_iff.mp hx).1
    have Y3:=Y2.alloc htp (.tup [.int r,.ref x.1])
    refine⟨tp,_,U,SqT.of (Y3.at_ tM),U,_,_,U,_,_,U,U,?_⟩
    dsimp only[List.set]
    have Y4:=Y3.drop
    have hru:r<u.2.length:=by omega
    have he:=tN hru
    obtain⟨e,ee⟩:∃ e,u.2[r]=e:=⟨_,U⟩
    rw[ee] at he
    have edu:u.2.drop r=e::u.2.drop (r+1):=by rw[List.drop_eq_getElem_cons hru,ee]
    rw[edu,t5,List.cons_append] at al2
    have hcs:=qw (cr:=cr) (rs:=z.2) (r+1)
    rw[iF hx] at hcs
    have xok:=(good k z hz).1 x (tO hx)
    rw[<- eSl] at xok
    refine⟨_,U,_,U,_,U,_,U,_,U,?_⟩
    refine tn0 ?_
    subst eW
    refine⟨A'.y,y2,Nw++L,A',ds,mr,cr,W,x.1,x.2,k,r,u,e,N2,M2,R,z.2.length,(u.2.drop (r+1)).map (fun e=>(e.2.1,1))++(dB (ds.drop (k+1))++dF ds),et ds,(N:Int),U,U,Y4,lin.mono fun v hv=>tL _ hv,tL _ (pin.r z hzm x (tO hx)),hu,he,D2,al2,xok,rok.up up2,wok2,by omega,qI dm good hz hx,by omega,by omega,bR,(by have:=up2.x; rw[D.nx,D2.nx] at this; exact this),fun H6 y6 N6 W6 N6' M6' e6 eS6 eT6 D6 bN6 bM6 up6 al6 wok6 wu6 rwn Y6=>?_⟩
    refine⟨y6,W6,N6++Nw,N6',M6',_,_,_,_,U,e6,by omega,by omega,wu6.z s0,D6,by rw[iF hx]; omega,by omega,up2.trans up6,al6,by rw[tR]; exact wok6,tL _ ml,by rw[tR]; exact Y6,fun k' r' z' x' u' e' a b c d f=>?_⟩
    rw[tR]
    by_cases new:k'=k/\r'=r
    ·obtain⟨rfl,rfl⟩:=new
     rw[hz] at b
     cases b
     rw[hx] at c
     cases c
     rw[hu] at d
     cases d
     rw[he] at f
     cases f
     exact rwn
    ·exact(rw2 k' r' z' x' u' e' (by omega) b c d f).up up6 (fun b hb=>tL _ hb) wu6
   ·rintro σ H5 ⟨y2,W,Nw,N2,M2,o2,o3,o4,o5,rfl,eW,eSl,eTl,s0,D2,bN2,bM2,up2,al2,wok2,ml,Y2,rw2⟩
    rw[lrw] at bN2 bM2 al2
    rw[<- lu,List.drop_length,List.map_nil,List.nil_append] at al2
    rw[List.take_length] at bN2
    exact⟨y2,W,Nw,N2,M2,_,_,_,_,_,U,eW,eSl,eTl,s0,D2,by rw[iE hz]; omega,by rw[dA hz]; omega,up2,al2,wok2,Y2,fun k' r' z' x' u' e' a b c d f=>rw2 k' r' z' x' u' e' (by
     by_cases ck:k'=k
     ·subst ck
      rw[hz] at b
      cases b
      exact .inr ⟨U,by rw[lrw]; exact(List.getElem?_eq_some_iff.mp c).1⟩
     ·exact .inl (by omega)) b c d f⟩
  ·clear Y1 wok1 pd1 c1 c2 eW eD eSl eTl hS hT nS nT
   rintro σ H3 ⟨y1,W,Nw,N1,M1,o1,o2,o3,o4,o5,rfl,eW,eSl,eTl,s0,D1,bN1,bM1,up1,al1,wok1,Y1,rw1⟩
   rw[Int.toNat_natCast] at bN1 bM1 al1 rw1
   rw[<- dm.len,List.drop_length] at al1
   rw[List.take_length] at bN1 bM1
   have al1:Al y1 (dE W.D++(sE W.S++(tE W.T++dF ds))):=by
    have h:W.pend++(dB []++dF ds)=dE W.D++(sE W.S++(tE W.T++dF ds)):=by
     unfold WS.pend
     rw[show dB []=[] from rfl,List.nil_append,tR,tR]
    rw[<- h]; exact al1
   refine⟨_,U,B.p,B.dx,_,U,Y1.at_ (inL pin.p),(cL _).1,?_⟩
   refine tn0 ?_
   refine many (fun v hv=>Y1.at_ (inL hv)) ?_
   refine tn0 ?_
   refine⟨_,U,by omega,by omega,bB (fun k σ H'=>∃ (y':YR) (D':List ((Int×Int)×Addr×List Pr)) (Nw:Kn) (N' M':Nat) (o1 o2 o3 o4 o5:Option V),σ=[some (.ref A'.p),some (.ref B.p),some (.ref wp),o1,o2,o3,o4,o5]/\Ld y' N' M' R/\N'+((dE D').length+3*(sE (W.S.drop k)).length+(tE (W.T.drop k)).length)<=N+rct cr ss+2*k/\M'+(4*(dE D').length+12*(sE (W.S.drop k)).length+4*(tE (W.T.drop k)).length)<=M+60*rln ss+10*k/\Up y y' /\
    Al y' (dE D'++(sE (W.S.drop k)++(tE (W.T.drop k)++dF ds)))/\WOk { W with D:=D' } (Nw++L) (et ds)/\YIn t.c_Yard H' A'.y y' (wL t.c_Ways { W with D:=D' }++(Nw++L))/\RowsW y' (Nw++L) (N:Int) mr cr { W with D:=D' } ds ss (fun j _=>j<ss.length)/\∀ (j:Nat) (zT:Addr×List Pr),j<k->W.T[j]?=some zT->EndW y' (Nw++L) zT.2) ⟨y1,W.D,Nw,N1,M1,_,_,_,_,_,U,D1,bN1,bM1,up1,al1,wok1,Y1,rw1,fun j _ h=>absurd h (Nat.not_lt_zero _)⟩ ?_ ?_⟩
   ·clear Y1 wok1 al1 D1 bN1 bM1 up1 rw1
    rintro k σ H4 hk ⟨y1,D',Nw,N1,M1,o1,o2,o3,o4,o5,rfl,D1,bN1,bM1,up1,al1,wok1,Y1,rw1,af⟩
    have hkl:k<ss.length:=by omega
    have hkS:k<W.S.length:=by omega
    have hkT:k<W.T.length:=by omega
    have hS:=tN hkS
    have hT:=tN hkT
    obtain⟨zS,ezS⟩:∃ z,W.S[k]=z:=⟨_,U⟩
    obtain⟨zT,ezT⟩:∃ z,W.T[k]=z:=⟨_,U⟩
    rw[ezS] at hS
    rw[ezT] at hT
    have eS:sE (W.S.drop k)=zS.2.map (fun c=>c.2.1.2)++sE (W.S.drop (k+1)):=by rw[List.drop_eq_getElem_cons hkS,ezS]; rfl
    have eT:tE (W.T.drop k)=zT.2.map (·.2)++tE (W.T.drop (k+1)):=by rw[List.drop_eq_getElem_cons hkT,ezT]; rfl
    rw[eS,eT,tW,tW,tP,tP] at bN1 bM1
    have al2:Al y1 (dE D'++(zS.2.map (fun c=>c.2.1.2)++(zT.2.map (·.2)++(sE (W.S.drop (k+1))++(tE (W.T.drop (k+1))++dF ds))))):=by
     refine al1.perm ?_
     rw[eS,eT,tR,tR]
     exact List.Perm.append_left _ (List.Perm.append_left _ apc)
    have hz:=tN hkl
    have pl0:et ds ((k:Int),0):=by
     obtain⟨_,a',y',h',_⟩:=good k _ hz
     refine dm.pl (r:=0) hz ?_
     cases e:ss[k].2 with
     | nil=>rw[e] at h'; cases h'
     | cons=>exact Nat.succ_pos _
    dsimp only[List.set]
    rw[Int.zero_add]
    refine⟨_,U,A'.p,_,A'.dx,_,_,U,Y1.at_ (inL lin.p),T.cl_Laid,T.n_Laid_yard,dh _,_,U,_,U,?_⟩
    refine tn0 ?_
    subst eW
    refine⟨A'.y,y1,Nw++L,{ W with D:=D' },k,zS,zT,N1,M1,R,sE (W.S.drop (k+1))++(tE (W.T.drop (k+1))++dF ds),et ds,U,Y1,hS,hT,s0 zS (tO hS),D1,al2,wok1,pl0,by show N1+(dE D').length+_+_<=_; omega,by show M1+4*(dE D').length+_+_<=_; omega,bR,fun H5 y5 N5 D5 N5' M5' Ld5 bN5 bM5 up5 al5 wok5 wu5 cw5 Y5=>?_⟩
    have bN5:N5'+(dE D5).length<=N1+(dE D').length+3*zS.2.length+zT.2.length+2:=bN5
    have bM5:M5'+4*(dE D5).length<=M1+4*(dE D').length+12*zS.2.length+4*zT.2.length+10:=bM5
    refine⟨y5,D5,N5++Nw,N5',M5',_,_,_,_,_,U,Ld5,by omega,by omega,up1.trans up5,al5,by rw[tR]; exact wok5,by rw[tR]; exact Y5,by rw[tR]; exact rw1.up up5 (fun b hb=>tL _ hb) ⟨wu5,fun _ _ _ h=>h,fun _ _ h=>h,id⟩,fun j z2 hj hz2=>?_⟩
    rw[tR]
    by_cases cj:j=k
    ·subst cj
     rw[hT] at hz2
     cases hz2
     exact cw5
    ·exact(af j z2 (by omega) hz2).up up5 (fun b hb=>tL _ hb)
   ·clear Y1 wok1 al1 D1 bN1 bM1 up1 rw1
    rintro σ H4 ⟨y1,D',Nw,N1,M1,o1,o2,o3,o4,o5,rfl,D1,bN1,bM1,up1,al1,wok1,Y1,rw1,af⟩
    rw[Int.toNat_natCast] at bN1 bM1 al1 af
    have eS:sE (W.S.drop ss.length)=[]:=by rw[<- eSl,List.drop_length]; rfl
    have eT:tE (W.T.drop ss.length)=[]:=by rw[<- eTl,List.drop_length]; rfl
    rw[eS,eT] at bN1 bM1 al1
    rw[List.nil_append,List.nil_append] at al1
    obtain⟨es,les,nes,mes,ges⟩:=iT (List.nodup_append.mp al1.1).2.1 wok1.kd wok1.pd
    have al2:Al y1 (dE D'++es.map (·.2)):=by
     obtain⟨n1,n2,n3⟩:=List.nodup_append.mp al1.1
     have ms':∀ x ∈ es.map (·.2),x ∈ dF ds:=fun x hx=>by
      obtain⟨u,hu,rfl⟩:=uc.mp hx
      exact mes u hu
     refine⟨List.nodup_append.mpr ⟨n1,nes,fun a ha b hb=>n3 a ha b (ms' b hb)⟩,fun x hx=>?_⟩
     rcases tV.mp hx with hx | hx
     ·exact al1.2 x (tQ _ hx)
     ·exact al1.2 x (tL _ (ms' x hx))
    obtain⟨W2,eW2⟩:∃ W2:WS,{ W with D:=D' }=W2:=⟨_,U⟩
    have eD2:W2.D=D':=by rw[<- eW2]
    have ep2:W2.p=wp:=by rw[<- eW2]; exact eW
    rw[eW2] at Y1 wok1 rw1
    have lS2:W2.S.length=ss.length:=by rw[<- eW2]; exact eSl
    have lT2:W2.T.length=ss.length:=by rw[<- eW2]; exact eTl
    obtain⟨X2,eX2⟩:∃ X2:Kn,(W2.ts,HO.lst (W2.S.map fun z=>V.ref z.1))::(W2.tc,HO.lst (W2.T.map fun z=>V.ref z.1))::(wD W2.D++(wS W2.S++(wT W2.T++(Nw++L))))=X2:=⟨_,U⟩
    have eWL:wL t.c_Ways W2++(Nw++L)=[(W2.p,HO.ins t.c_Ways W2.dx (wfl W2)),(W2.dx,.own W2.p)]++(W2.td,HO.dT (dkv W2.D))::X2:=by
     rw[<- eX2]
     unfold wL
     simp only[tR,List.cons_append,List.nil_append]
    have inX:∀ v ∈ Nw++L,v ∈ X2:=fun v hv=>by rw[<- eX2]; exact tK _ (tK _ (tL _ (tL _ (tL _ hv))))
    have inD':∀ z ∈ W2.D,(z.2.1,HO.lst (prV z.2.2)) ∈ X2:=fun z hz=>by rw[<- eX2]; exact tK _ (tK _ (tQ _ (tY (f:=fun z:(Int×Int)×Addr×List Pr=>(z.2.1,HO.lst (prV z.2.2))) hz)))
    have Y2:=dt Y1 eWL
    have gtd:=Y2.at_ (tL _ tM)
    have gp2:=Y2.at_ tM
    rw[ep2] at gp2
    rw[<- eD2] at al2 bN1 bM1 les ges
    refine⟨W2.td,dkv W2.D,gtd,?_⟩
    have ldk:(dkv W2.D).length=W2.D.length:=tP ..
    refine⟨_,U,wp,_,W2.dx,_,_,U,gp2,T.cl_Ways,T.n_Ways_to_doors,oH _,W2.td,_,U,gtd,fun ob=>?_⟩
    have Y3:=Y2.mid (.frz ob (.dT (dkv W2.D)))
    obtain⟨Lf,eLf⟩:∃ Lf:Kn,[(W2.p,HO.ins t.c_Ways W2.dx (wfl W2)),(W2.dx,.own W2.p)]++(W2.td,HO.frz ob (.dT (dkv W2.D)))::X2=Lf:=⟨_,U⟩
    have mfz:(W2.td,HO.frz ob (.dT (dkv W2.D))) ∈ Lf:=by rw[<- eLf]; exact tL _ tM
    have inLf:∀ v ∈ X2,v ∈ Lf:=fun v hv=>by rw[<- eLf]; exact tL _ (tK _ hv)
    refine jp (fun i σ H'=>∃ (y':YR) (N2:Kn) (N' M':Nat) (o1 o2 o3 o4 o5:Option V),σ=[some (.ref A'.p),some (.ref B.p),some (.ref wp),o1,o2,o3,o4,o5]/\Ld y' N' M' R/\N'+(dE (W2.D.drop i)).length<=N+rct cr ss+2*ss.length/\M'+4*(dE (W2.D.drop i)).length<=M+60*rln ss+10*ss.length/\Up y y' /\
     Al y' (dE (W2.D.drop i)++(es.drop i).map (·.2))/\YIn t.c_Yard H' A'.y y' (N2++Lf)/\Up y1 y'/\∀ (j:Nat) (z:(Int×Int)×Addr×List Pr) (o:Pr),j<i->W2.D[j]?=some z->o ∈ z.2.2->ToDoor y' (N2++Lf) ds z.1 o.2) ⟨y1,[],N1,M1,_,_,_,_,_,U,D1,by rw[List.drop_zero]; simpa using bN1,by rw[List.drop_zero]; simpa using bM1,up1,by rw[List.drop_zero,List.drop_zero]; exact al2,dt Y3 eLf,Up.refl _,fun j z o h=>absurd h (Nat.not_lt_zero _)⟩ (fun i σ H' _ ⟨y',N2,N',M',_,_,_,_,_,_,_,_,_,_,_,Y',_⟩=>Y'.at_ (tL _ mfz)) ?_ ?_
    ·clear Y1 Y2 Y3 gtd gp2 al1 al2 bN1 bM1 D1 up1
     rintro i kv pp a σ H5 hkv hpp ha ⟨y2,N2,N2',M2',o1,o2,o3,o4,o5,rfl,D2,bN2,bM2,up2,al2,Y2,u12,td2⟩
     have hkv:(W2.D.map fun z=>(kE z.1.1 z.1.2,V.ref z.2.1))[i]?=some kv:=hkv
     rw[tS] at hkv
     obtain⟨z,hz,rfl⟩:=Option.map_eq_some_iff.mp hkv
     have hi:i<W2.D.length:=(List.getElem?_eq_some_iff.mp hz).1
     have hzm:=tO hz
     obtain⟨k,r,u,e,e1,hu,he,hes⟩:=ges i z hz
     have hie:i<es.length:=by rw[les]; exact hi
     have edD:W2.D.drop i=z::W2.D.drop (i+1):=by rw[List.drop_eq_getElem_cons hi,(List.getElem?_eq_some_iff.mp hz).2]
     have ede:es.drop i=e::es.drop (i+1):=by rw[List.drop_eq_getElem_cons hie,(List.getElem?_eq_some_iff.mp hes).2]
     have edE:dE (W2.D.drop i)=z.2.2.map (·.2)++dE (W2.D.drop (i+1)):=by rw[edD]; rfl
     rw[edE,tW,tP] at bN2 bM2
     rw[edE,ede,t5] at al2
     have Y3:=Y2.alloc hpp (.tup [.ref a,.ref z.2.1])
     have npp:a≠pp:=fun c=>by rw[c,hpp] at ha; cases ha
     refine⟨pp,_,U,SqT.of (Y3.at_ tM),U,_,_,U,_,_,U,U,?_⟩
     dsimp only[List.set]
     have ga:upd H5 pp (.tup [.ref a,.ref z.2.1]) a=some (.tup [.int k,.int r]):=by
      rw[aH npp,ha,e1]; rfl
     refine⟨_,U,a,_,U,SqT.of ga,U,_,_,U,_,_,U,U,?_⟩
     dsimp only[List.set]
     have Y4:=Y3.drop
     have inA:∀ v ∈ L,v ∈ N2++Lf:=fun v hv=>tL _ (inLf _ (inX _ (tL _ hv)))
     have gA:=Y4.at_ (inA _ lin.p)
     refine⟨_,U,A'.p,_,A'.dx,_,_,U,gA,T.cl_Laid,T.n_Laid_yard,dh _,_,U,_,U,A'.p,A'.dx,_,U,gA,(eJ _).1,_,U,_,U,?_⟩
     refine tn0 ?_
     refine⟨A',ds,mr,cr,L,k,r,u,e,U,fun v hv=>Y4.at_ (inA v hv),lin,hu,he,?_⟩
     refine tn0 ?_
     refine iO (z:=e) (zs:=z.2.2) (G:=dE (W2.D.drop (i+1))++(es.drop (i+1)).map (·.2)) Y4 (tL _ (inLf _ (inD' z hzm))) (fun x hx=>tL _ (inLf _ (inX _ (wok1.eD z hzm x hx)))) (inA _ (lin.de u (tO hu) e (tO he))) D2 (al2.perm ?_) (by omega) (by omega) bR (fun H6 y6 N6 M6 D6 bM6 up6 al6 ld6 Y6=>?_)
     ·rw[tR]
      exact(List.Perm.append_left _ List.perm_middle).trans List.perm_middle
     refine⟨y6,N6++N2,_,M6,_,_,_,_,_,U,D6,by omega,by omega,up2.trans up6,al6,by rw[tR]; exact Y6,u12.trans up6,fun j z' o hj hz' ho=>?_⟩
     rw[tR]
     by_cases cj:j=i
     ·subst cj
      rw[hz] at hz'
      cases hz'
      exact⟨k,r,u,e,e1,hu,he,ld6 o ho⟩
     ·exact(td2 j z' o (by omega) hz' ho).up up6 (fun b hb=>tL _ hb)
    ·clear Y1 Y2 Y3 gtd gp2 al1 al2 bN1 bM1 D1 up1
     rintro σ H5 ⟨y2,N2,N2',M2',o1,o2,o3,o4,o5,rfl,D2,bN2,bM2,up2,al2,Y2,u12,td2⟩
     refine⟨ob,Y2.at_ (tL _ mfz),?_⟩
     have e3:N2++Lf=(N2++[(W2.p,HO.ins t.c_Ways W2.dx (wfl W2)),(W2.dx,.own W2.p)])++(W2.td,HO.frz ob (.dT (dkv W2.D)))::X2:=by rw[<- eLf,tR]
     have Y3:=(dt Y2 e3).mid (.dT (dkv W2.D))
     refine q _ y2 (N2++(wL t.c_Ways W2++Nw)) N2' M2' D2 (by omega) up2 ?_ (dt Y3 ?_)
     ·have s1:∀ v ∈ Nw++L,v ∈ (N2++(wL t.c_Ways W2++Nw))++L:=fun v hv=>by
       simp only[tR]
       exact tL _ (tL _ hv)
      refine⟨W2,lT2,fun k' r' z' x' u' e' _ b c d f=>(rw1 k' r' z' x' u' e' (List.getElem?_eq_some_iff.mp b).1 b c d f).up u12 (fun b hb=>s1 _ hb) (Wup.refl _),fun j zT hj=>?_,?_⟩
      ·have hj':W.T[j]?=some zT:=by rw[<- eW2] at hj; exact hj
       exact(af j zT (by rw[<- eTl]; exact(List.getElem?_eq_some_iff.mp hj').1) hj').up u12 (fun b hb=>s1 _ hb)
      rintro pl o ⟨z,hz,rfl,ho⟩
      obtain⟨j,hj⟩:=List.mem_iff_getElem?.mp hz
      refine(td2 j z o (by rw[ldk]; exact(List.getElem?_eq_some_iff.mp hj).1) hj ho).up (Up.refl _) (fun b hb=>?_)
      rw[<- eLf,<- eX2] at hb
      rcases tV.mp hb with h | h
      ·simp only[tR]; exact tQ _ h
      rcases tV.mp h with h | h
      ·simp at h
      ·rcases tX.mp h with h | h
       ·injection h with _ h; cases h
       have h':pK2 b ∈ []++(wL t.c_Ways W2++(Nw++L)):=by
        unfold wL
        simp only[List.nil_append,tR,List.cons_append]
        exact tK _ (tK _ (tK _ h))
       exact s1 _ (kT (X:=[]) (Y:=Nw++L) h')
     rw[tR,<- eWL]
     simp only[tR]
end
noncomputable def rgI (n:Nat):List Int:=(List.range n).map fun j:Nat=>(j:Int)
noncomputable def rgF (a n:Nat):List Int:=(List.range n).map fun j:Nat=>((a+j:Nat):Int)
theorem lK (a n:Nat):rgF a (n+1)=rgF a n++[((a+n:Nat):Int)]:=by unfold rgF; rw[List.range_succ,tU]; rfl
theorem nO (a n m:Nat):rgF a (n+m)=rgF a n++rgF (a+n) m:=by
 unfold rgF
 rw[List.range_add,tU,uh]
 congr 1
 refine List.map_congr_left fun q _=>?_
 show((a+(n+q):Nat):Int)=((a+n+q:Nat):Int)
 rw[Nat.add_assoc]
noncomputable def Dk (y:YR) (x:Pr):Prop:=Kp y x.2.1 .line/\x.2.2=0
theorem Dk.up {y y':YR}{x:Pr} (h:Dk y x) (u:Up y y'):Dk y' x:=⟨h.1.up u,h.2⟩
theorem RAt.mono {N N':Kn}{p:Nat->Nat->Prop} (h:RAt kvs N ds p) (s:∀ z ∈ N,z ∈ N'):RAt kvs N' ds p:=⟨h.k,fun k r z x a b c=>(let ⟨w,h1,h2⟩:=h.v k r z x a b c; ⟨w,h1,s _ h2⟩)⟩
inductive sp_lout (Cy Cl Cp:Addr) (vs:List V) (H:Hp) (Q:VK) (E_:XK):Prop
 | mk (L:Kn) (B:PA) (ms ws:List Int) (ss:Ss) (_:vs=[.ref B.p]) (_:Has H L) (_:PIn Cp B ms ws ss L) (_:Good ms.length ws.length ss) (_:(∀ x ∈ ms,x=1∨x=2)) (_:(∀ x ∈ ws,1<=x/\x<=8)) (_:ms.length<=30) (_:ws.length<=30) (_:ss≠[]) (_:ss.length<=40) (_:rln ss<=130) (_:∀ H' (A:LA) Nw (cr:List (Addr×List Int)) (ds:List (Addr×List Pr)) (u:Addr×List Pr) (e:Pr) (y6:YR) N M R,Ld y6 N M R->N<=rln ss+rct cr ss+2*ss.length->cr.map (fun z=>(z.2.length:Int))=ws->LIn Cl A ds (rgI ms.length) cr (Nw++L)->(∃ kvs,(A.r,HO.dT kvs) ∈ Nw/\RAt kvs Nw ds fun _ _=>True)->DMt ds ss->ds[0]?=some u->u.2[0]?=some e->(∀ z ∈ ds,∀ x ∈ z.2,Dk y6 x/\x.2.1<rln ss)->ROk (rgI ms.length) cr y6.sides.length->(∃ n,(ms.map V.int++List.replicate n (V.int 1)) <+: y6.sides/\cr.flatMap (·.2)=rgF ms.length n)->nB y6 (Nw++L) (rln ss) (rgI ms.length) cr ds ss->YIn Cy H' A.y { y6 with eng:=.ref e.1,trail:=[] } (Nw++L)->Q (.ref A.p) H'):sp_lout Cy Cl Cp vs H Q E_
theorem tc2 {c d:V}{σ:St}{Q:List V->Hp->Prop} (h:Q [c,d] H):iw (tC c) (iw (tC d) iu) σ H Q:=h
theorem nV {l:List Nat}{x:Nat} (h:x ∈ l):x<=l.sum:=by
 induction l with
 | nil=>cases h
 | cons a r ih=>
  rw[List.sum_cons]
  rcases tX.mp h with rfl | h
  ·omega
  ·have:=ih h; omega
theorem lJ (n:Nat):rgI (n+1)=rgI n++[(n:Int)]:=by unfold rgI; rw[List.range_succ,tU]; rfl
theorem g6 (n:Nat):(rgI n).length=n:=by unfold rgI; rw[tP,List.length_range]
theorem nN {n:Nat}{r:Int} (h:r ∈ rgI n):0<=r/\r<n:=by
 obtain⟨j,hj,rfl⟩:=uc.mp h
 have:=ug.mp hj
 omega
noncomputable def yS (sd:List V):YR:={ y0 with sides:=sd }
theorem yS_ld (sd:List V):Ld (yS sd) 0 0 sd.length:=⟨U,U,fun _ _=>⟨U,U,U⟩,fun _ _ _=>rfl,Nat.le_refl _,Nat.le_refl _,Nat.le_refl _,Nat.le_refl _,U,U⟩
theorem There.up {y y':YR} (u:Up y y') {n e:Int} (h:There y n e):There y' n e:=by
 obtain⟨k,hk,h0⟩:=h
 exact⟨k,u.k _ _ hk,h0⟩
theorem Rw.rc_le (h:∀ z ∈ cr,z.2.length<=8) (x:Rw):x.rc cr<=19:=by
 cases x with
 | bump c r=>
  show 2*((cr[c.toNat]?).map (fun z=>z.2.length)).getD 0+1+2<=19
  cases e:cr[c.toNat]? with
  | none=>simp
  | some z=>have:=h z (tO e); simp; omega
 | bell _=>show 1+1<=19; decide
 | set _ _=>show 1+1<=19; decide
 | ask _ _ _=>show 1+2<=19; decide
 | go _=>show 0+1<=19; decide
 | fin=>show 1<=19; decide
theorem lL {cr:List (Addr×List Int)} (h:∀ z ∈ cr,z.2.length<=8) (ss:Ss):rct cr ss<=19*rln ss:=by
 have h1:∀ rs:List (Addr×Rw),rcs cr rs<=19*rs.length:=fun rs=>by
  induction rs with
  | nil=>exact Nat.le_refl _
  | cons x r ih=>
   have:=Rw.rc_le h x.2
   have e:rcs cr (x::r)=x.2.rc cr+rcs cr r:=by unfold rcs; rw[t5,List.sum_cons]
   rw[e,t6]
   omega
 induction ss with
 | nil=>exact Nat.le_refl _
 | cons z r ih=>
  have:=h1 z.2
  have e1:rct cr (z::r)=rcs cr z.2+rct cr r:=by unfold rct; rw[t5,List.sum_cons]
  have e2:rln (z::r)=z.2.length+rln r:=by unfold rln; rw[t5,List.sum_cons]
  rw[e1,e2]
  omega
section
variable {P:Program}{w:World}{K:PySem.W.Frag}{mg:Str->Option Value}{base:Heap}{t:Adr}
theorem scOu:FnScope ["program","yard","mark_rods","counter_rods","doors","stretch","laid"] ["program"] (aj iB):={}
theorem qS (T:Txt K mg t):FnOk P w K mg base CX0 11 t.f_Jg1 t.d_Jg1 ["program"] (sp_lout t.c_Yard t.c_Laid t.c_Program):=by
 obtain⟨ds_l2,hd_Jd1_2,hb_Jd1_2⟩:=cZ T
 obtain⟨ds_n2,hd_Jj_2,hb_Jj_2⟩:=oy T
 obtain⟨ds_n1,hd_Jj_1,hb_Jj_1⟩:=jX T
 refine T.F_Jg1.ok scOu (fun vs H Q E h=>?_) (fun cdv A outer s H vs Q E hr h=>?_)
 ·obtain⟨_,_,_,_,_,rfl,_⟩:=h
  rfl
 ·obtain⟨L,B,ms,ws,ss,rfl,hH,pin,good,hms,hws,bms,bws,hne,bss,brl,q⟩:=h
  refine⟨_,(ae (ax (i:=1) scOu.nd rfl (Or.inr rfl) (lW T.mk_Yard (rh T) (hr.mono (by decide)) (by rfl) T.m_Yard (b_J01 T) .nil aF))
   (ae (ff (ix:=2) scOu.nd rfl (Or.inl rfl) (esc:=aj iB) (k:=1) ["side","program","yard","mark_rods","counter_rods","doors","stretch","laid"] rfl (bG (aV (pv 0) T.cl_Program T.M_Jd (ok_Jd T) hr (b_Jd T) .nil aF)) (fun _ _ _ _ _=>by exact(aq (i:=0) (show List.Nodup (["side","program","yard","mark_rods","counter_rods","doors","stretch","laid"]:List Str) from by decide +kernel) rfl (Or.inl rfl))) (fun _ _ _ _ _=>by exact bA) (fun _ _ _ _ _=>by exact(aC (pv 2) T.cl_Yard T.M_Jj (mq T) hr hb_Jj_2 hd_Jj_2 aF (aa (pv 0) ag))) rfl (by decide +kernel) (by decide +kernel) rfl (by decide +kernel) (by rfl) (fun _ _ h _=>h) (by decide +kernel))
   (ae (ff (ix:=3) scOu.nd rfl (Or.inl rfl) (esc:=aj iB) (k:=1) ["width","program","yard","mark_rods","counter_rods","doors","stretch","laid"] rfl (bG (aV (pv 0) T.cl_Program T.M_J8 (ok_J8 T) hr (b_J8 T) .nil aF)) (fun _ _ _ _ _ => by exact (aq (i:=0) (show List.Nodup (["width","program","yard","mark_rods","counter_rods","doors","stretch","laid"]:List Str) from by decide +kernel) rfl (Or.inl rfl))) (fun _ _ _ _ _ => by exact bA) (fun _ _ _ _ _ => by exact (dJ (esc:=_) (k:=1) ["bit","width","program","yard","mark_rods","counter_rods","doors","stretch","laid"] rfl (bh (by rfl) T.z_range (aa (pv 0) ag)) (fun _ _ _ _ _ => by exact (aq (i:=0) (show List.Nodup (["bit","width","program","yard","mark_rods","counter_rods","doors","stretch","laid"]:List Str) from by decide +kernel) rfl (Or.inl rfl))) (fun _ _ _ _ _ => by exact bA) (fun _ _ _ _ _ => by exact (aV (pv 3) T.cl_Yard T.M_Jj (mq T) hr hb_Jj_1 hd_Jj_1 aF)) rfl (by decide +kernel) (by decide +kernel) rfl (by intro y hy hf; rcases hy with _ | ⟨_,_ | ⟨_,_ | ⟨_,hy⟩⟩⟩ <;> first | (cases hf; done) | exact Or.inr rfl | exact Or.inl rfl | (cases hy; done)) (by rfl) (fun _ _ h _ => h) (by decide +kernel))) rfl (by decide +kernel) (by decide +kernel) rfl (by decide +kernel) (by rfl) (fun _ _ h _ => h) (by decide +kernel))
   (ae (ax (i:=4) scOu.nd rfl (Or.inl rfl) (aX ag))
   (ae (bi PassesOwn.never rfl (bh (by rfl) T.z_range (aa (aV (pv 0) T.cl_Program T.M_Ji (gI T) hr (kQ T) .nil aF) ag)) (aq (i:=5) scOu.nd rfl (Or.inl rfl))
    (ai (ar (bS PySem.F.plainAttrs_list PySem.F.slot_list_append PySem.F.type_list_append aU (pv 4) (aa (dJ (esc:=aj iB) (k:=1) ["row","program","yard","mark_rods","counter_rods","doors","stretch","laid"] rfl (bG (aC (pv 0) T.cl_Program T.M_Jk (pJ T) hr (tu T) .nil aF (aa (pv 5) ag))) (fun _ _ _ _ _=>by exact(aq (i:=0) (show List.Nodup (["row","program","yard","mark_rods","counter_rods","doors","stretch","laid"]:List Str) from by decide +kernel) rfl (Or.inl rfl))) (fun _ _ _ _ _=>by exact bA) (fun _ _ _ _ _=>by exact(az (aa (aC (pv 2) T.cl_Yard T.M_Jd1 (cE T) hr hb_Jd1_2 hd_Jd1_2 aF (aa aJ ag)) (aa ah ag)))) rfl (by decide +kernel) (by decide +kernel) rfl (by decide +kernel) (by rfl) (fun _ _ h _=>h) (by decide +kernel)) ag)))))
   (ae (ax (i:=6) scOu.nd rfl (Or.inl rfl) (hU T.mk_Laid (ok_Jy T) (hr.mono (by decide)) (by rfl) T.m_Laid (b_Jy T) .nil aF (aa (pv 1) (aa (pv 4) (aa (pv 2) (aa (pv 3) ag))))))
   (ae (ar (pcl (qX T) hr T.m_J81 T.F_J81.kp (b_J81 T) (aa (pv 6) (aa (pv 0) ag))))
   (ae (ar (aC (pv 1) T.cl_Yard T.M_Jc1 (qV T) hr (b_Jc1 T) .nil aF (aa (aC (pv 6) T.cl_Laid T.M_J11 (jj T) hr (nq T) .nil aF (aa ah (aa ah ag))) ag)))
   (ai (au (pv 6))))))))))),?_⟩
  rw[show L2.start ["program","yard","mark_rods","counter_rods","doors","stretch","laid"] [V.ref B.p]=([some (V.ref B.p),none,none,none,none,none,none]:St) from rfl]
  intro yp ydx hy1 hy2 hy3
  refine⟨yp,ydx,L,U,(hH.alloc hy2 _).alloc (by rw[aH (Ne.symm hy3)]; exact hy1) _,fun H1 A1 eA1 h1=>⟨U,?_⟩⟩
  dsimp only[eL,List.set]
  have Y1:YIn t.c_Yard H1 yp (yS []) L:=⟨A1,eA1,h1,w0,⟨[],none,[]⟩,GW.nil t.c_Yard⟩
  clear h1 hy1 hy2 hy3 hH
  refine⟨_,U,B.p,B.dx,_,U,Y1.at_ pin.p,(cL _).2.1,?_⟩
  refine tn0 ?_
  obtain⟨A2,eA2,h2,re2⟩:=Y1.rac
  refine⟨B,_,_,U,h2,tL _ pin.p,tL _ pin.m,fun H3 lm h3=>?_⟩
  have Y3:YIn t.c_Yard H3 yp (yS []) ((lm,HO.lst (ms.map V.int))::L):=re2 (X:=[(lm,HO.lst (ms.map V.int))]) h3 (Ms.perm (by simp only[List.cons_append,List.nil_append,Ms.app,Ms.cons]; ac_rfl))
  clear h2 h3 eA1 eA2
  refine⟨lm,U,⟨_,SqL.of (Y3.at_ tM)⟩,fun mrl hmrl=>?_⟩
  obtain⟨L1,eL1⟩:∃ L1:Kn,(lm,HO.lst (ms.map V.int))::L=L1:=⟨_,U⟩
  have toL1:∀ v ∈ L,v ∈ L1:=fun v hv=>by rw[<- eL1]; exact tK _ hv
  have mlm:(lm,HO.lst (ms.map V.int)) ∈ L1:=by rw[<- eL1]; exact tM
  rw[eL1] at Y3
  refine⟨fun i m zs H'=>m=ms.length - i/\i<=ms.length/\zs=((rgI i).map V.int)/\YIn t.c_Yard H' yp (yS ((ms.take i).map V.int)) ((mrl,.lst zs)::L1),⟨_,U,Nat.zero_le _,U,Y3.alloc hmrl _⟩,?_⟩
  clear Y3
  rintro i m zs H4 ⟨rfl,hi,rfl,Y4⟩
  refine⟨Y4.at_ tM,?_⟩
  have glm:=Y4.at_ (tK _ mlm)
  by_cases hlt:i<ms.length
  ·have hx0:(ms.map V.int)[i]?=some (.int ms[i]):=by rw[tS,tN hlt]; rfl
   refine .inr ⟨⟨_,_,SqL.of glm,hx0⟩,?_⟩
   rintro x H5 ⟨rfl,hx⟩
   have e1:=hx _ (SqL.of glm)
   rw[hx0] at e1
   cases e1
   refine⟨U,bJ ?_⟩
   obtain⟨Ay,gy⟩:=Y4.obj
   have lt:((ms.take i).map V.int).length=i:=by rw[tP,ub]; omega
   refine⟨_,U,yp,Ay.dx,_,U,gy,(bQ _ _ _).2.1,_,U,?_⟩
   refine tn0 ?_
   refine lG (x:=ms[i]) Y4 (hms _ (List.getElem_mem hlt)) (by show((ms.take i).map V.int).length<=10000; omega) (fun H6 Y6=>?_)
   refine⟨sizeOk (by rw[tP,g6]; omega),Y6.at_ tM,ms.length - (i+1),by omega,U,hlt,?_,?_⟩
   ·rw[lJ,tU]
    show _++[V.int ((ms.take i).map V.int).length]=_
    rw[lt]; rfl
   ·have e2:({ (yS ((ms.take i).map V.int)) with sides:=(yS ((ms.take i).map V.int)).sides++[.int ms[i]],trail:=[] }:YR)=yS ((ms.take (i+1)).map V.int):=by
     rw[bY (tN hlt),tU]; rfl
    have Y7:=Y6.put0 (.lst (((rgI i).map V.int)++[V.int ((ms.take i).map V.int).length]))
    rw[<- e2]
    exact Y7
  ·refine .inl ⟨⟨_,SqL.of glm,by rw[tP]; omega⟩,?_⟩
   have ei:i=ms.length:=by omega
   subst ei
   rw[List.take_length] at Y4
   dsimp only[List.set]
   obtain⟨L2,eL2⟩:∃ L2:Kn,(mrl,HO.lst ((rgI ms.length).map V.int))::L1=L2:=⟨_,U⟩
   have toL2:∀ v ∈ L,v ∈ L2:=fun v hv=>by rw[<- eL2]; exact tK _ (toL1 v hv)
   have mmr:(mrl,HO.lst ((rgI ms.length).map V.int)) ∈ L2:=by rw[<- eL2]; exact tM
   rw[eL2] at Y4
   refine⟨_,U,B.p,B.dx,_,U,Y4.at_ (toL2 _ pin.p),(cL _).2.2.1,?_⟩
   refine tn0 ?_
   obtain⟨A5,eA5,h5,re5⟩:=Y4.rac
   refine⟨B,_,_,U,h5,tL _ (toL2 _ pin.p),tL _ (toL2 _ pin.w),fun H6 lw h6=>?_⟩
   have Y6:YIn t.c_Yard H6 yp (yS (ms.map V.int)) ((lw,HO.lst (ws.map V.int))::L2):=re5 (X:=[(lw,HO.lst (ws.map V.int))]) h6 (Ms.perm (by simp only[List.cons_append,List.nil_append,Ms.app,Ms.cons]; ac_rfl))
   clear h5 h6 eA5 glm hi hlt
   refine⟨lw,U,⟨_,SqL.of (Y6.at_ tM)⟩,fun crl hcrl=>?_⟩
   obtain⟨L3,eL3⟩:∃ L3:Kn,(lw,HO.lst (ws.map V.int))::L2=L3:=⟨_,U⟩
   have toL3:∀ v ∈ L2,v ∈ L3:=fun v hv=>by rw[<- eL3]; exact tK _ hv
   have mlw:(lw,HO.lst (ws.map V.int)) ∈ L3:=by rw[<- eL3]; exact tM
   rw[eL3] at Y6
   refine⟨fun i m zs H'=>m=ws.length - i/\i<=ws.length/\∃ (cr:List (Addr×List Int)) (n:Nat) (Nw:Kn),zs=crV cr/\cr.map (fun z=>(z.2.length:Int))=ws.take i/\(∀ z ∈ cr,∀ r ∈ z.2,0<=r/\r<((ms.length+n:Nat):Int))/\(∀ z ∈ cr,(z.1,HO.lst (z.2.map V.int)) ∈ Nw)/\n<=8*i/\YIn t.c_Yard H' yp (yS (ms.map V.int++List.replicate n (.int 1))) ((crl,.lst zs)::(Nw++L3))/\cr.flatMap (·.2)=rgF ms.length n,⟨_,U,Nat.zero_le _,[],0,[],U,U,(fun z hz=>(nomatch hz)),(fun z hz=>(nomatch hz)),Nat.zero_le _,by rw[List.replicate_zero,ue]; exact Y6.alloc hcrl _,U⟩,?_⟩
   clear Y6
   rintro i m zs H7 ⟨rfl,hi,cr,n,Nw,rfl,ecr,hcr,mcr,bn,Y7,fl7⟩
   refine⟨Y7.at_ tM,?_⟩
   have glw:=Y7.at_ (tK _ (tL _ mlw))
   by_cases hlt:i<ws.length
   ·have hx0:(ws.map V.int)[i]?=some (.int ws[i]):=by rw[tS,tN hlt]; rfl
    refine .inr ⟨⟨_,_,SqL.of glw,hx0⟩,?_⟩
    rintro x H8 ⟨rfl,hx⟩
    have e1:=hx _ (SqL.of glw)
    rw[hx0] at e1
    cases e1
    obtain⟨w1,w2⟩:=hws _ (List.getElem_mem hlt)
    obtain⟨wn,ewn⟩:∃ wn:Nat,ws[i]=(wn:Int):=⟨ws[i].toNat,by omega⟩
    rw[ewn]
    refine⟨U,bJ ?_⟩
    refine⟨_,U,_,U,by omega,by omega,fun D hD=>?_⟩
    refine⟨fun j m zs H'=>m=wn - j/\j<=wn/\∃ rs:List Int,zs=rs.map V.int/\rs.length=j/\(∀ r ∈ rs,0<=r/\r<((ms.length+(n+j):Nat):Int))/\YIn t.c_Yard H' yp (yS (ms.map V.int++List.replicate (n+j) (.int 1))) ((D,.lst zs)::((crl,.lst (crV cr))::(Nw++L3)))/\rs=rgF (ms.length+n) j,⟨_,U,Nat.zero_le _,[],U,U,(fun z hz=>(nomatch hz)),Y7.alloc hD _,U⟩,?_⟩
    rintro j m zs H9 ⟨rfl,hj,rs,rfl,lrs,hrs,Y9,fl9⟩
    refine⟨Y9.at_ tM,?_⟩
    by_cases hjl:j<wn
    ·refine .inr ⟨(show j<(wn:Int).toNat by omega),?_⟩
     rintro x H10 ⟨rfl,rfl⟩
     refine⟨U,bJ ?_⟩
     obtain⟨Ay,gy⟩:=Y9.obj
     have ls:(ms.map V.int++List.replicate (n+j) (V.int 1)).length=ms.length+(n+j):=by rw[tW,tP,tZ]
     refine⟨_,U,yp,Ay.dx,_,U,gy,(bQ _ _ _).2.1,?_⟩
     refine tn0 ?_
     refine lG (x:=1) Y9 (.inl rfl) (by show(ms.map V.int++List.replicate (n+j) (V.int 1)).length<=10000; omega) (fun H11 Y11=>?_)
     refine⟨sizeOk (by rw[tP]; omega),Y11.at_ tM,wn - (j+1),by omega,U,hjl,rs++[((ms.length+(n+j):Nat):Int)],?_,by simp[lrs],?_,?_,by rw[lK,<- fl9,Nat.add_assoc]⟩
     ·rw[tU]
      show _++[V.int (ms.map V.int++List.replicate (n+j) (V.int 1)).length]=_
      rw[ls]; rfl
     ·intro r hr
      rcases tV.mp hr with hr | hr
      ·have:=hrs r hr; omega
      ·rw[tT.mp hr]; omega
     ·have e2:({ (yS (ms.map V.int++List.replicate (n+j) (V.int 1))) with sides:=(yS (ms.map V.int++List.replicate (n+j) (V.int 1))).sides++[.int 1],trail:=[] }:YR)=yS (ms.map V.int++List.replicate (n+(j+1)) (V.int 1)):=by
       rw[<- Nat.add_assoc,List.replicate_succ',<- tR]; rfl
      rw[<- e2]
      exact Y11.put0 _
    ·refine .inl ⟨(show(wn:Int).toNat<=j by omega),?_⟩
     have ej:j=wn:=by omega
     subst ej
     have lcr:(crV cr).length<=30:=by
      have:=congrArg List.length ecr
      rw[tP,ub] at this
      show(cr.map _).length<=30
      rw[tP]; omega
     refine⟨sizeOk (by omega),Y9.at_ (tK _ tM),ws.length - (i+1),by omega,U,hlt,cr++[(D,rs)],n+j,(D,.lst (rs.map V.int))::Nw,?_,?_,?_,?_,by omega,?_,by rw[List.flatMap_append,fl7,nO,fl9]; simp⟩
     ·show cr.map _++[V.ref D]=(cr++[(D,rs)]).map _
      rw[tU]; rfl
     ·rw[tU,ecr,bY (tN hlt),ewn]
      show _++[((rs.length:Nat):Int)]=_
      rw[lrs]
     ·intro z hz r hr
      rcases tV.mp hz with hz | hz
      ·have:=hcr z hz r hr; omega
      ·rw[tT.mp hz] at hr
       exact hrs r hr
     ·intro z hz
      rcases tV.mp hz with hz | hz
      ·exact tK _ (mcr z hz)
      ·rw[tT.mp hz]; exact tM
     ·exact((Y9.perm (.swap _ _ _)).put0 (.lst (crV cr++[.ref D])))
   ·refine .inl ⟨⟨_,SqL.of glw,by rw[tP]; omega⟩,?_⟩
    have ei:i=ws.length:=by omega
    subst ei
    rw[List.take_length] at ecr
    dsimp only[List.set]
    have c8:∀ z ∈ cr,z.2.length<=8:=fun z hz=>by
     have h:(z.2.length:Int) ∈ ws:=by rw[<- ecr]; exact tY (f:=fun z:Addr×List Int=>(z.2.length:Int)) hz
     have:=hws _ h
     omega
    have c1:∀ z ∈ cr,z.2≠[]:=fun z hz e=>by
     have h:(z.2.length:Int) ∈ ws:=by rw[<- ecr]; exact tY (f:=fun z:Addr×List Int=>(z.2.length:Int)) hz
     have:=(hws _ h).1
     rw[e] at this
     simp at this
    have lcr:cr.length=ws.length:=by have:=congrArg List.length ecr; rwa [tP] at this
    obtain⟨sd,esd⟩:∃ sd:List V,ms.map V.int++List.replicate n (V.int 1)=sd:=⟨_,U⟩
    have lsd:sd.length=ms.length+n:=by rw[<- esd,tW,tP,tZ]
    rw[esd] at Y7
    obtain⟨L4,eL4⟩:∃ L4:Kn,(crl,HO.lst (crV cr))::(Nw++L3)=L4:=⟨_,U⟩
    obtain⟨X4,eX4⟩:∃ X4:Kn,L4=X4++L:=⟨(crl,HO.lst (crV cr))::(Nw++[(lw,HO.lst (ws.map V.int)),(mrl,HO.lst ((rgI ms.length).map V.int)),(lm,HO.lst (ms.map V.int))]),by rw[<- eL4,<- eL3,<- eL2,<- eL1]; simp only[List.cons_append,tR,List.nil_append]⟩
    have toL4:∀ v ∈ L,v ∈ L4:=fun v hv=>by rw[<- eL4]; exact tK _ (tL _ (toL3 _ (toL2 _ hv)))
    have mmr4:(mrl,HO.lst ((rgI ms.length).map V.int)) ∈ L4:=by rw[<- eL4]; exact tK _ (tL _ (toL3 _ mmr))
    have mcl4:(crl,HO.lst (crV cr)) ∈ L4:=by rw[<- eL4]; exact tM
    have mcr4:∀ z ∈ cr,(z.1,HO.lst (z.2.map V.int)) ∈ L4:=fun z hz=>by rw[<- eL4]; exact tK _ (tQ _ (mcr z hz))
    rw[eL4] at Y7
    refine⟨by decide,fun dl hdl=>?_⟩
    have Y8:=Y7.alloc hdl (.lst (dsV []))
    dsimp only[List.set]
    clear Y7 glw hi hlt mcr
    have lss:(ssV ss).length=ss.length:=by unfold ssV; rw[tP]
    refine⟨_,U,B.p,B.dx,_,U,Y8.at_ (tK _ (toL4 _ pin.p)),(cL _).1,?_⟩
    refine tn0 ?_
    refine⟨B,_,U,Y8.at_ (tK _ (toL4 _ pin.p)),Y8.at_ (tK _ (toL4 _ pin.s)),?_⟩
    rw[lss]
    refine tn0 ?_
    refine⟨_,U,by omega,by omega,bB (fun k σ H'=>∃ (y':YR) (ds:List (Addr×List Pr)) (Nw:Kn) (o1:Option V),σ=[some (.ref B.p),some (.ref yp),some (.ref mrl),some (.ref crl),some (.ref dl),o1,none]/\ds.map (fun z=>z.2.length)=(ss.take k).map (fun z=>z.2.length)/\Ld y' (rln (ss.take k)) 0 sd.length/\y'.sides=sd/\Up (yS sd) y' /\
     Al y' (dF ds++dB ds)/\(∀ z ∈ ds,(z.1,HO.lst (prV z.2)) ∈ Nw)/\(∀ z ∈ ds,∀ x ∈ z.2,pK2 x ∈ Nw)/\YIn t.c_Yard H' yp y' ((dl,.lst (dsV ds))::(Nw++L4))/\∀ z ∈ ds,∀ x ∈ z.2,Dk y' x) ⟨yS sd,[],[],_,U,U,yS_ld sd,U,Up.refl _,⟨List.nodup_nil,fun x hx=>(nomatch hx)⟩,(fun z hz=>(nomatch hz)),(fun z hz=>(nomatch hz)),Y8,(fun z hz=>(nomatch hz))⟩ ?_ ?_⟩
    ·clear Y8
     rintro k σ H9 hk ⟨y1,ds,Nw,o1,rfl,eds,D1,es1,up1,al1,mdl,mde,Y1,dk1⟩
     have hkl:k<ss.length:=by omega
     have hz:=tN hkl
     obtain⟨z,ez⟩:∃ z,ss[k]=z:=⟨_,U⟩
     rw[ez] at hz
     have hgl:=lI (ss:=ss) (k+1)
     rw[dA hz] at hgl
     dsimp only[List.set]
     rw[Int.zero_add]
     have inB:∀ v ∈ L,v ∈ (dl,HO.lst (dsV ds))::(Nw++L4):=fun v hv=>tK _ (tL _ (toL4 v hv))
     refine⟨_,U,.inl ⟨U,_,SqL.of (Y1.at_ tM)⟩,_,U,B.p,B.dx,_,U,Y1.at_ (inB _ pin.p),iH _,_,U,?_⟩
     refine tn0 ?_
     obtain⟨A2,eA2,h2,re2⟩:=Y1.rac
     refine⟨B,ms,ws,ss,_,k,z,U,h2,pin.mono fun v hv=>tL _ (inB v hv),hz,fun H3 l h3=>?_⟩
     have Y3:YIn t.c_Yard H3 yp y1 ((dl,HO.lst (dsV ds))::((l,HO.lst (rwV z.2))::(Nw++L4))):=re2 (X:=[(l,HO.lst (rwV z.2))]) h3 (Ms.perm (by simp only[List.cons_append,List.nil_append,Ms.app,Ms.cons]; ac_rfl))
     clear h2 h3 eA2
     refine⟨l,U,⟨_,SqL.of (Y3.at_ (tK _ tM))⟩,fun D hD=>?_⟩
     obtain⟨N0,eN0⟩:∃ N0:Nat,rln (ss.take k)=N0:=⟨_,U⟩
     rw[eN0] at D1 hgl
     have lrw:(rwV z.2).length=z.2.length:=by unfold rwV; rw[tP]
     refine⟨fun j m zs H'=>m=z.2.length - j/\j<=z.2.length/\∃ (y':YR) (es:List Pr) (N2:Kn),zs=prV es/\es.length=j/\Ld y' (N0+j) 0 sd.length/\y'.sides=sd/\Up (yS sd) y'/\Al y' (es.map (·.2)++(es.map (fun e=>(e.2.1,1))++(dF ds++dB ds)))/\(∀ x ∈ es,pK2 x ∈ N2)/\YIn t.c_Yard H' yp y' ((D,.lst zs)::((dl,HO.lst (dsV ds))::(N2++((l,HO.lst (rwV z.2))::(Nw++L4)))))/\(∀ z ∈ ds,∀ x ∈ z.2,Dk y' x)/\∀ x ∈ es,Dk y' x,⟨_,U,Nat.zero_le _,y1,[],[],U,U,D1,es1,up1,al1,(fun z hz=>(nomatch hz)),Y3.alloc hD _,dk1,(fun z hz=>(nomatch hz))⟩,?_⟩
     clear Y3 D1 es1 up1 al1 dk1
     rintro j m zs H4 ⟨rfl,hj,y4,es,N2,rfl,les,D4,es4,up4,al4,mes,Y4,dk4,de4⟩
     refine⟨Y4.at_ tM,?_⟩
     have gl:=Y4.at_ (z:=(l,HO.lst (rwV z.2))) (tK _ (tK _ (tL _ tM)))
     have lpv:(prV es).length=es.length:=by unfold prV; rw[tP]
     by_cases hlt:j<z.2.length
     ·have hx0:(rwV z.2)[j]?=some (.ref z.2[j].1):=jH (tN hlt)
      refine .inr ⟨⟨_,_,SqL.of gl,hx0⟩,?_⟩
      rintro x H5 ⟨rfl,hx⟩
      refine⟨U,bJ ?_⟩
      obtain⟨Ay,gy⟩:=Y4.obj
      refine⟨_,U,yp,Ay.dx,_,U,gy,(bQ _ _ _).1,?_⟩
      refine tc1 ?_
      refine cG Y4 D4 ⟨by omega,by omega,by omega⟩ .line 0 .non (fun c=>nomatch c) (fun c=>nomatch c) (fun H6 Y6=>?_)
      have al6:=al4.lay2 D4 .line 0 .non rfl
      have D6:=D4.lay .line 0 .non
      have up6:=up4.trans (D4.up .line 0 .non)
      refine⟨(show 2<=sizeLine by decide),fun b hb=>?_⟩
      have Y7:=Y6.alloc hb (.tup [.int ((N0+j:Nat):Int),.int 0])
      refine⟨sizeOk (by rw[lpv]; omega),Y7.at_ (tK _ tM),z.2.length - (j+1),by omega,U,hlt,_,es++[(b,((N0+j:Nat):Int),0)],(b,.tup [.int ((N0+j:Nat):Int),.int 0])::N2,?_,by simp[les],D6,es4,up6,?_,?_,?_,(fun z hz x hx=>(dk4 z hz x hx).up (D4.up .line 0 .non)),ju (fun x hx=>(de4 x hx).up (D4.up .line 0 .non)) ⟨Kp.lay D4 .line 0 .non,U⟩⟩
      ·unfold prV; rw[tU]; rfl
      ·refine al6.perm ?_
       rw[tU,tU]
       show List.Perm ((((N0+j:Nat):Int),0)::(((N0+j:Nat):Int),1)::_) ((es.map (·.2)++[(((N0+j:Nat):Int),0)])++((es.map (fun e=>(e.2.1,1))++[(((N0+j:Nat):Int),1)])++(dF ds++dB ds)))
       rw[tR,tR]
       refine((List.Perm.cons _ ?_).trans List.perm_middle.symm)
       refine(List.perm_middle (l₁:=es.map (fun x:Pr=>x.2))).symm.trans (List.Perm.append_left _ ?_)
       exact List.perm_middle.symm
      ·exact ju (fun x hx=>tK _ (mes x hx)) tM
      ·exact((Y7.perm ((List.Perm.swap _ _ _).trans (.cons _ (.swap _ _ _)))).put0 _)
     ·refine .inl ⟨⟨_,SqL.of gl,by rw[lrw]; omega⟩,?_⟩
      have ej:j=z.2.length:=by omega
      have lds:(dsV ds).length<=40:=by
       have:=congrArg List.length eds
       rw[tP,tP,ub] at this
       show(ds.map _).length<=40
       rw[tP]; omega
      refine tn0 ?_
      refine⟨dl,_,_,U,U,Y4.at_ (tK _ tM),sizeOk (by omega),?_⟩
      refine⟨y4,ds++[(D,es)],(D,.lst (prV es))::(N2++((l,HO.lst (rwV z.2))::Nw)),_,U,?_,?_,es4,up4,?_,?_,?_,?_,ju dk4 de4⟩
      ·rw[tU,eds,bY hz,tU]
       show _++[es.length]=_++[z.2.length]
       rw[les,ej]
      ·rw[dA hz,eN0,<- ej]; exact D4
      ·refine al4.perm ?_
       have e1:dF (ds++[(D,es)])=dF ds++es.map (·.2):=by unfold dF; rw[List.flatMap_append]; simp
       have e2:dB (ds++[(D,es)])=dB ds++es.map (fun e=>(e.2.1,1)):=by unfold dB; rw[List.flatMap_append]; simp
       rw[e1,e2]
       generalize es.map (fun x:Pr=>x.2)=a
       generalize es.map (fun e:Pr=>(e.2.1,(1:Int)))=b
       generalize dF ds=c
       generalize dB ds=d
       rw[tR]
       refine apc.trans ?_
       refine List.perm_append_comm.trans ?_
       rw[tR,tR]
       exact apc
      ·exact ju (fun z hz=>tK _ (tL _ (tK _ (mdl z hz)))) tM
      ·exact ju (fun z hz x hx=>tK _ (tL _ (tK _ (mde z hz x hx)))) (fun x hx=>tK _ (tQ _ (mes x hx)))
      ·have Y5:=(Y4.perm (.swap _ _ _)).put0 (.lst (dsV ds++[.ref D]))
       rw[show dsV (ds++[(D,es)])=dsV ds++[.ref D] by show(ds++[(D,es)]).map _=_; rw[tU]; rfl]
       exact dt Y5 (by simp only[List.cons_append,tR])
    ·clear Y8
     rintro σ H9 ⟨y1,ds,Nw,o1,rfl,eds,D1,es1,up1,al1,mdl,mde,Y1,dk1⟩
     rw[Int.toNat_natCast,List.take_length] at eds D1
     have dm:DMt ds ss:=eds
     have hls:1<=ss.length:=by
      cases ss with
      | nil=>exact absurd rfl hne
      | cons=>exact Nat.succ_le_succ (Nat.zero_le _)
     refine⟨_,U,_,U,_,U,_,U,?_⟩
     refine tn0 ?_
     intro lp ldx hl1 hl2 hl3
     obtain⟨A2,eA2,h2,re2⟩:=Y1.rac
     have up':∀ v ∈ (dl,HO.lst (dsV ds))::(Nw++L4),v ∈ yL t.c_Yard A2 y1++((dl,HO.lst (dsV ds))::(Nw++L4)):=fun v hv=>tL _ hv
     have in4:∀ v ∈ L4,v ∈ (dl,HO.lst (dsV ds))::(Nw++L4):=fun v hv=>tK _ (tL _ hv)
     have inN:∀ v ∈ Nw,v ∈ (dl,HO.lst (dsV ds))::(Nw++L4):=fun v hv=>tK _ (tQ _ hv)
     have rl1:∀ z ∈ ds,z.2.length<=500:=fun z hz=>by
      obtain⟨j,hj⟩:=List.mem_iff_getElem?.mp hz
      have e:(ss.map fun z=>z.2.length)[j]?=some z.2.length:=by rw[<- eds,tS,hj]; rfl
      have:z.2.length<=rln ss:=nV (tO e)
      omega
     refine⟨lp,ldx,yp,dl,mrl,crl,ds,rgI ms.length,cr,_,U,(h2.alloc hl2 _).alloc (by rw[aH (Ne.symm hl3)]; exact hl1) _,up' _ tM,fun z hz=>up' _ (inN _ (mdl z hz)),fun z hz x hx=>up' _ (inN _ (mde z hz x hx)),up' _ (in4 _ mmr4),up' _ (in4 _ mcl4),fun z hz=>up' _ (in4 _ (mcr4 z hz)),by rw[dm.len]; omega,rl1,(List.nodup_append.mp al1.1).1,fun H3 A3 N3 eA3 e3y e3d e3m e3c mA3 rA3 h3=>⟨U,?_⟩⟩
     dsimp only[eL,List.set]
     subst eA3
     obtain⟨L5,eL5⟩:∃ L5:Kn,N3++((dl,HO.lst (dsV ds))::(Nw++L4))=L5:=⟨_,U⟩
     have to5:∀ v ∈ (dl,HO.lst (dsV ds))::(Nw++L4),v ∈ L5:=fun v hv=>by rw[<- eL5]; exact tL _ hv
     have mA5:(A3.p,HO.ins t.c_Laid A3.dx (lfl A3)) ∈ L5:=by rw[<- eL5]; exact tQ _ mA3
     have Y5:YIn t.c_Yard H3 A3.y y1 L5:=e3y ▸ re2 (X:=N3) h3 (Ms.perm (by rw[<- eL5]; simp only[Ms.app,Ms.cons]; ac_rfl))
     have lin:LIn t.c_Laid A3 ds (rgI ms.length) cr L5:=⟨mA5,by rw[e3d]; exact to5 _ tM,fun z hz=>to5 _ (inN _ (mdl z hz)),fun z hz x hx=>to5 _ (inN _ (mde z hz x hx)),by rw[e3m]; exact to5 _ (in4 _ mmr4),by rw[e3c]; exact to5 _ (in4 _ mcl4),fun z hz=>to5 _ (in4 _ (mcr4 z hz))⟩
     have pin5:PIn t.c_Program B ms ws ss L5:=pin.mono fun v hv=>to5 _ (in4 _ (toL4 v hv))
     have rok:ROk (rgI ms.length) cr y1.sides.length:=by
      rw[es1,lsd]
      exact⟨fun r hr=>by have:=nN hr; omega,hcr,fun z hz=>⟨c1 z hz,c8 z hz⟩⟩
     have good':Good (rgI ms.length).length cr.length ss:=by rw[g6,lcr]; exact good
     have brc:=lL c8 ss
     clear h2 h3 hl1 hl2 hl3 up'
     refine⟨_,U,_,U,?_⟩
     refine tn0 ?_
     refine⟨A3.y,y1,L5,A3,B,ds,rgI ms.length,cr,ms,ws,ss,rln ss,0,sd.length,U,U,Y5,lin,pin5,good',dm,D1,al1,rok,by omega,by omega,by omega,by omega,fun H6 y6 N6 N6' M6' D6 bN6 up6 lw6 Y6=>?_⟩
     have h0:0<ss.length:=hls
     have hz0:=tN h0
     obtain⟨u,hu,lu⟩:=dm.get hz0
     have hr0:0<ss[0].2.length:=by
      obtain⟨_,a',y',h',_⟩:=good 0 _ hz0
      cases e:ss[0].2 with
      | nil=>rw[e] at h'; cases h'
      | cons=>exact Nat.succ_pos _
     have he:=tN (l:=u.2) (i:=0) (by omega)
     obtain⟨e,ee⟩:∃ e,u.2[0]'(by omega)=e:=⟨_,U⟩
     rw[ee] at he
     have hum:=tO hu
     have hem:=tO he
     have the:There y6 e.2.1 e.2.2:=(al1.2 e.2 (tQ _ (List.mem_flatMap.mpr ⟨u,hum,tY (f:=fun x:Pr=>x.2) hem⟩))).1.up up6
     have gA:=Y6.at_ (tL _ mA5)
     obtain⟨Ay,gy⟩:=Y6.obj
     rw[e3y] at gy
     refine⟨_,U,yp,Ay.dx,_,U,gy,(gN _ _ _).1,_,U,A3.p,A3.dx,_,U,gA,(eJ _).1,?_⟩
     refine tc2 ?_
     refine⟨A3,ds,rgI ms.length,cr,L5,0,0,u,e,U,fun v hv=>Y6.at_ (tL _ hv),lin,hu,he,?_⟩
     refine tn0 ?_
     have me7:pK2 e ∈ N6++L5:=tL _ (lin.de u hum e hem)
     refine e3y ▸ qx (z:=e) Y6 me7 the (fun H8 Y8=>?_)
     refine⟨_,U,?_⟩
     have eF:N6++L5=(N6++(N3++((dl,HO.lst (dsV ds))::(Nw++X4))))++L:=by
      rw[<- eL5,eX4]
      simp only[List.cons_append,tR]
     obtain⟨kvs,mk,kk⟩:=rA3
     refine q H8 A3 (N6++(N3++((dl,HO.lst (dsV ds))::(Nw++X4)))) cr ds u e y6 N6' M6' sd.length D6 bN6 ecr (by rw[<- eF]; exact lin.mono fun v hv=>tL _ hv) ⟨kvs,tL _ (tQ _ mk),kk.mono fun v hv=>tL _ (tQ _ hv)⟩ dm hu he (fun z hz x hx=>⟨(dk1 z hz x hx).up up6,D1.lt (al1.2 x.2 (tQ _ (List.mem_flatMap.mpr ⟨z,hz,tY (f:=fun x:Pr=>x.2) hx⟩))).1⟩) (rok.up up6) ⟨n,by rw[esd,<- es1]; exact up6.s,fl7⟩ (by rw[<- eF]; exact lw6) (by rw[<- eF]; exact Y8)
end
inductive Rn (w:Wd):Nat->Sd->Sd->Prop
 | refl (s:Sd):Rn w 0 s s
 | step {n:Nat}{s t u:Sd} (h:w.nx s=some t) (r:Rn w n t u):Rn w (n+1) s u
theorem Rn.trans {w:Wd}{n m:Nat}{s t u:Sd} (h:Rn w n s t) (g:Rn w m t u):Rn w (n+m) s u:=by
 induction h with
 | refl s=>rw[Nat.zero_add]; exact g
 | @step n s t v h _ ih=>
  have:=Rn.step h (ih g)
  rw[show n+1+m=n+m+1 by omega]
  exact this
noncomputable def AtE (s:Sd) (z:Int×Int) (ss rg:List Int):Prop:=(∃ a,s.at_=some (a,z))/\s.ss=ss/\s.rg=rg
noncomputable def Out (w:Wd) (s:Sd) (x:Int×Int) (ss rg:List Int):Prop:=(∃ z,w.mf x.1 x.2=some z/\s.at_=some z)/\s.ss=ss/\s.rg=rg
variable{s:Sd}
theorem Out.at_ {w:Wd}{x z:Int×Int}{ss rg:List Int}{y:YR} (h:Out w s x ss rg) (W:WY w y L) (m:Mt y L x z):AtE s z ss rg:=by
 obtain⟨⟨u,h1,h2⟩,h3⟩:=h
 obtain⟨a,h4⟩:=W.m _ _ m
 rw[h1] at h4
 cases h4
 exact⟨⟨a,h2⟩,h3⟩
theorem iA (l:List Int) (i:Nat):l.set i (l.getD i 0)=l:=by
 refine List.ext_getElem? fun j=>?_
 rw[List.getElem?_set]
 split
 ·rename_i c
  subst c
  split
  ·rename_i hi
   rw[List.getD_eq_getElem?_getD,tN hi]; rfl
  ·rename_i hi
   rw[List.getElem?_eq_none (by omega)]
 ·rfl
theorem AtE.step {w:Wd}{s:Sd}{p e o:Int}{ss rg:List Int}{k:Kd}{z:En} (h:AtE s (p,e) ss rg) (hk:w.kf p=some k) (ho:k.out e (ss.getD (w.rf p).toNat 0)=.int o) (hm:w.mf p o=some z) :
  ∃ t,w.nx s=some t/\Out w t (p,o) (if k.point then ss.set (w.rf p).toNat (k.side e (ss.getD (w.rf p).toNat 0)) else ss) (if k=.bell then rg++[w.nf p] else rg):=by
 obtain⟨⟨a,h1⟩,rfl,rfl⟩:=h
 refine⟨bf w s (a,p,e) k z,?_,⟨z,hm,U⟩,U,U⟩
 unfold Wd.nx
 rw[h1]
 show(match w.kf p with | none=>none | some k=>match k.out e (w.sv s p) with | .int o=>(w.mf p o).map (bf w s (a,p,e) k) | _=>none)=_
 rw[hk]
 show(match k.out e (w.sv s p) with | .int o=>(w.mf p o).map (bf w s (a,p,e) k) | _=>none)=_
 rw[show k.out e (w.sv s p)=.int o from ho]
 show(w.mf p o).map _=_
 rw[hm]
 rfl
theorem nZ {w:Wd} (h:w.nx s=none):∀ k,w.go k s=s/\w.hist k s=[]
 | 0=>⟨U,U⟩
 | k+1=>by
  constructor
  ·show(match w.nx s with | none=>s | some s'=>w.go k s')=_
   rw[h]
  ·show(match w.nx s with | none=>[] | some s'=>s::w.hist k s')=_
   rw[h]
theorem AtE.stop {w:Wd}{y:YR}{q:Int}{ss rg:List Int} (W:WY w y L) (k:Kp y q .stop) (h:AtE s (q,0) ss rg):w.nx s=none/\w.why s=.str "stop":=by
 obtain⟨⟨a,h1⟩,_⟩:=h
 exact fu h1 (W.k _ _ k) rfl
inductive Rv (w:Wd) (Dr:Int×Int->Prop):Nat->Sd->Sd->Prop
 | refl (s:Sd):Rv w Dr 0 s s
 | step {n:Nat}{s t u:Sd} (nd:∀ a z,s.at_=some (a,z)->¬ Dr z) (h:w.nx s=some t) (r:Rv w Dr n t u):Rv w Dr (n+1) s u
theorem Rv.trans {w:Wd}{Dr:Int×Int->Prop}{n m:Nat}{s t u:Sd} (h:Rv w Dr n s t) (g:Rv w Dr m t u):Rv w Dr (n+m) s u:=by
 induction h with
 | refl s=>rw[Nat.zero_add]; exact g
 | @step n s t v nd h _ ih=>
  have:=Rv.step nd h (ih g)
  rw[show n+1+m=n+m+1 by omega]
  exact this
noncomputable def DrOk (y:YR) (nd:Int) (Dr:Int×Int->Prop):Prop:=∀ z,Dr z->Kp y z.1 .line/\z.1<nd
section
variable {w:Wd}{y:YR}{L:Kn}{s t:Sd}{ss rg:List Int}{Dr:Int×Int->Prop}{nd:Int}{n e:Int}{k:Kd}
theorem AtE.ndr (h:AtE s (n,e) ss rg) (hd:¬ Dr (n,e)):∀ a z,s.at_=some (a,z)->¬ Dr z:=fun a z hz=>by
 obtain⟨⟨b,hb⟩,_⟩:=h
 rw[hb] at hz
 cases hz
 exact hd
theorem DrOk.kd (hD:DrOk y nd Dr) (h:Kp y n k) (hk:k≠.line):¬ Dr (n,e):=fun c=>by
 have:=(hD _ c).1
 unfold Kp at this h
 rw[h] at this
 injection this with this
 injection this with this
 exact hk (Kd.str_inj this)
theorem DrOk.nm (hD:DrOk y nd Dr) (h:nd<=n):¬ Dr (n,e):=fun c=>by
 have:=(hD _ c).2
 have h:nd<=n:=h
 omega
theorem AtE.kd (h:AtE s (n,e) ss rg) (hD:DrOk y nd Dr) (hk:Kp y n k) (ne:k≠.line) (nx:w.nx s=some t):Rv w Dr 1 s t:=.step (h.ndr (hD.kd hk ne)) nx (.refl _)
theorem AtE.nm (h:AtE s (n,e) ss rg) (hD:DrOk y nd Dr) (hk:nd<=n) (nx:w.nx s=some t):Rv w Dr 1 s t:=.step (h.ndr (hD.nm hk)) nx (.refl _)
end
theorem LdB.mate {y:YR}{b:Nat}{x z:Int×Int} (h:LdB y L b x z):∃ u,Mt y L x u:=by
 obtain⟨_,w',_,c,m⟩:=h
 cases c with
 | refl=>exact⟨_,m⟩
 | still m1 _ _ _=>exact⟨_,m1⟩
theorem LdB.walk {w:Wd}{y:YR}{b:Nat}{x z:Int×Int}{Dr:Int×Int->Prop} (W:WY w y L) (hD:DrOk y nd Dr) (h:LdB y L b x z):∀ {s:Sd}{ss rg:List Int},Out w s x ss rg->∃ n t,n<=b/\Rv w Dr n s t/\AtE t z ss rg:=by
 obtain⟨n0,w',hb,c,m⟩:=h
 induction c generalizing b with
 | refl x=>intro s ss rg o; exact⟨0,s,Nat.zero_le _,.refl _,o.at_ W m⟩
 | @still n1 x w' p a m1 k ha c ih=>
  intro s ss rg o
  have at1:=o.at_ W m1
  obtain⟨u,mu⟩:=LdB.mate (b:=n1) ⟨_,w',Nat.le_refl _,c,m⟩
  obtain⟨b9,hb9⟩:=W.m _ _ mu
  have ea:a≠0:=by rcases ha with rfl | rfl <;> decide
  obtain⟨t,nx,o'⟩:=at1.step (o:=0) (W.k _ _ k) (by unfold Kd.out; rw[if_neg (by decide),if_pos (show Kd.still.point=true from rfl),if_neg ea]) hb9
  have e1:(if Kd.still.point=true then ss.set (w.rf p).toNat (Kd.still.side a (ss.getD (w.rf p).toNat 0)) else ss)=ss:=by
   rw[if_pos (show Kd.still.point=true from rfl)]
   unfold Kd.side
   rw[if_pos (show Kd.still.point=true from rfl),if_neg ea,if_neg (by decide)]
   exact iA _ _
  rw[e1,if_neg (by decide)] at o'
  obtain⟨n,t',hn,r,g⟩:=ih (b:=b - 1) (by omega) m o'
  exact⟨n+1,t',by omega,.step (at1.ndr (hD.kd k (by decide))) nx r,g⟩
theorem Lead.mate {y:YR}{x z:Int×Int} (h:Lead y L x z):∃ u,Mt y L x u:=by
 obtain⟨_,_,h⟩:=h
 exact h.mate
theorem Lead.walk {w:Wd}{y:YR}{x z:Int×Int}{B:Nat}{Dr:Int×Int->Prop} (W:WY w y L) (hD:DrOk y nd Dr) (hB:y.next<=B) (h:Lead y L x z) {ss rg:List Int} (g:Out w s x ss rg):∃ n t,n<=B/\Rv w Dr n s t/\AtE t z ss rg:=by
 obtain⟨b,h1,h2⟩:=h
 obtain⟨n,t,h3,h4⟩:=h2.walk W hD g
 exact⟨n,t,by omega,h4⟩
section
variable {w:Wd}{y:YR}{L:Kn}{s:Sd}{ss rg:List Int}
theorem df {n:Int}{u:Int×Int} (W:WY w y L) (k:Kp y n .line) (m:Mt y L (n,1) u) (h:AtE s (n,0) ss rg):∃ t,w.nx s=some t/\Out w t (n,1) ss rg:=by
 obtain⟨a,hm⟩:=W.m _ _ m
 obtain⟨t,nx,g⟩:=h.step (o:=1) (W.k _ _ k) rfl hm
 rw[if_neg (show ¬ Kd.line.point=true by decide),if_neg (by decide)] at g
 exact⟨t,nx,g⟩
variable {mr:List Int}{cr:List (Addr×List Int)}{x:Int×Int}{o:List (Int×Int)}{Dr:Int×Int->Prop}{nd:Int}
theorem kP {n:Int} (W:WY w y L) (hD:DrOk y nd Dr) (d:DD y L nd mr cr x (.bell n) o) (h:Out w s x ss rg) (ms:∀ z ∈ o,∃ u,Mt y L z u):∃ z t,o=[z]/\Rv w Dr 1 s t/\Out w t z ss (rg++[n]):=by
 obtain⟨b,m,k,hn,rfl⟩:=d
 have at0:=h.at_ W m
 obtain⟨u,mu⟩:=ms (b,1) tM
 obtain⟨a,hm⟩:=W.m _ _ mu
 obtain⟨t,nx,g⟩:=(h.at_ W m).step (o:=1) (W.k _ _ k) rfl hm
 rw[if_neg (show ¬ Kd.bell.point=true by decide),if_pos rfl,W.n _ _ hn] at g
 exact⟨_,t,U,at0.kd hD k (by decide) nx,g⟩
theorem lh {m sd:Int} (W:WY w y L) (hD:DrOk y nd Dr) (d:DD y L nd mr cr x (.set m sd) o) (h:Out w s x ss rg) (hs:sd=1∨sd=2) (ms:∀ z ∈ o,∃ u,Mt y L z u):∃ r z t,mr[m.toNat]?=some r/\o=[z]/\Rv w Dr 1 s t/\Out w t z (ss.set r.toNat sd) rg:=by
 obtain⟨b,r,hr,m1,k,hn,rfl⟩:=d
 have at0:=h.at_ W m1
 obtain⟨u,mu⟩:=ms (b,0) tM
 obtain⟨a,hm⟩:=W.m _ _ mu
 have ea:sd≠0:=by rcases hs with rfl | rfl <;> decide
 obtain⟨t,nx,g⟩:=(h.at_ W m1).step (o:=0) (W.k _ _ k) (by rw[Kd.out_point rfl,if_neg ea]) hm
 rw[if_pos (show Kd.lazy.point=true from rfl),if_neg (by decide),W.r _ _ hn] at g
 unfold Kd.side at g
 rw[if_pos (show Kd.lazy.point=true from rfl),if_neg ea,if_pos rfl] at g
 exact⟨r,_,t,hr,U,at0.kd hD k (by decide) nx,g⟩
theorem nu {m r1 r2:Int} (W:WY w y L) (hD:DrOk y nd Dr) (d:DD y L nd mr cr x (.ask m r1 r2) o) (h:Out w s x ss rg) (ms:∀ z ∈ o,∃ u,Mt y L z u) (s12:∀ q ∈ ss,q=1∨q=2) (hr:∀ r,mr[m.toNat]?=some r->r.toNat<ss.length) :
  ∃ r z t,mr[m.toNat]?=some r/\o[(ss.getD r.toNat 0 - 1).toNat]?=some z/\Rv w Dr 1 s t/\Out w t z ss rg:=by
 obtain⟨b,r,er,m1,k,hn,rfl⟩:=d
 have at0:=h.at_ W m1
 have hl:=hr r er
 have hq:=s12 _ (List.getElem_mem hl)
 have eg:ss.getD r.toNat 0=ss[r.toNat]:=by rw[List.getD_eq_getElem?_getD,tN hl]; rfl
 rw[<- eg] at hq
 obtain⟨v,ev⟩:∃ v,ss.getD r.toNat 0=v:=⟨_,U⟩
 rw[ev] at hq
 have mem:(b,v) ∈ [(b,(1:Int)),(b,2)]:=by rcases hq with rfl | rfl <;> simp
 obtain⟨u,mu⟩:=ms (b,v) mem
 obtain⟨a,hm⟩:=W.m _ _ mu
 have ef:=W.r _ _ hn
 obtain⟨t,nx,g⟩:=(h.at_ W m1).step (o:=v) (W.k _ _ k) (by rw[Kd.out_point rfl,if_pos rfl,ef,ev]) hm
 rw[if_pos (show Kd.still.point=true from rfl),if_neg (by decide)] at g
 unfold Kd.side at g
 rw[if_pos (show Kd.still.point=true from rfl),if_pos rfl,if_neg (by decide),iA] at g
 refine⟨r,(b,v),t,er,?_,at0.kd hD k (by decide) nx,g⟩
 rw[ev]
 rcases hq with rfl | rfl <;> rfl
end
noncomputable def aY:List Int->List Int->Bool×List Int
 | [],ss=>(false,ss)
 | r::rs,ss=>if ss.getD r.toNat 0=1 then(true,ss.set r.toNat 2) else aY rs (ss.set r.toNat 1)
theorem f9 (r:Int):∀ (rs ss:List Int),aY (rs++[r]) ss=if (aY rs ss).1=true then aY rs ss else(if (aY rs ss).2.getD r.toNat 0=1 then(true,(aY rs ss).2.set r.toNat 2) else(false,(aY rs ss).2.set r.toNat 1))
 | [],ss=>rfl
 | a::rs,ss=>by
  show(if ss.getD a.toNat 0=1 then(true,ss.set a.toNat 2) else aY (rs++[r]) (ss.set a.toNat 1))=_
  have e:aY (a::rs) ss=if ss.getD a.toNat 0=1 then(true,ss.set a.toNat 2) else aY rs (ss.set a.toNat 1):=rfl
  by_cases c:ss.getD a.toNat 0=1
  ·rw[e,if_pos c,if_pos c,if_pos rfl]
  ·rw[e,if_neg c,if_neg c]
   exact f9 r rs _
theorem dg:∀ (rs ss:List Int),(aY rs ss).2.length=ss.length
 | [],ss=>rfl
 | a::rs,ss=>by
  show(if ss.getD a.toNat 0=1 then(true,ss.set a.toNat 2) else aY rs (ss.set a.toNat 1)).2.length=_
  split
  ·exact List.length_set ..
  ·rw[dg]; exact List.length_set ..
theorem gf:∀ (rs ss:List Int),(∀ q ∈ ss,q=1∨q=2)->∀ q ∈ (aY rs ss).2,q=1∨q=2
 | [],ss,h=>h
 | a::rs,ss,h=>by
  show ∀ q ∈ (if ss.getD a.toNat 0=1 then(true,ss.set a.toNat 2) else aY rs (ss.set a.toNat 1)).2,_
  split
  ·intro q hq
   rcases List.mem_or_eq_of_mem_set hq with hq | rfl
   ·exact h q hq
   ·exact .inr rfl
  ·refine gf rs _ fun q hq=>?_
   rcases List.mem_or_eq_of_mem_set hq with hq | rfl
   ·exact h q hq
   ·exact .inl rfl
theorem TT.walk {w:Wd}{y:YR}{x o:Int×Int}{rs:List Int}{Dr:Int×Int->Prop} (W:WY w y L) (hD:DrOk y nd Dr) (h:TT y L x l rs o):∀ {s:Sd}{ss rg:List Int},Out w s x ss rg->(∀ z ∈ l,∃ u,Mt y L z u)->(∃ u,Mt y L o u)->(∀ q ∈ ss,q=1∨q=2)->(∀ r ∈ rs,r.toNat<ss.length) ->
  ∃ n t,n<=rs.length/\Rv w Dr n s t/\(((aY rs ss).1=true/\∃ z ∈ l,Out w t z (aY rs ss).2 rg)∨((aY rs ss).1=false/\Out w t o (aY rs ss).2 rg)):=by
 induction h with
 | nil=>intro s ss rg g _ _ _ _; exact⟨0,s,Nat.zero_le _,.refl _,.inr ⟨U,g⟩⟩
 | @snoc l rs o p r tt m1 m2 k hr ih=>
  intro s ss rg g ms mo s12 hl
  obtain⟨n,t,bn,rn,q⟩:=ih g (fun z hz=>ms z (tQ _ hz)) ⟨_,m1⟩ s12 (fun r' h'=>hl r' (tQ _ h'))
  rw[f9]
  rcases q with ⟨q1,z,hz,q2⟩ | ⟨q1,q2⟩
  ·rw[if_pos q1]
   exact⟨n,t,by rw[tW]; omega,rn,.inl ⟨q1,z,tQ _ hz,q2⟩⟩
  ·rw[if_neg (by rw[q1]; decide)]
   have len:=dg rs ss
   have t12:=gf rs ss s12
   generalize (aY rs ss).2=s1 at q2 len t12 ⊢
   have hlr:r.toNat<s1.length:=by rw[len]; exact hl r (tL _ tM)
   have hq:=t12 _ (List.getElem_mem hlr)
   have eg:s1.getD r.toNat 0=s1[r.toNat]:=by rw[List.getD_eq_getElem?_getD,tN hlr]; rfl
   rw[<- eg] at hq
   obtain⟨v,ev⟩:∃ v,s1.getD r.toNat 0=v:=⟨_,U⟩
   rw[ev] at hq ⊢
   have ef:=W.r _ _ hr
   have mv:∃ u,Mt y L (p,v) u:=by
    rcases hq with rfl | rfl
    ·exact ms _ (tL _ tM)
    ·exact mo
   obtain⟨u,mu⟩:=mv
   obtain⟨a,hm⟩:=W.m _ _ mu
   have at0:=q2.at_ W m1
   obtain⟨t',nx,g'⟩:=at0.step (o:=v) (W.k _ _ k) (by rw[Kd.out_point rfl,if_pos rfl,ef,ev]) hm
   rw[if_pos (show Kd.turning.point=true from rfl),if_neg (by decide),ef,ev] at g'
   unfold Kd.side at g'
   rw[if_pos (show Kd.turning.point=true from rfl),if_pos rfl,if_pos rfl] at g'
   refine⟨n+1,t',by rw[tW,t7]; omega,rn.trans (at0.kd hD k (by decide) nx),?_⟩
   rcases hq with rfl | rfl
   ·rw[if_pos rfl]
    exact .inl ⟨U,(p,1),tL _ tM,g'⟩
   ·rw[if_neg (by decide)]
    exact .inr ⟨U,g'⟩
theorem TT.mate {y:YR}{x o:Int×Int}{rs:List Int} (h:TT y L x l rs o) (m:∃ u,Mt y L o u):∃ u,Mt y L x u:=by
 induction h with
 | nil=>exact m
 | snoc _ m1 _ _ _ ih=>exact ih ⟨_,m1⟩
theorem kO {w:Wd}{y:YR}{x:Int×Int}{ss rg:List Int}{c r:Int}{Dr:Int×Int->Prop}{B:Nat} (W:WY w y L) (hD:DrOk y nd Dr) (hB:y.next<=B) (d:DD y L nd mr cr x (.bump c r) o) (h:Out w s x ss rg) (ms:∀ z ∈ o,∃ u,Mt y L z u) (s12:∀ q ∈ ss,q=1∨q=2)
  (hl:∀ z,cr[c.toNat]?=some z->∀ r ∈ z.2,r.toNat<ss.length) :
  ∃ z e n t,cr[c.toNat]?=some z/\o[if (aY z.2 ss).1=true then 0 else 1]?=some e/\n<=z.2.length+B+2/\Rv w Dr n s t/\Out w t e (aY z.2 ss).2 rg:=by
 obtain⟨b,n,z,zs,v,hnd,hz,m1,k1,k2,tt,ld,rfl⟩:=d
 have mv:=ms v (tK _ tM)
 obtain⟨u0,mu0⟩:=tt.mate mv
 have at0:=h.at_ W m1
 obtain⟨t1,nx1,g1⟩:=df W k1 mu0 at0
 obtain⟨n2,t2,b2,r2,g2⟩:=tt.walk W hD g1 (fun e he=>(ld e he).mate) mv s12 (hl z hz)
 rcases g2 with ⟨q1,e,he,g2⟩ | ⟨q1,g2⟩
 ·obtain⟨n3,t3,b3,r3,g3⟩:=(ld e he).walk W hD hB g2
  obtain⟨u1,mu1⟩:=ms (n,1) tM
  obtain⟨t4,nx4,g4⟩:=df W k2 mu1 g3
  exact⟨z,(n,1),_,t4,hz,by rw[if_pos q1]; rfl,(show 1+n2+(n3+1)<=_ by omega),((at0.nm hD hnd.1 nx1).trans r2).trans (r3.trans (g3.nm hD hnd.2 nx4)),g4⟩
 ·exact⟨z,v,_,t2,hz,by rw[if_neg (by rw[q1]; decide)]; rfl,(show 1+n2<=_ by omega),(at0.nm hD hnd.1 nx1).trans r2,g2⟩
theorem DD.len {y:YR}{x:Int×Int}{w:Rw} (h:DD y L nd mr cr x w o) (hd:w.deedy=true):o.length=w.outs:=by
 cases w with
 | bell n=>obtain⟨b,_,_,_,rfl⟩:=h; rfl
 | set m d=>obtain⟨b,r,_,_,_,_,rfl⟩:=h; rfl
 | ask m d e=>obtain⟨b,r,_,_,_,_,rfl⟩:=h; rfl
 | bump c r=>obtain⟨b,n,z,zs,v,_,_,_,_,_,_,_,rfl⟩:=h; rfl
 | go _=>rw[show o=[x] from h]; rfl
 | fin=>cases hd
noncomputable def Act (mr:List Int) (cr:List (Addr×List Int)) (ss rg:List Int) (j:Nat) (ss' rg':List Int):Rw->Prop
 | .bell n=>j=0/\ss'=ss/\rg'=rg++[n]
 | .set m d=>∃ r,mr[m.toNat]?=some r/\j=0/\ss'=ss.set r.toNat d/\rg'=rg
 | .ask m _ _=>∃ r,mr[m.toNat]?=some r/\j=(ss.getD r.toNat 0 - 1).toNat/\ss'=ss/\rg'=rg
 | .bump c _=>∃ z,cr[c.toNat]?=some z/\j=(if (aY z.2 ss).1=true then 0 else 1)/\ss'=(aY z.2 ss).2/\rg'=rg
 | .go _=>j=0/\ss'=ss/\rg'=rg
 | .fin=>False
theorem kG {w:Wd}{y:YR}{x:Int×Int}{ss rg:List Int}{v:Rw}{nr k ns B:Nat}{Dr:Int×Int->Prop} (W:WY w y L) (hD:DrOk y nd Dr) (hB:y.next<=(B:Nat)) (d:DD y L nd mr cr x v o) (hd:v.deedy=true) (vok:v.ok mr.length cr.length nr k ns) (h:Out w s x ss rg) (ms:∀ z ∈ o,∃ u,Mt y L z u) (s12:∀ q ∈ ss,q=1∨q=2) (rok:ROk mr cr ss.length) :
  ∃ j e n t ss' rg',Act mr cr ss rg j ss' rg' v/\o[j]?=some e/\n<=B+10/\Rv w Dr n s t/\Out w t e ss' rg':=by
 cases v with
 | bell n=>
  obtain⟨z,t,rfl,nx,g⟩:=kP W hD d h ms
  exact⟨0,z,1,t,_,_,⟨U,U,U⟩,U,(by omega),nx,g⟩
 | set m sd=>
  obtain⟨r,z,t,hr,rfl,nx,g⟩:=lh W hD d h vok.2.2 ms
  exact⟨0,z,1,t,_,_,⟨r,hr,U,U,U⟩,U,(by omega),nx,g⟩
 | ask m r1 r2=>
  obtain⟨r,z,t,hr,hz,nx,g⟩:=nu W hD d h ms s12 (fun r hr=>by have:=rok.m r (tO hr); omega)
  exact⟨_,z,1,t,_,_,⟨r,hr,U,U,U⟩,hz,(by omega),nx,g⟩
 | bump c r=>
  obtain⟨z,e,n,t,hz,he,bn,rn,g⟩:=kO W hD hB d h ms s12 (fun z hz r hr=>by have:=rok.c z (tO hz) r hr; omega)
  exact⟨_,e,n,t,_,_,⟨z,hz,U,U,U⟩,he,(by have:=(rok.n z (tO hz)).2; omega),rn,g⟩
 | go r=>
  rw[show o=[x] from d]
  exact⟨0,x,0,s,ss,rg,⟨U,U,U⟩,U,Nat.zero_le _,.refl _,h⟩
 | fin=>cases hd
theorem RowW.deed {y:YR}{k r:Nat}{o:Int×Int}{x:Rw} (h:RowW y L nd mr cr W k r o x) (hd:x.deedy=true):∃ zs:List Pr,DD y L nd mr cr o x (zs.map (·.2))/\∀ (j:Nat) (z:Pr) (pl:Int×Int),zs[j]?=some z->(x.onw k r)[j]?=some pl->inD W.D pl z:=by
 cases x <;> first | exact h | cases hd
theorem lF {w:Wd}{y:YR}{ss rg:List Int}{V:WS}{x:Rw}{k r nr ns B:Nat}{Dr:Int×Int->Prop} (W:WY w y L) (hD:DrOk y nd Dr) (hB:y.next<=(B:Nat)) (rw_:RowW y L nd mr cr V k r (e.2.1,1) x) (td:∀ pl o,inD V.D pl o->ToDoor y L ds pl o.2) (dk:Dk y e) (hd:x.deedy=true)
  (xok:x.ok mr.length cr.length nr k ns) (h:AtE s e.2 ss rg) (s12:∀ q ∈ ss,q=1∨q=2) (rok:ROk mr cr ss.length) :
  ∃ (j:Nat) (k' r':Nat) (u:Addr×List Pr) (e':Pr) (n:Nat) (t1 t:Sd) (ss' rg':List Int),Act mr cr ss rg j ss' rg' x/\(x.onw k r)[j]?=some ((k':Int),(r':Int))/\ds[k']?=some u/\u.2[r']?=some e'/\n<=2*B+10/\w.nx s=some t1/\Rv w Dr n t1 t/\AtE t e'.2 ss' rg':=by
 obtain⟨zs,d,io⟩:=rw_.deed hd
 have lz:zs.length=(x.onw k r).length:=by
  have:=d.len hd
  rw[tP] at this
  rw[this,Rw.outs_onw hd]
 have to:∀ (j:Nat) (z:Pr),zs[j]?=some z->∃ pl,(x.onw k r)[j]?=some pl/\ToDoor y L ds pl z.2:=fun j z hz=>by
  have hj:j<(x.onw k r).length:=by rw[<- lz]; exact(List.getElem?_eq_some_iff.mp hz).1
  exact⟨_,tN hj,td _ _ (io j z _ hz (tN hj))⟩
 have ms:∀ z ∈ zs.map (fun z:Pr=>z.2),∃ u,Mt y L z u:=fun z hz=>by
  obtain⟨q,hq,rfl⟩:=uc.mp hz
  obtain⟨j,hj⟩:=List.mem_iff_getElem?.mp hq
  obtain⟨pl,_,_,_,_,_,_,_,_,ld⟩:=to j q hj
  exact ld.mate
 have m1:∃ u,Mt y L (e.2.1,1) u:=by
  cases x with
  | bell n=>obtain⟨b,m,_⟩:=d; exact⟨_,m⟩
  | set m sd=>obtain⟨b,r,_,m,_⟩:=d; exact⟨_,m⟩
  | ask m r1 r2=>obtain⟨b,r,_,m,_⟩:=d; exact⟨_,m⟩
  | bump c r=>obtain⟨b,n,z,zs,v,_,_,m,_⟩:=d; exact⟨_,m⟩
  | go r=>
   have d:zs.map (fun z:Pr=>z.2)=[(e.2.1,1)]:=d
   exact ms _ (by rw[d]; exact tM)
  | fin=>cases hd
 obtain⟨u1,m1⟩:=m1
 have e2:e.2=(e.2.1,0):=by rw[<- dk.2]
 rw[e2] at h
 obtain⟨t1,nx1,g1⟩:=df W dk.1 m1 h
 obtain⟨j,o,n2,t2,ss',rg',ac,ho,b2,r2,g2⟩:=kG W hD hB d hd xok g1 ms s12 rok
 rw[tS] at ho
 obtain⟨z,hz,rfl⟩:=Option.map_eq_some_iff.mp ho
 obtain⟨pl,hpl,k',r',u,e',rfl,hu,he,ld⟩:=to j z hz
 obtain⟨n3,t3,b3,r3,g3⟩:=ld.walk W hD hB g2
 exact⟨j,k',r',u,e',n2+n3,t1,t3,ss',rg',ac,hpl,hu,he,by omega,nx1,r2.trans r3,g3⟩
structure Md where
 ms:List Int
 ws:List Int
 cs:List Int
 ns:List Int
 rt:List (Int×Int)
theorem jP {n i:Nat} (h:i<n):ixN n (i:Int)=some i:=by unfold ixN; rw[if_pos (by omega),if_pos (by omega)]; rfl
theorem hX {xs:List Int}{n:Nat}{x:Int} (h:xs[n]?=some x):(xs.map V.int)[n]?=some (.int x):=by rw[tS,h]; rfl
noncomputable def Md.full (x:Md) (c:Int):Prop:=(x.cs[c.toNat]?).getD 0=1*2 ^ ((x.ws[c.toNat]?).getD 0).toNat - 1
instance (x:Md) (c:Int):Decidable (x.full c):=by unfold Md.full; infer_instance
noncomputable def Rw.act (y:Rw) (x:Md) (k n:Int):Md :=
 match y with
 | .bell m=>{ x with ns:=x.ns++[m] }
 | .set m e=>{ x with ms:=x.ms.set m.toNat e }
 | .bump c _=>{ x with cs:=x.cs.set c.toNat (if x.full c then 0 else(x.cs[c.toNat]?).getD 0+1) }
 | .fin=>{ x with rt:=x.rt.dropLast }
 | _=>x
noncomputable def Rw.nx (y:Rw) (x:Md) (k n:Int):Option (Int×Int) :=
 match y with
 | .bell _=>some (k,n+1)
 | .set _ _=>some (k,n+1)
 | .ask m a b=>some (k,if (x.ms[m.toNat]?).getD 0=1 then a else b)
 | .bump c r=>some (k,if x.full c then r else n+1)
 | .go r=>some (k,r)
 | .fin=>x.rt.getLast?
noncomputable def Rw.fit (y:Rw) (x:Md):Prop :=
 match y with
 | .bell _=>x.ns.length<=1000
 | .set m _=>0<=m/\m<x.ms.length
 | .ask m _ _=>0<=m/\m<x.ms.length
 | .bump c _=>0<=c/\c<x.cs.length/\∃ k:Nat,x.ws[c.toNat]?=some (k:Int)/\k<=8
 | _=>True
noncomputable def RT (ra:List Addr) (rt:List (Int×Int)) (L:Kn):Prop:=ra.length=rt.length/\∀ (i:Nat) a z,ra[i]?=some a->rt[i]?=some z->(a,HO.tup [.int z.1,.int z.2]) ∈ L
noncomputable def PlIn (wv:V) (pl:Option (Int×Int)) (L:Kn):Prop :=
 match pl with
 | none=>wv=.non
 | some z=>∃ a,wv=.ref a/\(a,HO.tup [.int z.1,.int z.2]) ∈ L
variable{rt:List (Int×Int)}
theorem RT.mono {ra:List Addr}{L L':Kn} (h:RT ra rt L) (s:∀ z ∈ L,z ∈ L'):RT ra rt L':=⟨h.1,fun i a z h1 h2=>s _ (h.2 i a z h1 h2)⟩
theorem PlIn.mono {wv:V}{pl:Option (Int×Int)}{L L':Kn} (h:PlIn wv pl L) (s:∀ z ∈ L,z ∈ L'):PlIn wv pl L':=by
 cases pl with
 | none=>exact h
 | some z=>obtain⟨a,h1,h2⟩:=h; exact⟨a,h1,s _ h2⟩
theorem RT.drop {ra:List Addr} (h:RT ra rt L):RT ra.dropLast rt.dropLast L:=by
 refine⟨by simp[h.1],fun i b y h1 h2=>?_⟩
 rw[List.getElem?_dropLast] at h1 h2
 split at h1
 ·split at h2
  ·exact h.2 i b y h1 h2
  ·cases h2
 ·cases h1
theorem RT.last {ra:List Addr} (h:RT ra rt L) (hne:ra≠[]):∃ a z,ra[ra.length - 1]?=some a/\rt.getLast?=some z/\(a,HO.tup [.int z.1,.int z.2]) ∈ L:=by
 have hl:0<ra.length:=List.length_pos_iff.mpr hne
 have h1:=h.1
 refine⟨ra[ra.length - 1],rt[rt.length - 1],tN (by omega),?_,?_⟩
 ·rw[List.getLast?_eq_getElem?,tN (by omega)]
 ·exact h.2 (ra.length - 1) _ _ (tN (by omega)) (by rw[h1]; exact tN (by omega))
structure MInv (x:Md):Prop where
 m:∀ v ∈ x.ms,v=1∨v=2
 l:x.cs.length=x.ws.length
 c:∀ (i:Nat) v,x.cs[i]?=some v->∃ k:Nat,x.ws[i]?=some (k:Int)/\1<=k/\k<=8/\0<=v/\v<2 ^ k
theorem pw_at:∀ (k:Nat),1<=k->k<=8->atI [V.int 2,.int 4,.int 8,.int 16,.int 32,.int 64,.int 128,.int 256] ((k:Int) - 1)=some (.int (2 ^ k))
 | 1,_,_=>rfl
 | 2,_,_=>rfl
 | 3,_,_=>rfl
 | 4,_,_=>rfl
 | 5,_,_=>rfl
 | 6,_,_=>rfl
 | 7,_,_=>rfl
 | 8,_,_=>rfl
theorem ng {v:Int}{k:Nat} (h0:0<=v) (h1:v<2 ^ k):(v+1) % 2 ^ k=if v=1*2 ^ k - 1 then 0 else v+1:=by
 by_cases h:v=1*2 ^ k - 1
 ·rw[if_pos h,h]
  have:(1*2 ^ k - 1+1:Int)=2 ^ k:=by omega
  rw[this,Int.emod_self]
 ·rw[if_neg h]
  exact Int.emod_eq_of_lt (by omega) (by omega)
inductive sp_lnext (vs:List V) (H:Hp) (Q:VK) (E_:XK):Prop
 | mk (pl h wt sd sm wl hd:Addr) (ss:Ss) (k n:Nat) (z:Addr×List (Addr×Rw)) (a:Addr) (y:Rw) (x:Md) (wa:List Addr) (L:Kn) (_:vs=[.ref pl,.ref h,.ref wt,.ref sd,.ref sm,.ref wl,.ref hd]) (_:Has H ((wt,HO.lst (wa.map V.ref))::(sd,.lst (x.ms.map V.int))::(sm,.lst (x.cs.map V.int))::(hd,.lst (x.ns.map V.int))::L)) (_:(pl,HO.lst (ssV ss)) ∈ L) (_:ss[k]?=some z) (_:(z.1,HO.lst (rwV z.2)) ∈ L) (_:z.2[n]?=some (a,y)) (_:(a,HO.tup y.v) ∈ L) (_:(h,HO.tup [.int (k:Int),.int (n:Int)]) ∈ L) (_:(wl,HO.lst (x.ws.map V.int)) ∈ L) (_:RT wa x.rt L) (_:MInv x) (_:y.fit x) (_:∀ H' N wa' hv',RT wa' (y.act x k n).rt (N++L)->PlIn hv' (y.nx x k n) (N++L)->Has H' ((wt,HO.lst (wa'.map V.ref))::(sd,.lst ((y.act x k n).ms.map V.int))::(sm,.lst ((y.act x k n).cs.map V.int))::(hd,.lst ((y.act x k n).ns.map V.int))::(N++L))->Q hv' H'):sp_lnext vs H Q E_
section
variable {P:Program}{w:World}{K:PySem.W.Frag}{mg:Str->Option Value}{base:Heap}{t:Adr}
theorem scNx2:FnScope ["_law_parts_here","_law_here","_law_waiting","_law_sides","_law_sums","_law_widths","_law_heard","_law_deed","_law_behind"] ["_law_parts_here","_law_here","_law_waiting","_law_sides","_law_sums","_law_widths","_law_heard"] (aj lx):={}
theorem nR (T:Txt K mg t):FnOk P w K mg base CX0 1 t.f_next t.d_next ["_law_parts_here","_law_here","_law_waiting","_law_sides","_law_sums","_law_widths","_law_heard"] sp_lnext:=by
 refine T.F_next.ok scNx2 (fun vs H Q E h=>?_) (fun cdv A outer s H vs Q E hr h=>?_)
 ·obtain⟨_,_,_,_,_,_,_,_,_,_,_,_,_,_,_,_,rfl,_⟩:=h
  rfl
 ·obtain⟨pl,h,wt,sd,sm,wl,hd,ss,k,n,z,a,y,x,wa,L,rfl,hH,mpl,hz,mz,hn,ma,mh,mwl,hrt,hinv,hf,q⟩:=h
  have inL:∀ {H':Hp}{z c1 c2 c3 c4:Addr×HO},Has H' (c1::c2::c3::c4::L)->z ∈ L->H' z.1=some z.2:=fun h m=>h.at_ _ (by simp[m])
  have gh:=inL hH mh
  dsimp only at gh
  refine⟨_,(ae (ax (i:=7) scNx2.nd rfl (Or.inl rfl) (av aB (av aB (pv 0) (av aK (pv 1) ah (fun _ _=>rfl)) (fun _ _=>rfl)) (av aK (pv 1) ah (fun _ _=>rfl))))
   (ae (ax (i:=8) scNx2.nd rfl (Or.inl rfl) (az (aa (av aK (pv 1) ah) (aa (aw aQ (av aK (pv 1) ah) ah) ag))))
   (ae (aD (ak aW (av aK (pv 7) ah) aJ (ao _))
    (ai (ar (bS PySem.F.plainAttrs_list PySem.F.slot_list_append PySem.F.type_list_append aU (pv 6) (aa (av aK (pv 7) ah) ag))))
    ap)
   (ae (aD (ak aW (av aK (pv 7) ah) aJ (ao _))
    (ai (bK (av aK (pv 7) ah) (hG (pv 3) (av aK (pv 7) ah) dy)))
    ap)
   (ae (aD (ak aW (av aK (pv 7) ah) aJ (ao _))
    (ai (au (az (aa (av aK (pv 1) ah) (aa (av aK (pv 7) (aw aQ ah (av aB (pv 3) (av aK (pv 7) ah (fun _ _=>rfl)) (fun _ _=>rfl)))) ag)))))
    ap)
   (ae (aD (ak aW (av aK (pv 7) ah) aJ (ao _))
    (ae (bK (aw aR (aw aQ (av aB (pv 4) (av aK (pv 7) ah (fun _ _=>rfl))) ah) (av aB (aX (aa ah (aa ah (aa ah (aa ah (aa ah (aa ah (aa ah (aa ah ag))))))))) (aw fK (av aB (pv 5) (av aK (pv 7) ah (fun _ _=>rfl)) (fun _ _=>rfl)) ah))) (hG (pv 4) (av aK (pv 7) ah) dy))
     (ai (aD (ak aW (av aB (pv 4) (av aK (pv 7) ah (fun _ _=>rfl))) ah (ao _))
      (ai (au (az (aa (av aK (pv 1) ah) (aa (av aK (pv 7) ah) ag)))))
      ap)))
    ap)
   (ae (aD (ak aW (av aK (pv 7) ah) aJ (ao _))
    (ai (au (az (aa (av aK (pv 1) ah) (aa (av aK (pv 7) ah) ag)))))
    ap)
   (ae (aD (ak aW (av aK (pv 7) ah) aJ (ao _))
    (ae (ar (bS PySem.F.plainAttrs_list PySem.F.slot_list_append PySem.F.type_list_append aU (pv 2) (aa (pv 8) ag)))
     (ai (au (az (aa (av aK (pv 7) ah) (aa ah ag))))))
    ap)
   (ae (aD (ak aW (av aK (pv 7) ah) aJ (ao _))
    (ae (aD (ak aW (aN aI (by rfl) T.z_len (by rfl) (aa (pv 2) ag)) ah (ao _))
      (ai (au aS))
      ap)
     (ai (au (qE PySem.F.plainAttrs_list PySem.F.slot_list_pop PySem.F.type_list_pop rj (pv 2)))))
    ap)
   (ai (au (pv 8)))))))))))),?_⟩
  rw[]
  refine⟨_,U,_,U,h,_,_,_,U,U,SqT.of gh,am (j:=0) rfl,pl,_,_,_,U,U,SqL.of (inL hH mpl),am (c9 hz),_,U,h,_,_,_,U,U,SqT.of gh,am (j:=1) rfl,z.1,_,_,_,U,U,SqL.of (inL hH mz),am (jH hn),?_⟩
  dsimp only[List.set]
  refine⟨_,U,h,_,_,_,U,U,SqT.of gh,am (j:=0) rfl,_,U,h,_,_,_,U,U,SqT.of gh,am (j:=1) rfl,_,_,U,U,(sz_ 2),fun b hb=>?_⟩
  dsimp only[List.set] at hb ⊢
  have h1:=hH.alloc hb (.tup [.int (k:Int),.int ((n:Int)+1)])
  have in1:∀ {H':Hp}{z c0 c1 c2 c3 c4:Addr×HO},Has H' (c0::c1::c2::c3::c4::L)->z ∈ L->H' z.1=some z.2:=fun h m=>h.at_ _ (by simp[m])
  have ga1:=in1 h1 ma
  have gh1:=in1 h1 mh
  dsimp only at ga1 gh1
  have mo:∀ (N:Kn),∀ z ∈ L,z ∈ N++L:=fun N z m=>tL _ m
  have fr1:∀ {H':Hp}{c0 c1 c2 c3 c4:Addr×HO},Has H' (c0::c1::c2::c3::c4::L)->Has H' (c1::c2::c3::c4::([c0]++L)):=fun {H'} {c0} {c1} {c2} {c3} {c4} h=>Has.comm (X:=[c0]) (Y:=[c1,c2,c3,c4]) h
  have fr2:∀ {H':Hp}{d0 c0 c1 c2 c3 c4:Addr×HO},Has H' (d0::c0::c1::c2::c3::c4::L)->Has H' (c1::c2::c3::c4::([d0,c0]++L)):=fun {H'} {d0} {c0} {c1} {c2} {c3} {c4} h=>Has.comm (X:=[d0,c0]) (Y:=[c1,c2,c3,c4]) h
  cases y with
  | bell m=>
   have hl:x.ns.length<=1000:=hf
   refine⟨_,U,a,_,_,_,U,U,SqT.of ga1,am (j:=0) rfl,U,_,U,ifT (decide_eq_true rfl) ?_⟩
   refine⟨_,U,.inl ⟨U,_,SqL.of (h1.get 4 U)⟩,_,U,a,_,_,_,U,U,SqT.of ga1,am (j:=1) rfl,hd,_,_,U,U,h1.get 4 U,sizeOk (by rw[tP]; omega),?_⟩
   have e:x.ns.map V.int++[V.int m]=(x.ns++[m]).map V.int:=by simp
   have h2:=h1.puti 4 U (.lst (x.ns.map V.int++[.int m]))
   rw[e] at h2 ⊢
   have ga2:=in1 h2 ma
   dsimp only at ga2
   refine⟨_,U,a,_,_,_,U,U,SqT.of ga2,am (j:=0) rfl,U,_,U,ifF (sne "bell" "set") ?_⟩
   refine⟨_,U,a,_,_,_,U,U,SqT.of ga2,am (j:=0) rfl,U,_,U,ifF (sne "bell" "ask") ?_⟩
   refine⟨_,U,a,_,_,_,U,U,SqT.of ga2,am (j:=0) rfl,U,_,U,ifF (sne "bell" "bump") ?_⟩
   refine⟨_,U,a,_,_,_,U,U,SqT.of ga2,am (j:=0) rfl,U,_,U,ifF (sne "bell" "go") ?_⟩
   refine⟨_,U,a,_,_,_,U,U,SqT.of ga2,am (j:=0) rfl,U,_,U,ifF (sne "bell" "call") ?_⟩
   refine⟨_,U,a,_,_,_,U,U,SqT.of ga2,am (j:=0) rfl,U,_,U,ifF (sne "bell" "end") ?_⟩
   exact⟨_,U,q _ [(b,.tup [.int (k:Int),.int ((n:Int)+1)])] wa (.ref b) (hrt.mono (mo _)) ⟨b,U,by simp⟩ (fr1 h2)⟩
  | set m e0=>
   obtain⟨m0,m1⟩:0<=m/\m<x.ms.length:=hf
   obtain⟨m,rfl⟩:=Int.eq_ofNat_of_zero_le m0
   refine⟨_,U,a,_,_,_,U,U,SqT.of ga1,am (j:=0) rfl,U,_,U,ifF (sne "set" "bell") ?_⟩
   refine⟨_,U,a,_,_,_,U,U,SqT.of ga1,am (j:=0) rfl,U,_,U,ifT (decide_eq_true rfl) ?_⟩
   refine⟨_,U,a,_,_,_,U,U,SqT.of ga1,am (j:=2) rfl,_,U,_,U,a,_,_,_,U,U,SqT.of ga1,am (j:=1) rfl,sd,_,_,m,U,U,h1.get 2 U,jP (by rw[tP]; omega),?_⟩
   have h2:=h1.puti 2 U (.lst ((x.ms.map V.int).set m (.int e0)))
   rw[show((x.ms.map V.int).set m (.int e0))=(x.ms.set m e0).map V.int from List.map_set.symm] at h2 ⊢
   have ga2:=in1 h2 ma
   dsimp only at ga2
   refine⟨_,U,a,_,_,_,U,U,SqT.of ga2,am (j:=0) rfl,U,_,U,ifF (sne "set" "ask") ?_⟩
   refine⟨_,U,a,_,_,_,U,U,SqT.of ga2,am (j:=0) rfl,U,_,U,ifF (sne "set" "bump") ?_⟩
   refine⟨_,U,a,_,_,_,U,U,SqT.of ga2,am (j:=0) rfl,U,_,U,ifF (sne "set" "go") ?_⟩
   refine⟨_,U,a,_,_,_,U,U,SqT.of ga2,am (j:=0) rfl,U,_,U,ifF (sne "set" "call") ?_⟩
   refine⟨_,U,a,_,_,_,U,U,SqT.of ga2,am (j:=0) rfl,U,_,U,ifF (sne "set" "end") ?_⟩
   exact⟨_,U,q _ [(b,.tup [.int (k:Int),.int ((n:Int)+1)])] wa (.ref b) (hrt.mono (mo _)) ⟨b,U,by simp⟩ (fr1 h2)⟩
  | ask m c d=>
   obtain⟨m0,m1⟩:0<=m/\m<x.ms.length:=hf
   obtain⟨m,rfl⟩:=Int.eq_ofNat_of_zero_le m0
   have hm:m<x.ms.length:=by omega
   have gm:x.ms[m]?=some x.ms[m]:=tN hm
   have en:Rw.nx (.ask (m:Int) c d) x k n=some ((k:Int),if x.ms[m]=1 then c else d):=by
    unfold Rw.nx
    simp only[Int.toNat_natCast,gm,Option.getD_some]
   rw[en] at q
   have hat:atI (Rw.ask (m:Int) c d).v (1+x.ms[m])=some (.int (if x.ms[m]=1 then c else d)):=by
    rcases hinv.m _ (List.getElem_mem hm) with e | e
    ·rw[e]; rfl
    ·rw[e]; rfl
   refine⟨_,U,a,_,_,_,U,U,SqT.of ga1,am (j:=0) rfl,U,_,U,ifF (sne "ask" "bell") ?_⟩
   refine⟨_,U,a,_,_,_,U,U,SqT.of ga1,am (j:=0) rfl,U,_,U,ifF (sne "ask" "set") ?_⟩
   refine⟨_,U,a,_,_,_,U,U,SqT.of ga1,am (j:=0) rfl,U,_,U,ifT (decide_eq_true rfl) ?_⟩
   refine⟨_,U,h,_,_,_,U,U,SqT.of gh1,am (j:=0) rfl,_,U,_,U,_,U,a,_,_,_,U,U,SqT.of ga1,am (j:=1) rfl,sd,_,_,_,U,U,SqL.of (h1.get 2 U),am (hX gm),_,_,U,U,a,_,_,_,U,U,SqT.of ga1,hat,(sz_ 2),fun b2 hb2=>?_⟩
   have h2:=h1.alloc hb2 (.tup [.int (k:Int),.int (if x.ms[m]=1 then c else d)])
   exact q _ [(b2,.tup [.int (k:Int),.int (if x.ms[m]=1 then c else d)]),(b,.tup [.int (k:Int),.int ((n:Int)+1)])] wa (.ref b2) (hrt.mono (mo _)) ⟨b2,U,tM⟩ (fr2 h2)
  | go r=>
   refine⟨_,U,a,_,_,_,U,U,SqT.of ga1,am (j:=0) rfl,U,_,U,ifF (sne "go" "bell") ?_⟩
   refine⟨_,U,a,_,_,_,U,U,SqT.of ga1,am (j:=0) rfl,U,_,U,ifF (sne "go" "set") ?_⟩
   refine⟨_,U,a,_,_,_,U,U,SqT.of ga1,am (j:=0) rfl,U,_,U,ifF (sne "go" "ask") ?_⟩
   refine⟨_,U,a,_,_,_,U,U,SqT.of ga1,am (j:=0) rfl,U,_,U,ifF (sne "go" "bump") ?_⟩
   refine⟨_,U,a,_,_,_,U,U,SqT.of ga1,am (j:=0) rfl,U,_,U,ifT (decide_eq_true rfl) ?_⟩
   refine⟨_,U,h,_,_,_,U,U,SqT.of gh1,am (j:=0) rfl,_,U,a,_,_,_,U,U,SqT.of ga1,am (j:=1) rfl,(sz_ 2),fun b2 hb2=>?_⟩
   have h2:=h1.alloc hb2 (.tup [.int (k:Int),.int r])
   exact q _ [(b2,.tup [.int (k:Int),.int r]),(b,.tup [.int (k:Int),.int ((n:Int)+1)])] wa (.ref b2) (hrt.mono (mo _)) ⟨b2,U,by simp⟩ (fr2 h2)
  | fin=>
   refine⟨_,U,a,_,_,_,U,U,SqT.of ga1,am (j:=0) rfl,U,_,U,ifF (sne "end" "bell") ?_⟩
   refine⟨_,U,a,_,_,_,U,U,SqT.of ga1,am (j:=0) rfl,U,_,U,ifF (sne "end" "set") ?_⟩
   refine⟨_,U,a,_,_,_,U,U,SqT.of ga1,am (j:=0) rfl,U,_,U,ifF (sne "end" "ask") ?_⟩
   refine⟨_,U,a,_,_,_,U,U,SqT.of ga1,am (j:=0) rfl,U,_,U,ifF (sne "end" "bump") ?_⟩
   refine⟨_,U,a,_,_,_,U,U,SqT.of ga1,am (j:=0) rfl,U,_,U,ifF (sne "end" "go") ?_⟩
   refine⟨_,U,a,_,_,_,U,U,SqT.of ga1,am (j:=0) rfl,U,_,U,ifF (sne "end" "call") ?_⟩
   refine⟨_,U,a,_,_,_,U,U,SqT.of ga1,am (j:=0) rfl,U,_,U,ifT (decide_eq_true rfl) ?_⟩
   refine⟨_,U,wt,_,U,.inl (SqL.of (h1.get 1 U)),U,_,U,?_⟩
   rw[cI]
   by_cases hne:wa=[]
   ·subst hne
    have e0:x.rt=[]:=List.length_eq_zero_iff.mp hrt.1.symm
    refine ifT (by rfl) ?_
    refine q _ [(b,.tup [.int (k:Int),.int ((n:Int)+1)])] [] .non ?_ ?_ (fr1 h1)
    ·show RT [] x.rt.dropLast _
     rw[e0]
     exact⟨U,fun i a z h1 _=>by simp at h1⟩
    ·show PlIn .non x.rt.getLast? _
     rw[e0]
     rfl
   ·obtain⟨la,lz,g1,g2,g3⟩:=hrt.last hne
    have hpos:0<wa.length:=List.length_pos_iff.mpr hne
    refine ifF (decide_eq_false (by rw[tP]; omega)) ?_
    refine⟨_,U,.inl ⟨U,_,SqL.of (h1.get 1 U)⟩,wt,_,.ref la,U,U,h1.get 1 U,(by rw[tP,tS,g1]; rfl),?_⟩
    have h2:=h1.puti 1 U (.lst (wa.map V.ref).dropLast)
    rw[show(wa.map V.ref).dropLast=wa.dropLast.map V.ref from List.map_dropLast.symm] at h2 ⊢
    refine q _ [(b,.tup [.int (k:Int),.int ((n:Int)+1)])] wa.dropLast (.ref la) ((hrt.drop).mono (mo _)) ?_ (fr1 h2)
    show PlIn _ x.rt.getLast? _
    rw[g2]
    exact⟨la,U,mo _ _ g3⟩
  | bump c r=>
   obtain⟨c0,c1,kk,hk,k8⟩:0<=c/\c<x.cs.length/\∃ k:Nat,x.ws[c.toNat]?=some (k:Int)/\k<=8:=hf
   obtain⟨c,rfl⟩:=Int.eq_ofNat_of_zero_le c0
   rw[Int.toNat_natCast] at hk
   have hc:c<x.cs.length:=by omega
   have gv:x.cs[c]?=some x.cs[c]:=tN hc
   obtain⟨k',hk',k1,_,v0,v1⟩:=hinv.c c _ gv
   have ekk:kk=k':=by rw[hk] at hk'; cases hk'; omega
   subst ekk
   have ef:x.full (c:Int)↔x.cs[c]=1*2 ^ kk - 1:=by
    unfold Md.full
    simp only[Int.toNat_natCast,gv,hk,Option.getD_some]
   have ea:Rw.act (.bump (c:Int) r) x k n={ x with cs:=x.cs.set c (if x.cs[c]=1*2 ^ kk - 1 then 0 else x.cs[c]+1) }:=by
    unfold Rw.act
    simp only[Int.toNat_natCast,gv,Option.getD_some,ef]
   have en:Rw.nx (.bump (c:Int) r) x k n=some ((k:Int),if x.cs[c]=1*2 ^ kk - 1 then r else(n:Int)+1):=by
    unfold Rw.nx
    simp only[ef]
   rw[ea,en] at q
   refine⟨_,U,a,_,_,_,U,U,SqT.of ga1,am (j:=0) rfl,U,_,U,ifF (sne "bump" "bell") ?_⟩
   refine⟨_,U,a,_,_,_,U,U,SqT.of ga1,am (j:=0) rfl,U,_,U,ifF (sne "bump" "set") ?_⟩
   refine⟨_,U,a,_,_,_,U,U,SqT.of ga1,am (j:=0) rfl,U,_,U,ifF (sne "bump" "ask") ?_⟩
   refine⟨_,U,a,_,_,_,U,U,SqT.of ga1,am (j:=0) rfl,U,_,U,ifT (decide_eq_true rfl) ?_⟩
   refine⟨_,U,_,U,a,_,_,_,U,U,SqT.of ga1,am (j:=1) rfl,sm,_,_,_,U,U,SqL.of (h1.get 3 U),am (hX gv),_,_,U,U,(sz_ 8),fun lp hlp=>?_⟩
   have h2:=h1.alloc hlp (.lst [.int 2,.int 4,.int 8,.int 16,.int 32,.int 64,.int 128,.int 256])
   have in2:∀ {H':Hp}{z d0 c0 c1 c2 c3 c4:Addr×HO},Has H' (d0::c0::c1::c2::c3::c4::L)->z ∈ L->H' z.1=some z.2:=fun h m=>h.at_ _ (by simp[m])
   have ga2:=in2 h2 ma
   have gw2:=in2 h2 mwl
   dsimp only at ga2 gw2
   refine⟨_,U,_,U,a,_,_,_,U,U,SqT.of ga2,am (j:=1) rfl,wl,_,_,_,U,U,SqL.of gw2,am (hX hk),_,_,U,U,lp,_,_,_,U,U,SqL.of (h2.get 0 U),pw_at kk k1 k8,_,_,U,U,(show(0:Int)<2 ^ kk from Int.pow_pos (by decide)),_,U,_,U,a,_,_,_,U,U,SqT.of ga2,am (j:=1) rfl,sm,_,_,c,U,U,h2.get 4 U,jP (by rw[tP]; exact hc),?_⟩
   dsimp only
   rw[ng v0 v1]
   obtain⟨nv,env⟩:∃ nv,(if x.cs[c]=1*2 ^ kk - 1 then(0:Int) else x.cs[c]+1)=nv:=⟨_,U⟩
   rw[env] at q ⊢
   have h3:=h2.puti 4 U (.lst ((x.cs.map V.int).set c (.int nv)))
   rw[show((x.cs.map V.int).set c (.int nv))=(x.cs.set c nv).map V.int from List.map_set.symm] at h3 ⊢
   have ga3:=in2 h3 ma
   have gh3:=in2 h3 mh
   dsimp only at ga3 gh3
   have gnv:(x.cs.set c nv)[c]?=some nv:=List.getElem?_set_self hc
   refine⟨_,U,_,U,a,_,_,_,U,U,SqT.of ga3,am (j:=1) rfl,sm,_,_,_,U,U,SqL.of (h3.get 4 U),am (hX gnv),U,_,U,?_⟩
   rw[cI]
   by_cases hv:x.cs[c]=1*2 ^ kk - 1
   ·rw[if_pos hv] at env q
    refine ifT (decide_eq_true env.symm) ?_
    refine⟨_,U,h,_,_,_,U,U,SqT.of gh3,am (j:=0) rfl,_,U,a,_,_,_,U,U,SqT.of ga3,am (j:=2) rfl,(sz_ 2),fun b2 hb2=>?_⟩
    have h4:=h3.alloc hb2 (.tup [.int (k:Int),.int r])
    exact q _ [(b2,.tup [.int (k:Int),.int r]),(lp,.lst [.int 2,.int 4,.int 8,.int 16,.int 32,.int 64,.int 128,.int 256]),(b,.tup [.int (k:Int),.int ((n:Int)+1)])] wa (.ref b2) (hrt.mono (mo _)) ⟨b2,U,by simp⟩ (Has.comm (X:=[_,_,_]) (Y:=[_,_,_,_]) h4)
   ·rw[if_neg hv] at env q
    refine ifF (decide_eq_false (by omega)) ?_
    refine⟨_,U,a,_,_,_,U,U,SqT.of ga3,am (j:=0) rfl,U,_,U,ifF (sne "bump" "go") ?_⟩
    refine⟨_,U,a,_,_,_,U,U,SqT.of ga3,am (j:=0) rfl,U,_,U,ifF (sne "bump" "call") ?_⟩
    refine⟨_,U,a,_,_,_,U,U,SqT.of ga3,am (j:=0) rfl,U,_,U,ifF (sne "bump" "end") ?_⟩
    exact⟨_,U,q _ [(lp,.lst [.int 2,.int 4,.int 8,.int 16,.int 32,.int 64,.int 128,.int 256]),(b,.tup [.int (k:Int),.int ((n:Int)+1)])] wa (.ref b) (hrt.mono (mo _)) ⟨b,U,by simp⟩ (fr2 h3)⟩
end
noncomputable def Vd (ss:Ss) (p:Int×Int):Prop:=∃ (k n:Nat) (z:Addr×List (Addr×Rw)),p=((k:Int),(n:Int))/\ss[k]?=some z/\n<z.2.length
theorem pB (k:Nat):(1:Int)<=2 ^ k:=Int.pow_pos (by decide)
theorem fM {nm nc:Nat} (hg:Good nm nc ss) {k n:Nat}{z:Addr×List (Addr×Rw)}{a:Addr}{y:Rw} (hz:ss[k]?=some z) (hn:z.2[n]?=some (a,y)) (hl:y.last=false):n+1<z.2.length:=by
 have h1:=(List.getElem?_eq_some_iff.mp hn).1
 obtain⟨a',y',e1,e2⟩:=(hg k z hz).2
 by_cases h:n+1<z.2.length
 ·exact h
 ·have en:n=z.2.length - 1:=by omega
  rw[List.getLast?_eq_getElem?,<- en,hn] at e1
  cases e1
  rw[hl] at e2
  cases e2
structure LI (nm:Nat) (ws:List Int) (ss:Ss) (i:Nat) (x:Md) (pl:Option (Int×Int)):Prop where
 inv:MInv x
 ml:x.ms.length=nm
 wl:x.ws=ws
 nl:x.ns.length<=i
 rl:x.rt.length<=i
 rv:∀ p ∈ x.rt,Vd ss p
 pv:∀ p,pl=some p->Vd ss p
theorem LI.step {nm:Nat}{ws:List Int}{ss:Ss}{i:Nat}{x:Md}{k n:Nat} (h:LI nm ws ss i x (some ((k:Int),(n:Int)))) (hi:i<=100) (hg:Good nm ws.length ss) {z:Addr×List (Addr×Rw)}{a:Addr}{y:Rw} (hz:ss[k]?=some z) (hn:z.2[n]?=some (a,y)) :
  y.fit x/\LI nm ws ss (i+1) (y.act x k n) (y.nx x k n):=by
 obtain⟨inv,ml,wl,nl,rl,rv,pv⟩:=h
 have hok:=(hg k z hz).1 (a,y) (tO hn)
 have lt1:=(List.getElem?_eq_some_iff.mp hn).1
 have hwl:x.cs.length=ws.length:=by rw[inv.l,wl]
 have vd:∀ m:Nat,m<z.2.length->Vd ss ((k:Int),(m:Int)):=fun m hm=>⟨k,m,z,U,hz,hm⟩
 have vdi:∀ m:Int,0<=m->m<(z.2.length:Nat)->Vd ss ((k:Int),m):=fun m h0 h1=>by
  obtain⟨m,rfl⟩:=Int.eq_ofNat_of_zero_le h0
  exact vd m (by omega)
 cases y with
 | bell m=>
  refine⟨show x.ns.length<=1000 by omega,⟨⟨inv.m,inv.l,inv.c⟩,ml,wl,?_,by exact Nat.le_succ_of_le rl,rv,?_⟩⟩
  ·show(x.ns++[m]).length<=i+1
   simp; omega
  ·intro p hp
   cases hp
   exact vd (n+1) (fM hg hz hn rfl)
 | set m s=>
  obtain⟨m0,m1,m2⟩:0<=m/\m<nm/\(s=1∨s=2):=hok
  refine⟨⟨m0,by rw[ml]; exact m1⟩,⟨⟨?_,inv.l,inv.c⟩,?_,wl,by exact Nat.le_succ_of_le nl,by exact Nat.le_succ_of_le rl,rv,?_⟩⟩
  ·intro v hv
   rcases List.mem_or_eq_of_mem_set hv with hv | rfl
   ·exact inv.m v hv
   ·exact m2
  ·show(x.ms.set _ _).length=nm
   rw[List.length_set]; exact ml
  ·intro p hp
   cases hp
   exact vd (n+1) (fM hg hz hn rfl)
 | ask m c d=>
  obtain⟨m0,m1,c0,c1,d0,d1⟩:0<=m/\m<nm/\0<=c/\c<(z.2.length:Nat)/\0<=d/\d<(z.2.length:Nat):=hok
  refine⟨⟨m0,by rw[ml]; exact m1⟩,⟨⟨inv.m,inv.l,inv.c⟩,ml,wl,by exact Nat.le_succ_of_le nl,by exact Nat.le_succ_of_le rl,rv,?_⟩⟩
  intro p hp
  have hp:some ((k:Int),if (x.ms[m.toNat]?).getD 0=1 then c else d)=some p:=hp
  cases hp
  split
  ·exact vdi c c0 c1
  ·exact vdi d d0 d1
 | go r=>
  obtain⟨r0,r1⟩:0<=r/\r<(z.2.length:Nat):=hok
  refine⟨trivial,⟨⟨inv.m,inv.l,inv.c⟩,ml,wl,by exact Nat.le_succ_of_le nl,by exact Nat.le_succ_of_le rl,rv,?_⟩⟩
  intro p hp
  cases hp
  exact vdi r r0 r1
 | fin=>
  refine⟨trivial,⟨⟨inv.m,inv.l,inv.c⟩,ml,wl,by exact Nat.le_succ_of_le nl,?_,?_,?_⟩⟩
  ·show x.rt.dropLast.length<=i+1
   simp; omega
  ·intro p hp
   exact rv p ((List.dropLast_sublist _).subset hp)
  ·intro p hp
   have hp:x.rt.getLast?=some p:=hp
   exact rv p (List.mem_of_getLast? hp)
 | bump c r=>
  obtain⟨c0,c1,r0,r1⟩:0<=c/\c<(ws.length:Nat)/\0<=r/\r<(z.2.length:Nat):=hok
  obtain⟨c,rfl⟩:=Int.eq_ofNat_of_zero_le c0
  have hc:c<x.cs.length:=by omega
  have gv:x.cs[c]?=some x.cs[c]:=tN hc
  obtain⟨kk,hk,k1,k8,v0,v1⟩:=inv.c c _ gv
  refine⟨⟨by omega,by omega,kk,by rw[Int.toNat_natCast]; exact hk,k8⟩,⟨⟨inv.m,?_,?_⟩,ml,wl,by exact Nat.le_succ_of_le nl,by exact Nat.le_succ_of_le rl,rv,?_⟩⟩
  ·show(x.cs.set _ _).length=_
   rw[List.length_set]; exact inv.l
  ·intro j v hv
   have hv:(x.cs.set (c:Int).toNat (if x.full (c:Int) then 0 else(x.cs[(c:Int).toNat]?).getD 0+1))[j]?=some v:=hv
   rw[Int.toNat_natCast] at hv
   by_cases hj:c=j
   ·subst hj
    rw[List.getElem?_set_self hc] at hv
    cases hv
    refine⟨kk,hk,k1,k8,?_,?_⟩
    ·split
     ·omega
     ·rw[gv]; show 0<=x.cs[c]+1; omega
    ·split
     ·have:=pB kk; omega
     ·rename_i hf
      have:¬ x.cs[c]=1*2 ^ kk - 1:=by
       intro e
       apply hf
       unfold Md.full
       simp only[Int.toNat_natCast,gv,hk,Option.getD_some]
       exact e
      rw[gv]; show x.cs[c]+1<2 ^ kk; omega
   ·rw[List.getElem?_set_ne hj] at hv
    exact inv.c j v hv
  ·intro p hp
   have hp:some ((k:Int),if x.full (c:Int) then r else(n:Int)+1)=some p:=hp
   cases hp
   split
   ·exact vdi r r0 r1
   ·exact vd (n+1) (fM hg hz hn rfl)
noncomputable def rdS:List Int->List Int->Int
 | [],_=>0
 | r::rs,sd=>(sd.getD r.toNat 0 - 1)+2*rdS rs sd
theorem cm {l:List Int}{i j:Nat}{v:Int} (h:i≠j):(l.set i v).getD j 0=l.getD j 0:=by
 rw[List.getD_eq_getElem?_getD,List.getD_eq_getElem?_getD,List.getElem?_set,if_neg h]
theorem cT {l:List Int}{i:Nat}{v:Int} (h:i<l.length):(l.set i v).getD i 0=v:=by
 rw[List.getD_eq_getElem?_getD,List.getElem?_set,if_pos rfl,if_pos h]; rfl
theorem da:∀ {rs sd sd':List Int},(∀ r ∈ rs,sd'.getD r.toNat 0=sd.getD r.toNat 0)->rdS rs sd'=rdS rs sd
 | [],_,_,_=>rfl
 | r::rs,sd,sd',h=>by
  show(sd'.getD r.toNat 0 - 1)+2*rdS rs sd'=(sd.getD r.toNat 0 - 1)+2*rdS rs sd
  rw[h r tM,da fun r' h'=>h r' (tK _ h')]
theorem cY:∀ {rs sd:List Int}{r:Nat},(∀ q ∈ rs,q.toNat≠r)->(aY rs sd).2.getD r 0=sd.getD r 0
 | [],_,_,_=>rfl
 | a::rs,sd,r,h=>by
  show(if sd.getD a.toNat 0=1 then(true,sd.set a.toNat 2) else aY rs (sd.set a.toNat 1)).2.getD r 0=_
  split
  ·exact cm (h a tM)
  ·rw[cY fun q hq=>h q (tK _ hq),cm (h a tM)]
theorem iX:∀ {rs sd:List Int},(rs.map Int.toNat).Nodup->(∀ r ∈ rs,r.toNat<sd.length)->(∀ q ∈ sd,q=1∨q=2)->0<=rdS rs sd/\rdS rs sd<2 ^ rs.length /\
  ((aY rs sd).1=true->rdS rs (aY rs sd).2=rdS rs sd+1/\rdS rs sd+1<2 ^ rs.length)/\((aY rs sd).1=false->rdS rs (aY rs sd).2=0/\rdS rs sd=2 ^ rs.length - 1)
 | [],_,_,_,_=>⟨by show(0:Int)<=0; decide,by show(0:Int)<2 ^ 0; decide,(fun h=>by have h:false=true:=h; cases h),fun _=>⟨rfl,by show(0:Int)=2 ^ 0 - 1; decide⟩⟩
 | a::rs,sd,nd,hl,h12=>by
  rw[t5,List.nodup_cons] at nd
  have na:∀ q ∈ rs,q.toNat≠a.toNat:=fun q hq c=>nd.1 (by rw[<- c]; exact tY hq)
  have la:=hl a tM
  have hv:sd.getD a.toNat 0=1∨sd.getD a.toNat 0=2:=by
   rw[List.getD_eq_getElem?_getD,tN la]
   exact h12 _ (List.getElem_mem la)
  have cg:∀ v,rdS rs (sd.set a.toNat v)=rdS rs sd:=fun v=>da fun r hr=>cm fun c=>na r hr c.symm
  have h1:∀ q ∈ sd.set a.toNat 1,q=1∨q=2:=fun q hq=>(List.mem_or_eq_of_mem_set hq).elim (h12 q) .inl
  obtain⟨i1,i2,i3,i4⟩:=iX (rs:=rs) (sd:=sd.set a.toNat 1) nd.2 (fun r hr=>by rw[List.length_set]; exact hl r (tK _ hr)) h1
  rw[cg] at i1 i2 i3 i4
  have e:rdS (a::rs) sd=(sd.getD a.toNat 0 - 1)+2*rdS rs sd:=rfl
  have p2:(2:Int) ^ (a::rs).length=2*2 ^ rs.length:=by rw[t6,Int.pow_succ,Int.mul_comm]
  have eb:aY (a::rs) sd=if sd.getD a.toNat 0=1 then(true,sd.set a.toNat 2) else aY rs (sd.set a.toNat 1):=rfl
  rw[e,p2,eb]
  refine⟨by omega,by omega,?_,?_⟩
  ·intro hb
   by_cases c:sd.getD a.toNat 0=1
   ·rw[if_pos c]
    show((sd.set a.toNat 2).getD a.toNat 0 - 1)+2*rdS rs (sd.set a.toNat 2)=_/\_
    rw[cT la,cg]
    omega
   ·rw[if_neg c] at hb ⊢
    obtain⟨j1,j2⟩:=i3 hb
    show((aY rs (sd.set a.toNat 1)).2.getD a.toNat 0 - 1)+2*rdS rs (aY rs (sd.set a.toNat 1)).2=_/\_
    rw[cY na,cT la,j1]
    omega
  ·intro hb
   by_cases c:sd.getD a.toNat 0=1
   ·rw[if_pos c] at hb; cases hb
   ·rw[if_neg c] at hb ⊢
    obtain⟨j1,j2⟩:=i4 hb
    show((aY rs (sd.set a.toNat 1)).2.getD a.toNat 0 - 1)+2*rdS rs (aY rs (sd.set a.toNat 1)).2=_/\_
    rw[cY na,cT la,j1]
    omega
structure Sim (cr:List (Addr×List Int)) (x:Md) (sd:List Int):Prop where
 m:∀ (i:Nat) v,x.ms[i]?=some v->sd[i]?=some v
 c:∀ (i:Nat) v z,x.cs[i]?=some v->cr[i]?=some z->v=rdS z.2 sd
structure RdOk (nm:Nat) (cr:List (Addr×List Int)) (ws:List Int) (n:Nat):Prop where
 l:cr.map (fun z=>(z.2.length:Int))=ws
 b:∀ z ∈ cr,∀ r ∈ z.2,(nm:Int)<=r/\r<n
 nd:(cr.flatMap (·.2)).Nodup
theorem RdOk.nd1 {nm:Nat}{ws:List Int}{n:Nat} (h:RdOk nm cr ws n) {z:Addr×List Int} (hz:z ∈ cr):(z.2.map Int.toNat).Nodup:=by
 have h1:z.2.Nodup:=by
  obtain⟨a,b,rfl⟩:=List.append_of_mem hz
  have:=h.nd
  rw[List.flatMap_append,List.flatMap_cons] at this
  exact(List.nodup_append.mp (List.nodup_append.mp this).2.1).1
 rw[List.nodup_iff_pairwise_ne,List.pairwise_map]
 refine List.Pairwise.imp_of_mem (fun {a b} ha hb ne c=>ne ?_) h1
 have:=h.b z hz a ha
 have:=h.b z hz b hb
 omega
theorem RdOk.nd2 {nm:Nat}{ws:List Int}{n:Nat} (h:RdOk nm cr ws n) {i j:Nat}{z z':Addr×List Int} (hz:cr[i]?=some z) (hz':cr[j]?=some z') (ne:i≠j):∀ r ∈ z.2,∀ q ∈ z'.2,q.toNat≠r.toNat:=fun r hr q hq c=>by
 have b1:=h.b z (tO hz) r hr
 have b2:=h.b z' (tO hz') q hq
 have e:q=r:=by omega
 subst e
 have key:∀ {i j:Nat}{z z':Addr×List Int},i<j->cr[i]?=some z->cr[j]?=some z'->q ∈ z.2->q ∈ z'.2->False:=fun {i j z z'} lt h1 h2 m1 m2=>by
  have nd:=h.nd
  have e1:cr=cr.take j++cr.drop j:=(List.take_append_drop j cr).symm
  rw[e1,List.flatMap_append] at nd
  refine(List.nodup_append.mp nd).2.2 q (List.mem_flatMap.mpr ⟨z,?_,m1⟩) q (List.mem_flatMap.mpr ⟨z',?_,m2⟩) rfl
  ·exact tO (by rw[List.getElem?_take,if_pos lt]; exact h1)
  ·exact tO (i:=0) (by rw[List.getElem?_drop]; exact h2)
 rcases Nat.lt_or_gt_of_ne ne with lt | lt
 ·exact key lt hz hz' hr hq
 ·exact key lt hz' hz hq hr
theorem Sim.step {nm:Nat}{cr:List (Addr×List Int)}{ws:List Int}{x:Md}{sd rg sd' rg':List Int}{j nr k ns:Nat}{n:Int}{y:Rw} (S:Sim cr x sd) (R:RdOk nm cr ws sd.length) (inv:MInv x) (ml:x.ms.length=nm) (wl:x.ws=ws) (er:rg=x.ns) (h12:∀ q ∈ sd,q=1∨q=2)
  (yok:y.ok nm ws.length nr k ns) (ac:Act (rgI nm) cr sd rg j sd' rg' y):Sim cr (y.act x k n) sd'/\rg'=(y.act x k n).ns/\(y.onw k n)[j]?=y.nx x k n/\sd'.length=sd.length/\∀ q ∈ sd',q=1∨q=2:=by
 have rgi:∀ {m r:Int},0<=m->(rgI nm)[m.toNat]?=some r->r=m:=fun {m r} h0 h=>by
  unfold rgI at h
  rw[tS] at h
  obtain⟨q,hq,rfl⟩:=Option.map_eq_some_iff.mp h
  have:=List.getElem?_eq_some_iff.mp hq
  have e:=this.2
  rw[List.getElem_range] at e
  omega
 cases y with
 | bell m=>obtain⟨rfl,rfl,rfl⟩:=ac; exact⟨⟨S.m,S.c⟩,by rw[er]; rfl,U,U,h12⟩
 | go r=>obtain⟨rfl,rfl,rfl⟩:=ac; exact⟨⟨S.m,S.c⟩,er,U,U,h12⟩
 | fin=>cases ac
 | ask m a b=>
  obtain⟨r,hr,rfl,e1,e2⟩:=ac
  rw[e1,e2]
  obtain⟨m0,m1,_⟩:=yok
  have:=rgi m0 hr
  subst this
  refine⟨⟨S.m,S.c⟩,er,?_,U,h12⟩
  have hm:r.toNat<x.ms.length:=by omega
  have g:=tN hm
  have v12:=inv.m _ (List.getElem_mem hm)
  have gs:=S.m _ _ g
  show [((k:Int),a),((k:Int),b)][(sd.getD r.toNat 0 - 1).toNat]?=some ((k:Int),if (x.ms[r.toNat]?).getD 0=1 then a else b)
  rw[List.getD_eq_getElem?_getD,gs,g]
  rcases v12 with e | e
  ·show [((k:Int),a),((k:Int),b)][(x.ms[r.toNat] - 1).toNat]?=some ((k:Int),if x.ms[r.toNat]=1 then a else b)
   rw[e]; rfl
  ·show [((k:Int),a),((k:Int),b)][(x.ms[r.toNat] - 1).toNat]?=some ((k:Int),if x.ms[r.toNat]=1 then a else b)
   rw[e]; rfl
 | set m d=>
  obtain⟨r,hr,rfl,e1,e2⟩:=ac
  rw[e1,e2]
  obtain⟨m0,m1,m2⟩:=yok
  have:=rgi m0 hr
  subst this
  have hm:r.toNat<x.ms.length:=by omega
  have hs:r.toNat<sd.length:=(List.getElem?_eq_some_iff.mp (S.m _ _ (tN hm))).1
  refine⟨⟨fun i v hv=>?_,fun i v z hv hz=>?_⟩,er,U,List.length_set ..,fun q hq=>(List.mem_or_eq_of_mem_set hq).elim (h12 q) fun e=>by rw[e]; exact m2⟩
  ·have hv2:(x.ms.set r.toNat d)[i]?=some v:=hv
   clear hv
   rw[List.getElem?_set]
   by_cases c:r.toNat=i
   ·subst c
    rw[List.getElem?_set,if_pos rfl,if_pos hm] at hv2
    rw[if_pos rfl,if_pos hs]
    exact hv2
   ·rw[List.getElem?_set,if_neg c] at hv2
    rw[if_neg c]
    exact S.m i v hv2
  ·rw[S.c i v z hv hz]
   exact(da fun q hq=>cm fun c=>by have:=R.b z (tO hz) q hq; omega).symm
 | bump c r=>
  obtain⟨z,hz,rfl,e1,e2⟩:=ac
  rw[e1,e2]
  obtain⟨c0,c1,_⟩:=yok
  obtain⟨c,rfl⟩:=Int.eq_ofNat_of_zero_le c0
  rw[Int.toNat_natCast] at hz
  have hc:c<x.cs.length:=by rw[inv.l,wl]; omega
  have gv:=tN hc
  obtain⟨kk,hk,k1,k8,v0,v1⟩:=inv.c c _ gv
  have ev:=S.c c _ z gv hz
  have lz:(z.2.length:Int)=(kk:Int):=by
   have e:(cr.map (fun z=>(z.2.length:Int)))[c]?=some (z.2.length:Int):=by rw[tS,hz]; rfl
   rw[R.l,<- wl,hk] at e
   exact(Option.some.inj e).symm
  have lk:z.2.length=kk:=by omega
  obtain⟨b0,b1,b2,b3⟩:=iX (R.nd1 (tO hz)) (fun q hq=>by have:=R.b z (tO hz) q hq; omega) h12
  rw[lk] at b1 b2 b3
  have full:x.full (c:Int)↔rdS z.2 sd=2 ^ kk - 1:=by
   unfold Md.full
   rw[Int.toNat_natCast,gv,hk]
   show x.cs[c]=1*2 ^ ((kk:Int)).toNat - 1↔_
   rw[Int.toNat_natCast,ev,Int.one_mul]
  refine⟨⟨fun i v hv=>?_,fun i v z' hv hz'=>?_⟩,er,?_,dg _ _,gf _ _ h12⟩
  ·have hv:x.ms[i]?=some v:=hv
   have g:=S.m i v hv
   have hi:=(List.getElem?_eq_some_iff.mp hv).1
   have e:=cY (rs:=z.2) (sd:=sd) (r:=i) fun q hq=>by have:=R.b z (tO hz) q hq; omega
   have hs:=(List.getElem?_eq_some_iff.mp g).1
   have hs':i<(aY z.2 sd).2.length:=by rw[dg]; exact hs
   rw[List.getD_eq_getElem?_getD,List.getD_eq_getElem?_getD,g,tN hs'] at e
   rw[tN hs']
   exact congrArg some e
  ·have hv2:(x.cs.set ((c:Int)).toNat (if x.full (c:Int) then 0 else(x.cs[((c:Int)).toNat]?).getD 0+1))[i]?=some v:=hv
   clear hv
   rw[Int.toNat_natCast] at hv2
   by_cases e:c=i
   ·subst e
    rw[hz] at hz'
    cases hz'
    rw[List.getElem?_set,if_pos rfl,if_pos hc,gv] at hv2
    cases hv2
    show(if x.full (c:Int) then 0 else x.cs[c]+1)=_
    cases hb:(aY z.2 sd).1 with
    | true=>
     obtain⟨e1,e2⟩:=b2 hb
     rw[if_neg (fun q=>by have:=full.mp q; omega),e1,ev]
    | false=>
     obtain⟨e1,e2⟩:=b3 hb
     rw[if_pos (full.mpr e2),e1]
   ·rw[List.getElem?_set,if_neg e] at hv2
    rw[S.c i v z' hv2 hz']
    exact(da fun q hq=>cY fun q' hq'=>R.nd2 hz' hz (fun q=>e q.symm) q hq q' hq').symm
  ·show [((k:Int),n+1),((k:Int),r)][if (aY z.2 sd).1=true then 0 else 1]?=some ((k:Int),if x.full (c:Int) then r else n+1)
   cases hb:(aY z.2 sd).1 with
   | true=>
    obtain⟨_,e2⟩:=b2 hb
    rw[if_pos rfl,if_neg (fun q=>by have:=full.mp q; omega)]; rfl
   | false=>
    obtain⟨_,e2⟩:=b3 hb
    rw[if_neg (by decide),if_pos (full.mpr e2)]; rfl
noncomputable def YW (C:Addr) (H:Hp) (p:Addr) (y:YR) (W:Wd) (s:Sd) (b:Nat) (L:Kn):Prop:=∃ (A:YA) (ts:List (Addr×Sd)),A.p=p/\Has H (yL C A y++(trK W ts++L))/\GW W s y L/\y.trail=trV ts/\ts.length<=b
theorem rH (w:Wd) (s:Sd):(w.go 1 s).rg.length<=s.rg.length+1:=by
 show(match w.nx s with | none=>s | some s'=>w.go 0 s').rg.length<=_
 cases h:w.nx s with
 | none=>exact Nat.le_succ _
 | some t=>
  obtain⟨z,k,o,z',_,_,_,_,rfl⟩:=fi h
  show(if k=.bell then s.rg++[w.nf z.2.1] else s.rg).length<=_
  split
  ·rw[tW,t7]; exact Nat.le_refl _
  ·exact Nat.le_succ _
theorem nx_at {w:Wd}{s t:Sd} (h:w.nx s=some t):∃ z:Pr,t.at_=some z:=by
 obtain⟨z,k,o,z',_,_,_,_,rfl⟩:=fi h
 exact⟨z',U⟩
theorem mP {w:Wd}{s t:Sd} (h:w.nx s=some t):w.go 1 s=t/\(w.hist 1 s).length=1:=by
 constructor
 ·show(match w.nx s with | none=>s | some s'=>w.go 0 s')=t
  rw[h]; rfl
 ·show(match w.nx s with | none=>[] | some s'=>s::w.hist 0 s').length=1
  rw[h]; rfl
section
variable {C:Addr}{H:Hp}{p:Addr}{y:YR}{W:Wd}{s:Sd}{b:Nat}{L:Kn}{Q:V->Hp->Prop}
theorem YW.of (Y:YIn C H p y L) (e:y.trail=[]):∃ W s,YW C H p y W s 0 L:=by
 obtain⟨A,e1,h,W,s,G⟩:=Y
 exact⟨W,s,A,[],e1,h,G,e,Nat.le_refl _⟩
theorem YW.at_ (Y:YW C H p y W s b L) {z:Addr×HO} (m:z ∈ L):H z.1=some z.2:=by
 obtain⟨A,ts,_,h,_⟩:=Y
 exact h.at_ _ (tL _ (tL _ m))
theorem YW.obj (Y:YW C H p y W s b L):∃ A:YA,H p=some (.ins C A.dx (fl A y.next y.eng)):=by
 obtain⟨A,ts,rfl,h,_⟩:=Y
 exact⟨A,h.get 1 U⟩
theorem YW.g (Y:YW C H p y W s b L):GW W s y L:=by
 obtain⟨A,ts,_,_,G,_⟩:=Y
 exact G
theorem YW.wy (Y:YW C H p y W s b L):WY W y L:=by
 obtain⟨A,ts,_,h,G,_⟩:=Y
 exact G.wy (X:=yL C A y++trK W ts) (by rw[tR]; exact h)
theorem YW.eg (Y:YW C H p y W s b L) {z:Pr} (e:y.eng=.ref z.1) (m:pK2 z ∈ L):s.at_=some z:=by
 obtain⟨A,ts,_,h,G,_⟩:=Y
 exact G.eg (X:=yL C A y++trK W ts) (by rw[tR]; exact h) _ _ e m
theorem YW.en (Y:YW C H p y W s b L) {z:Pr} (h:s.at_=some z):y.eng=.ref z.1/\pK2 z ∈ L:=by
 have G:=Y.g
 have en:=G.R.en
 rw[h] at en
 obtain⟨j,hj⟩:=G.P.e z h
 exact⟨en,tO hj⟩
theorem YW.re (Y:YW C H p y W s b L):∃ (A:YA) (ts:List (Addr×Sd)),A.p=p/\Has H (yL C A y++(trK W ts++L))/\∀ {H':Hp}{X:Kn},Has H' (X++(yL C A y++(trK W ts++L)))->YW C H' p y W s b L:=by
 obtain⟨A,ts,e,h,G,e2,e3⟩:=Y
 exact⟨A,ts,e,h,fun {H' X} h'=>⟨A,ts,e,h'.sub (List.sublist_append_right _ _),G,e2,e3⟩⟩
theorem YW.re2 (Y:YW C H p y W s b L):∃ (A:YA) (ts:List (Addr×Sd)),A.p=p/\Has H (yL C A y++(trK W ts++L))/\∀ {H':Hp}{L':Kn},(∀ z:Pr,pK2 z ∈ L->pK2 z ∈ L')->Has H' (yL C A y++(trK W ts++L'))->YW C H' p y W s b L':=by
 obtain⟨A,ts,e,h,G,e2,e3⟩:=Y
 exact⟨A,ts,e,h,fun m h'=>⟨A,ts,e,h',G.mv m,e2,e3⟩⟩
theorem YW.mv {L':Kn} (Y:YW C H p y W s b L) (e:L.Perm L'):YW C H p y W s b L':=by
 obtain⟨A,ts,e1,h,G,e2,e3⟩:=Y
 exact⟨A,ts,e1,h.perm (List.Perm.append_left _ (List.Perm.append_left _ e)),G.mono (fun x hx=>e.mem_iff.mp hx),e2,e3⟩
theorem YW.alloc (Y:YW C H p y W s b L) {a:Addr} (n:H a=none) (o:HO):YW C (upd H a o) p y W s b ((a,o)::L):=by
 obtain⟨A,ts,e,h,G,e2,e3⟩:=Y
 refine⟨A,ts,e,(h.alloc n o).perm ?_,G.mono (fun x hx=>tK _ hx),e2,e3⟩
 have:(a,o)::(yL C A y++(trK W ts++L))=(a,o)::((yL C A y++trK W ts)++L):=by rw[tR]
 rw[this,<- tR]
 exact List.perm_middle.symm
theorem YW.le (Y:YW C H p y W s b L) {b':Nat} (h:b<=b'):YW C H p y W s b' L:=by
 obtain⟨A,ts,e,h1,G,e2,e3⟩:=Y
 exact⟨A,ts,e,h1,G,e2,Nat.le_trans e3 h⟩
theorem YW.sub {L':Kn} (Y:YW C H p y W s b L) (G:GW W s y L') (h:L'.Sublist L):YW C H p y W s b L':=by
 obtain⟨A,ts,e,h1,_,e2,e3⟩:=Y
 exact⟨A,ts,e,h1.sub (List.Sublist.append (List.Sublist.refl _) (List.Sublist.append (List.Sublist.refl _) h)),G,e2,e3⟩
theorem YW.put0 {a:Addr}{o:HO} (Y:YW C H p y W s b ((a,o)::L)) (G:GW W s y L) (o':HO):YW C (upd H a o') p y W s b ((a,o')::L):=by
 obtain⟨A,ts,e,h,_,e2,e3⟩:=Y
 refine⟨A,ts,e,?_,G.mono (fun x hx=>tK _ hx),e2,e3⟩
 rw[<- tR] at h ⊢
 exact((h.perm List.perm_middle).puti 0 U o').perm List.perm_middle.symm
theorem run1 (Y:YW C H p y W s b L) (hb:b<=500000) (hr:y.rung.length<=500000) (q:∀ H' y',y'.next=y.next->y'.kinds=y.kinds->y'.notes=y.notes->y'.rods=y.rods->y'.mates=y.mates->y'.rung.length<=y.rung.length+1->YW C H' p y' W (W.go 1 s) (b+1) L->Q (.int (W.hist 1 s).length) H'):sp_run C [.ref p,.int 1] H Q E0:=by
 obtain⟨A,ts,rfl,h,G,e2,e3⟩:=Y
 refine⟨A,y,L,W,s,ts,1,U,h,G.R,G.P,e2,by omega,by omega,by omega,by omega,fun H' y' ts' h' R' t' e' n1 n2 n3 n4 n5 P'=>?_⟩
 have el:ts'.length=(W.hist 1 s).length:=by rw[show(1:Int).toNat=1 from rfl] at e'; rw[<- e',tP]
 have l1:(W.hist 1 s).length<=1:=by
  show(match W.nx s with | none=>[] | some s'=>s::W.hist 0 s').length<=1
  cases W.nx s with
  | none=>exact Nat.zero_le _
  | some t=>exact Nat.le_refl _
 rw[el]
 have rl:y'.rung.length<=y.rung.length+1:=by
  rw[R'.rg,G.R.rg,tP,tP]
  exact rH W s
 exact q H' y' n1 n2 n3 n4 n5 rl ⟨A,ts++ts',U,h',⟨R',P',by rw[n2]; exact G.kf,by rw[n3,n4]; exact G.fk⟩,t',by rw[tW]; omega⟩
theorem pS (Y:YW C H p y W s b L) (q:∀ H',YW C H' p y W s b L->Q (W.why s) H'):sp_held C [.ref p] H Q E0:=by
 obtain⟨A,ts,rfl,h,G,e2,e3⟩:=Y
 exact⟨A,y,trK W ts++L,W,s,U,h,G.R,G.P.sub fun x hx=>tL _ hx,fun H' h'=>q H' ⟨A,ts,U,h',G,e2,e3⟩⟩
end
noncomputable def Drs (ds:List (Addr×List Pr)) (z:Int×Int):Prop:=∃ u ∈ ds,∃ x ∈ u.2,x.2=z
noncomputable def AtZ (s:Sd) (z:Int×Int):Prop:=∃ a,s.at_=some (a,z)
theorem p9 {k:List Key} (h:k ∉ kvs.map (·.1)):aG kvs k=none:=by
 unfold aG
 rw[List.find?_eq_none.mpr fun x hx c=>h (by rw[<- of_decide_eq_true c]; exact tY hx)]
 rfl
theorem RAt.no {N:Kn}{p:Nat->Nat->Prop} (h:RAt kvs N ds p) {z:Int×Int} (hz:¬ Drs ds z):aG kvs (kE z.1 z.2)=none:=p9 fun c=>by
 obtain⟨u,hu,x,hx,e⟩:=h.k _ c
 exact hz ⟨u,hu,x,hx,(cH e).symm⟩
theorem iQ (A:LA):(lfl A).lookup ("row_here" : Str)=none/\(lfl A).lookup ("lies" : Str)=none/\(lfl A).lookup ("reads" : Str)=none:=⟨by kernel_rfl,by kernel_rfl,by kernel_rfl⟩
inductive sp_rowhere (Cy Cl:Addr) (vs:List V) (H:Hp) (Q:VK) (E_:XK):Prop
 | mk (A:LA) (y:YR) (W:Wd) (s:Sd) (b:Nat) (L:Kn) (kvs:List (List Key×V)) (z:Pr) (_:vs=[.ref A.p]) (_:YW Cy H A.y y W s b L) (_:(A.p,HO.ins Cl A.dx (lfl A)) ∈ L) (_:(A.r,HO.dT kvs) ∈ L) (_:s.at_=some z) (_:Q ((aG kvs (kE z.2.1 z.2.2)).getD .non) H):sp_rowhere Cy Cl vs H Q E_
inductive sp_lies (Cy Cl:Addr) (vs:List V) (H:Hp) (Q:VK) (E_:XK):Prop
 | mk (A:LA) (y:YR) (W:Wd) (s:Sd) (b:Nat) (L:Kn) (ds:List (Addr×List Pr)) (mr:List Int) (cr:List (Addr×List Int)) (k:Nat) (r:Int) (v:V) (_:vs=[.ref A.p,.int k]) (_:YW Cy H A.y y W s b L) (_:LIn Cl A ds mr cr L) (_:mr[k]?=some r) (_:0<=r) (_:y.sides[r.toNat]?=some v) (_:Q v H):sp_lies Cy Cl vs H Q E_
inductive sp_reads (Cy Cl:Addr) (vs:List V) (H:Hp) (Q:VK) (E_:XK):Prop
 | mk (A:LA) (y:YR) (W:Wd) (s:Sd) (b:Nat) (L:Kn) (ds:List (Addr×List Pr)) (mr:List Int) (cr:List (Addr×List Int)) (k:Nat) (z:Addr×List Int) (_:vs=[.ref A.p,.int k]) (_:YW Cy H A.y y W s b L) (_:LIn Cl A ds mr cr L) (_:cr[k]?=some z) (_:(∀ r ∈ z.2,0<=r/\r.toNat<s.ss.length)) (_:∀ H',YW Cy H' A.y y W s b L->Q (.int (rdS z.2 s.ss)) H'):sp_reads Cy Cl vs H Q E_
section
variable {P:Program}{w:World}{K:PySem.W.Frag}{mg:Str->Option Value}{base:Heap}{t:Adr}
theorem scRh:FnScope ["self"] ["self"] (aj sB):={}
theorem my (T:Txt K mg t):FnOk P w K mg base CX0 2 t.f_Jg t.d_Jg ["self"] (sp_rowhere t.c_Yard t.c_Laid):=by
 refine T.F_Jg.ok scRh (fun vs H Q E h=>?_) (fun cdv A outer s H vs Q E hr h=>?_)
 ·obtain⟨_,_,_,_,_,_,_,_,rfl,_⟩:=h
  rfl
 ·obtain⟨A,y,W,s,b,L,kvs,z,rfl,Y,mp,mr,hz,q⟩:=h
  have hu:=cS hr
  refine⟨_,(ai (au (fJ hu (aA (pv 0) rfl) (aV (aA (pv 0) rfl) T.cl_Yard T.M_Jn (pH T) hr (tm T) .nil aF) ⟨U,U,U,U⟩))),?_⟩
  have gp:=Y.at_ mp
  have gr:=Y.at_ mr
  obtain⟨ey,mz⟩:=Y.en hz
  have gz:=Y.at_ mz
  obtain⟨Ay,gy⟩:=Y.obj
  refine⟨_,U,A.p,_,A.dx,_,_,U,gp,T.cl_Laid,T.n_Laid_rows_at,pO _,A.r,U,.inr ⟨_,.inl gr⟩,_,U,A.p,_,A.dx,_,_,U,gp,T.cl_Laid,T.n_Laid_yard,dh _,A.y,Ay.dx,_,U,gy,(gN _ _ _).2.2.2.2.2.2.1,?_⟩
  refine tn0 ?_
  obtain⟨By,ts,eB,hB,_⟩:=Y.re
  refine⟨By,y,_,by rw[eB]; rfl,hB,?_⟩
  rw[ey]
  exact⟨_,DGet.t (k:=kE z.2.1 z.2.2) gr gz,q⟩
theorem scLi2:FnScope ["self","mark"] ["self","mark"] (aj ph):={}
theorem q0 (T:Txt K mg t):FnOk P w K mg base CX0 3 t.f_J51 t.d_J51 ["self","mark"] (sp_lies t.c_Yard t.c_Laid):=by
 refine T.F_J51.ok scLi2 (fun vs H Q E h=>?_) (fun cdv A outer s H vs Q E hr h=>?_)
 ·obtain⟨_,_,_,_,_,_,_,_,_,_,_,_,rfl,_⟩:=h
  rfl
 ·obtain⟨A,y,W,s,b,L,ds,mr,cr,k,r,v,rfl,Y,lin,hk,r0,hv,q⟩:=h
  refine⟨_,(ai (au (aC (aA (pv 0) rfl) T.cl_Yard T.M_J41 (ji T) hr (nk T) .nil aF (aa (aC (pv 0) T.cl_Laid T.M_Jf (mC T) hr (rP T) .nil aF (aa (pv 1) ag)) ag)))),?_⟩
  have gp:=Y.at_ lin.p
  obtain⟨Ay,gy⟩:=Y.obj
  refine⟨_,U,A.p,_,A.dx,_,_,U,gp,T.cl_Laid,T.n_Laid_yard,dh _,A.y,Ay.dx,_,U,gy,(bQ _ _ _).2.2.2.2.2.1,?_⟩
  refine⟨_,U,A.p,A.dx,_,U,gp,(eJ _).2.1,_,U,?_⟩
  refine tn0 ?_
  refine⟨A,ds,mr,cr,L,k,r,U,fun z hz=>Y.at_ hz,lin,hk,?_⟩
  refine tn0 ?_
  obtain⟨By,ts,eB,hB,_⟩:=Y.re
  exact⟨By,y,_,r,v,by rw[eB]; rfl,hB,r0,hv,q⟩
theorem scRd:FnScope ["self","counter","number","rod"] ["self","counter"] (aj si):={}
theorem ok_Js (T:Txt K mg t):FnOk P w K mg base CX0 3 t.f_Js t.d_Js ["self","counter"] (sp_reads t.c_Yard t.c_Laid):=by
 refine T.F_Js.ok scRd (fun vs H Q E h=>?_) (fun cdv A outer s H vs Q E hr h=>?_)
 ·obtain⟨_,_,_,_,_,_,_,_,_,_,_,rfl,_⟩:=h
  rfl
 ·obtain⟨A,y,W,s,b,L,ds,mr,cr,k,z,rfl,Y,lin,hk,hz,q⟩:=h
  refine⟨_,(ae (ax (i:=2) scRd.nd rfl (Or.inl rfl) ah)
   (ae (bi PassesOwn.never rfl (qA (by rfl) T.z_reversed (aa (aC (pv 0) T.cl_Laid T.M_Je (pK T) hr (tw T) .nil aF (aa (pv 1) ag)) ag)) (aq (i:=3) scRd.nd rfl (Or.inl rfl))
    (ai (ax (i:=2) scRd.nd rfl (Or.inl rfl) (aw fK (aw aQ (aw cD ah (pv 2)) (aC (aA (pv 0) rfl) T.cl_Yard T.M_J41 (ji T) hr (nk T) .nil aF (aa (pv 3) ag))) ah))))
   (ai (au (pv 2))))),?_⟩
  rw[show L2.start ["self","counter","number","rod"] [V.ref A.p,V.int k]=([some (V.ref A.p),some (V.int k),none,none]:St) from rfl]
  have gp:=Y.at_ lin.p
  refine⟨_,U,A.p,A.dx,_,U,gp,(eJ _).2.2,_,U,?_⟩
  refine tn0 ?_
  refine⟨A,ds,mr,cr,L,k,z,U,fun z hz=>Y.at_ hz,lin,hk,fun l hl=>?_⟩
  have Y1:=Y.alloc hl (.lst (z.2.map V.int))
  refine tn0 ?_
  have ll:(z.2.map V.int).length=z.2.length:=tP ..
  obtain⟨By,ts,eB,hB,re⟩:=Y1.re
  refine⟨l,_,U,SqL.of (Y1.at_ tM),oh (xs:=z.2.map V.int) (fun i σ H'=>H'=upd H l (.lst (z.2.map V.int))/\∃ o3:Option V,σ=[some (.ref A.p),some (.int k),some (.int (rdS (z.2.drop (z.2.length - i)) s.ss)),o3]) ⟨U,_,by rw[Nat.sub_zero,List.drop_length]; rfl⟩ (fun i σ H' _ h=>by rw[h.1]; exact SqL.of (Y1.at_ tM)) ?_ ?_⟩
  ·rintro i x σ H' hi hx ⟨rfl,o3,rfl⟩
   rw[ll] at hi hx
   rw[tS] at hx
   obtain⟨r,hr0,rfl⟩:=Option.map_eq_some_iff.mp hx
   have hrm:=tO hr0
   obtain⟨r0,r1⟩:=hz r hrm
   have gp1:=Y1.at_ (tK _ lin.p)
   obtain⟨Ay,gy⟩:=Y1.obj
   dsimp only[List.set]
   have sd:y.sides=s.ss.map V.int:=Y.g.R.sd
   have gv:y.sides[r.toNat]?=some (.int (s.ss.getD r.toNat 0)):=by
    rw[sd,tS,List.getD_eq_getElem?_getD,tN r1]; rfl
   refine⟨_,U,_,_,U,U,.inl ⟨by decide,by decide⟩,_,U,A.p,_,A.dx,_,_,U,gp1,T.cl_Laid,T.n_Laid_yard,dh _,A.y,Ay.dx,_,U,gy,(bQ _ _ _).2.2.2.2.2.1,_,U,?_⟩
   refine tn0 ?_
   refine⟨By,y,_,r,_,by rw[eB]; rfl,hB,r0,gv,_,_,U,U,_,_,U,U,U,some (.int r),?_⟩
   have ed:z.2.drop (z.2.length - (i+1))=r::z.2.drop (z.2.length - i):=by
    have h1:z.2.length - (i+1)<z.2.length:=by omega
    rw[List.drop_eq_getElem_cons h1]
    have e2:z.2.length - (i+1)+1=z.2.length - i:=by omega
    rw[e2]
    congr 1
    have e3:z.2.length - (i+1)=z.2.length - 1 - i:=by omega
    have:=(List.getElem?_eq_some_iff.mp hr0).2
    simp only[e3]
    exact this
   rw[ed]
   show _=[some (V.ref A.p),some (V.int k),some (V.int ((s.ss.getD r.toNat 0 - 1)+2*rdS (z.2.drop (z.2.length - i)) s.ss)),some (V.int r)]
   rw[show(s.ss.getD r.toNat 0 - 1)+2*rdS (z.2.drop (z.2.length - i)) s.ss=2*rdS (z.2.drop (z.2.length - i)) s.ss+s.ss.getD r.toNat 0 - 1 by omega]
   rfl
  ·rintro σ H' ⟨rfl,o3,rfl⟩
   rw[ll,Nat.sub_self,List.drop_zero]
   refine⟨_,U,q _ ?_⟩
   obtain⟨A2,ts2,e2,h2,G2,t2,l2⟩:=Y1
   obtain⟨_,_,_,_,G,_⟩:=Y
   exact⟨A2,ts2,e2,h2.sub (List.Sublist.append (List.Sublist.refl _) (List.Sublist.append (List.Sublist.refl _) (List.sublist_cons_self _ _))),G,t2,l2⟩
end
noncomputable def qm:Sp:=fun vs H Q _=>(vs=[.non,.non]/\Q (.bl true) H)∨∃ (a b:Addr) (n e:Int),vs=[.ref a,.ref b]/\H a=some (.tup [.int n,.int e])/\H b=some (.tup [.int n,.int e])/\Q (.bl true) H
section
variable {P:Program}{w:World}{K:PySem.W.Frag}{mg:Str->Option Value}{base:Heap}{t:Adr}
theorem scIe:FnScope ["_law_found","_law_due"] ["_law_found","_law_due"] (aj oT):={}
theorem mi (T:Txt K mg t):FnOk P w K mg base CX0 3 t.f_Jo1 t.d_Jo1 ["_law_found","_law_due"] qm:=by
 refine T.F_Jo1.ok scIe (fun vs H Q E h=>?_) (fun cdv A outer s H vs Q E hr h=>?_)
 ·rcases h with ⟨rfl,_⟩ | ⟨_,_,_,_,rfl,_⟩ <;> rfl
 ·rcases h with ⟨rfl,q⟩ | ⟨a,b,n,e,rfl,ga,gb,q⟩
  all_goals refine⟨_,(ae (aD (ak bP (pv 1) aS (ao _))
    (ai (au (bU bP (pv 0) aS (ao _))))
    ap)
   (ae (aD (PW.pt (cK (b7 (b6 (aN dX (by rfl) T.z_isinstance (by rfl) (aa (pv 0) (aa (fh (v:=.ty "tuple") (by rfl) T.z_tuple (by rfl) rfl) ag))))) (b5 (ak iI (aN aI (by rfl) T.z_len (by rfl) (aa (pv 0) ag)) ah (ao _)))))
    (ai (au dL))
    ap)
   (ai (au (hV (pcl (iJ T) hr T.m_is T.F_is.kp (nh T) (aa (av aK (pv 0) ah) (aa (av aK (pv 1) ah) ag))) (hJ (pcl (iJ T) hr T.m_is T.F_is.kp (nh T) (aa (av aK (pv 0) ah) (aa (av aK (pv 1) ah) ag))))))))),?_⟩
  ·refine⟨_,U,U,_,U,dP ?_⟩
   exact⟨_,U,U,q⟩
  ·refine⟨_,U,U,_,U,ce ?_⟩
   refine⟨_,U,_,_,_,_,U,.tup ga,rk K,_,U,ce ?_⟩
   refine⟨_,U,a,_,U,.inr (SqT.of ga),U,_,U,ce ?_⟩
   refine⟨_,U,a,_,_,_,U,U,SqT.of ga,U,_,U,b,_,_,_,U,U,SqT.of gb,U,_,_,U,?_⟩
   rw[decide_eq_true rfl]
   refine⟨_,U,dP ?_⟩
   refine⟨_,U,a,_,_,_,U,U,SqT.of ga,U,_,U,b,_,_,_,U,U,SqT.of gb,U,_,_,U,?_⟩
   rw[decide_eq_true rfl]
   exact q
end
inductive sp_Jn1 (vs:List V) (H:Hp) (Q:VK) (E_:XK):Prop
 | mk (a b:Addr) (xs ys:List Int) (i j:Nat) (L:Kn) (_:vs=[.ref a,.ref b]) (_:Has H L) (_:L[i]?=some (a,.lst (xs.map V.int))) (_:L[j]?=some (b,.lst (ys.map V.int))) (_:xs.length<=100000) (_:∀ H',Has H' L->Q (.bl (decide (xs=ys))) H'):sp_Jn1 vs H Q E_
theorem ny:∀ {xs ys:List Int},xs.length=ys.length->((xs.zip ys).map fun p=>decide (p.1=p.2)).all id=decide (xs=ys)
 | [],[],_=>rfl
 | x::xs,y::ys,h=>by
  have ih:=ny (xs:=xs) (ys:=ys) (by simpa using h)
  rw[List.zip_cons_cons,t5,List.all_cons,ih]
  by_cases e:x=y
  ·subst e; simp
  ·simp[e]
section
variable {P:Program}{w:World}{K:PySem.W.Frag}{mg:Str->Option Value}{base:Heap}{t:Adr}
theorem scIr:FnScope ["_law_found","_law_due"] ["_law_found","_law_due"] (aj lD):={}
theorem qN (T:Txt K mg t):FnOk P w K mg base CX0 3 t.f_Jn1 t.d_Jn1 ["_law_found","_law_due"] sp_Jn1:=by
 refine T.F_Jn1.ok scIr (fun vs H Q E h=>?_) (fun cdv A outer s H vs Q E hr h=>?_)
 ·obtain⟨_,_,_,_,_,_,_,rfl,_⟩:=h
  rfl
 ·obtain⟨a,b,xs,ys,i,j,L,rfl,hH,hi,hj,hxl,q⟩:=h
  refine⟨_,(ae (aD (PW.pt (cK (b7 (b6 (aN dX (by rfl) T.z_isinstance (by rfl) (aa (pv 0) (aa (fh (v:=.ty "list") (by rfl) T.z_list (by rfl) rfl) ag))))) (b5 (ak iI (aN aI (by rfl) T.z_len (by rfl) (aa (pv 0) ag)) (aN aI (by rfl) T.z_len (by rfl) (aa (pv 1) ag)) (ao _)))))
    (ai (au dL))
    ap)
   (ai (au (aN (f8 rfl) (by rfl) T.z_all (by rfl) (aa (dJ (esc:=aj lD) (k:=2) ["_law_one","_law_other","_law_found","_law_due"] rfl (jg (by rfl) T.z_zip (aa (pv 0) (aa (pv 1) ag))) (fun _ _ _ _ _=>by exact(hC (K:=K) (n:=2) rfl rfl (ay (aq (i:=0) (show List.Nodup (["_law_one","_law_other","_law_found","_law_due"]:List Str) from by decide +kernel) rfl (Or.inl rfl)) (ay (aq (i:=1) (show List.Nodup (["_law_one","_law_other","_law_found","_law_due"]:List Str) from by decide +kernel) rfl (Or.inl rfl)) bc)))) (fun _ _ _ _ _=>by exact bA) (fun _ _ _ _ _=>by exact(pcl (iJ T) hr T.m_is T.F_is.kp (nh T) (aa (pv 0) (aa (pv 1) ag)))) rfl (by decide +kernel) (by decide +kernel) rfl (by decide +kernel) (by rfl) (fun _ _ h _=>h) (by decide +kernel)) ag))))),?_⟩
  refine⟨_,U,_,_,_,_,U,.lst (hH.get i hi),rm K,_,U,ce ?_⟩
  refine⟨_,U,a,_,U,.inl (SqL.of (hH.get i hi)),_,U,b,_,U,.inl (SqL.of (hH.get j hj)),U,_,U,?_⟩
  rw[tP,tP,cI]
  refine sV (fun hc=>?_) (fun hc=>?_)
  ·have e:decide (xs=ys)=false:=decide_eq_false (fun z=>hc (by rw[z]))
   rw[e] at q
   exact q _ hH
  ·have hl:xs.length=ys.length:=by omega
   refine⟨_,U,_,U,a,b,U,⟨_,SqL.of (hH.get i hi)⟩,⟨_,SqL.of (hH.get j hj)⟩,fun D hD=>?_⟩
   refine⟨fun n m zs H'=>m=xs.length - n/\n<=xs.length/\zs=((xs.zip ys).take n).map (fun p=>V.bl (decide (p.1=p.2)))/\Has H' ((D,.lst zs)::L),⟨xs.length,by simp,Nat.zero_le _,U,hH.alloc hD _⟩,?_⟩
   rintro n m zs H' ⟨rfl,hn,rfl,h1⟩
   refine⟨h1.get 0 U,?_⟩
   have ga:=h1.get (i+1) (by simpa using hi)
   have gb:=h1.get (j+1) (by simpa using hj)
   by_cases hlt:n<xs.length
   ·refine .inr ⟨⟨_,_,_,_,SqL.of ga,(by rw[tS,tN hlt]; rfl),SqL.of gb,(by rw[tS,tN (by omega)]; rfl)⟩,?_⟩
    rintro x H2 ⟨p,x1,y1,rfl,hp,rfl,hx1,hy1⟩
    have hx2:=hx1 _ (SqL.of ga)
    have hy2:=hy1 _ (SqL.of gb)
    rw[tS,tN hlt] at hx2
    rw[tS,tN (by omega)] at hy2
    cases hx2
    cases hy2
    have h2:=h1.alloc hp (.tup [.int xs[n],.int (ys[n]'(by omega))])
    refine⟨p,_,U,SqT.of (h2.get 0 U),U,_,_,U,_,_,U,U,U,?_⟩
    refine bJ ?_
    refine⟨_,U,_,U,_,_,U,?_⟩
    refine⟨?_,h2.get 1 U,xs.length - (n+1),by omega,U,hlt,?_,?_⟩
    ·rw[tP,ub]
     exact sizeOk (by omega)
    ·rw[List.take_succ,tU,tN (by rw[List.length_zip]; omega),List.getElem_zip]
     rfl
    ·exact(h2.puti 1 U _).tail
   ·have en:n=xs.length:=by omega
    refine .inl ⟨⟨_,_,SqL.of ga,SqL.of gb,.inl (by rw[tP]; omega)⟩,?_⟩
    refine⟨D,((xs.zip ys).map fun p=>decide (p.1=p.2)),U,?_,?_⟩
    ·have e:((xs.zip ys).take n).map (fun p=>V.bl (decide (p.1=p.2)))=((xs.zip ys).map fun p=>decide (p.1=p.2)).map V.bl:=by
      rw[List.take_of_length_le (by rw[List.length_zip]; omega),uh]; rfl
     rw[<- e]
     exact SqL.of (h1.get 0 U)
    ·rw[ny hl]
     exact q _ h1.tail
end
noncomputable def rW (W:Wd) (ds:List (Addr×List Pr)) (t:Sd) (res:Option (Int×Int)):Prop:=(∃ (k r:Nat) (u:Addr×List Pr) (e:Pr),res=some ((k:Int),(r:Int))/\ds[k]?=some u/\u.2[r]?=some e/\AtZ t e.2)∨(res=none/\W.nx t=none/\∃ z,AtZ t z/\¬ Drs ds z)
noncomputable def NxS (W:Wd) (ds:List (Addr×List Pr)) (s:Sd) (n:Nat) (t:Sd) (res:Option (Int×Int)):Prop:=(∃ t1,W.nx s=some t1/\Rv W (Drs ds) n t1 t/\rW W ds t res)∨(W.nx s=none/\s=t/\res=none)
structure Same (y y':YR):Prop where
 n:y'.next=y.next
 k:y'.kinds=y.kinds
 o:y'.notes=y.notes
 r:y'.rods=y.rods
 m:y'.mates=y.mates
theorem Same.refl (y:YR):Same y y:=⟨U,U,U,U,U⟩
theorem Same.trans {a b c:YR} (h:Same a b) (g:Same b c):Same a c:=⟨g.n.trans h.n,g.k.trans h.k,g.o.trans h.o,g.r.trans h.r,g.m.trans h.m⟩
inductive sp_nextrow (Cy Cl:Addr) (vs:List V) (H:Hp) (Q:VK) (E_:XK):Prop
 | mk (A:LA) (y:YR) (W:Wd) (s:Sd) (b:Nat) (L:Kn) (kvs:List (List Key×V)) (ds:List (Addr×List Pr)) (n:Nat) (t:Sd) (res:Option (Int×Int)) (_:vs=[.ref A.p]) (_:YW Cy H A.y y W s b L) (_:(A.p,HO.ins Cl A.dx (lfl A)) ∈ L) (_:(A.r,HO.dT kvs) ∈ L) (_:RAt kvs L ds (fun _ _=>True)) (_:b+n+1<=400000) (_:y.rung.length+n+1<=400000) (_:NxS W ds s n t res) (_:∀ H' y' v,Same y y'->YW Cy H' A.y y' W t (b+n+2) L->PlIn v res L->Q v H'):sp_nextrow Cy Cl vs H Q E_
inductive nrInv (Cy:Addr) (A:LA) (y:YR) (W:Wd) (b n:Nat) (L:Kn) (ds:List (Addr×List Pr)) (t:Sd) (res:Option (Int×Int)) (m:Nat) (σ':St) (H':Hp):Prop
 | mk (y':YR) (s':Sd) (b':Nat) (o:Option V) (_:σ'=[some (.ref A.p),o]) (_:Same y y') (_:YW Cy H' A.y y' W s' b' L) (_:b'+m<=b+n+1) (_:y'.rung.length+m<=400000) (_:((∃ m' t1,m=m'+1/\W.nx s'=some t1/\Rv W (Drs ds) m' t1 t/\rW W ds t res)∨(m=0/\W.nx s'=none/\s'=t/\res=none))):nrInv Cy A y W b n L ds t res m σ' H'
section
variable {P:Program}{w:World}{K:PySem.W.Frag}{mg:Str->Option Value}{base:Heap}{t:Adr}
theorem scNr2:FnScope ["laid","row"] ["laid"] (aj o7):={}
theorem mD (T:Txt K mg t):FnOk P w K mg base CX0 8 t.f_Ja1 t.d_Ja1 ["laid"] (sp_nextrow t.c_Yard t.c_Laid):=by
 refine T.F_Ja1.ok scNr2 (fun vs H Q E h=>?_) (fun cdv A outer s H vs Q E hr h=>?_)
 ·obtain⟨_,_,_,_,_,_,_,_,_,_,_,rfl,_⟩:=h
  rfl
 ·obtain⟨A,y,W,s,b,L,kvs,ds,n,te,res,rfl,Y,mp,mr,ra,bb,br,nxs,q⟩:=h
  refine⟨_,(ae (dG PassesOwn.never (ak aW (pcl (qJ T) hr T.m_run T.F_run.kp (b_run T) (aa (aA (pv 0) rfl) (aa ah ag))) ah (ao _))
    (ae (ax (i:=1) scNr2.nd rfl (Or.inl rfl) (aV (pv 0) T.cl_Laid T.M_Jg (my T) hr (rO T) .nil aF))
     (ai (aD (ak cf (pv 1) aS (ao _))
      (ai (au (pv 1)))
      ap))))
   (ai (au aS))),?_⟩
  rw[show L2.start ["laid","row"] [V.ref A.p]=([some (V.ref A.p),none]:St) from rfl]
  refine⟨nrInv t.c_Yard A y W b n L ds te res,?_,?_⟩
  ·rcases nxs with ⟨t1,h1,h2,h3⟩ | ⟨h1,h2,h3⟩
   ·exact⟨n+1,y,s,b,_,U,Same.refl _,Y,by omega,by omega,.inl ⟨n,t1,U,h1,h2,h3⟩⟩
   ·exact⟨0,y,s,b,_,U,Same.refl _,Y,by omega,by omega,.inr ⟨U,h1,h2,h3⟩⟩
  rintro m σ H1 ⟨y1,s1,b1,o,rfl,sm,Y1,c1,c2,go⟩
  have gp:=Y1.at_ mp
  refine⟨_,U,A.p,_,A.dx,_,_,U,gp,T.cl_Laid,T.n_Laid_yard,dh _,?_⟩
  refine tc1 ?_
  refine run1 Y1 (by omega) (by omega) fun H2 y2 n1 n2 n3 n4 n5 rl Y2=>?_
  have sm2:Same y y2:=sm.trans ⟨n1,n2,n3,n4,n5⟩
  rcases go with ⟨m',t1,rfl,hx,rv,fs⟩ | ⟨rfl,hx,rfl,rfl⟩
  ·obtain⟨e1,e2⟩:=mP hx
   rw[e2]
   rw[e1] at Y2
   refine⟨U,_,U,?_⟩
   refine ifT (decide_eq_true rfl) ?_
   refine⟨_,fun σ' H' h=>h,?_⟩
   obtain⟨z,hz⟩:=nx_at hx
   have gp2:=Y2.at_ mp
   refine⟨_,U,A.p,A.dx,_,U,gp2,(iQ _).1,?_⟩
   refine tn0 ?_
   refine⟨A,y2,W,t1,_,L,kvs,z,U,Y2,mp,mr,hz,?_⟩
   dsimp only[List.set]
   cases rv with
   | refl=>
    rcases fs with ⟨k,r,u,e,rfl,hu,he,a,ha⟩ | ⟨rfl,hn,z',⟨a,ha⟩,nd⟩
    ·rw[ha] at hz
     cases hz
     obtain⟨v,hv,mv⟩:=ra.v k r u e trivial hu he
     rw[hv]
     refine⟨_,U,U,_,U,ifT (by rfl) ?_⟩
     exact⟨_,U,q H2 y2 _ sm2 (Y2.le (by omega)) ⟨v,U,mv⟩⟩
    ·rw[ha] at hz
     cases hz
     rw[ra.no (z:=z') nd]
     refine⟨_,U,U,_,U,ifF (by rfl) ?_⟩
     exact⟨0,by omega,y2,te,_,_,U,sm2,Y2,by omega,by omega,.inr ⟨U,hn,U,U⟩⟩
   | @step m2 _ t2 _ nd h2 r2=>
    have nd:=nd z.1 z.2 hz
    rw[ra.no nd]
    refine⟨_,U,U,_,U,ifF (by rfl) ?_⟩
    exact⟨m2+1,by omega,y2,t1,_,_,U,sm2,Y2,by omega,by omega,.inl ⟨m2,t2,U,h2,r2,fs⟩⟩
  ·have e1:=nZ (w:=W) hx 1
   rw[e1.2]
   rw[e1.1] at Y2
   refine⟨U,_,U,?_⟩
   refine ifF (decide_eq_false (by decide)) ?_
   exact q H2 y2 _ sm2 (Y2.le (by omega)) rfl
end
noncomputable def PlS (ds:List (Addr×List Pr)) (s:Sd) (pl:Option (Int×Int)):Prop:=(∃ (k r:Nat) (u:Addr×List Pr) (e:Pr),pl=some ((k:Int),(r:Int))/\ds[k]?=some u/\u.2[r]?=some e/\AtZ s e.2)∨(pl=none/\∃ z,AtZ s z/\¬ Drs ds z)
structure LdS (A:LA) (L:Kn) (kvs:List (List Key×V)) (ds:List (Addr×List Pr)) (cr:List (Addr×List Int)) (x:Md) (s:Sd):Prop where
 r:(A.r,HO.dT kvs) ∈ L
 ra:RAt kvs L ds (fun _ _=>True)
 sm:Sim cr x s.ss
 g:s.rg=x.ns
 cl:x.cs.length=cr.length
 cb:∀ z ∈ cr,∀ r ∈ z.2,0<=r/\r.toNat<s.ss.length
 ml:x.ms.length<=30
 c3:x.cs.length<=30
 nl:x.ns.length<=1000
inductive sp_laidis (Cy Cl:Addr) (vs:List V) (H:Hp) (Q:VK) (E_:XK):Prop
 | mk (A:LA) (y:YR) (W:Wd) (s:Sd) (b:Nat) (L:Kn) (kvs:List (List Key×V)) (ds:List (Addr×List Pr)) (cr:List (Addr×List Int)) (hv:V) (pl:Option (Int×Int)) (sl ml hl:Addr) (x:Md) (_:vs=[.ref A.p,hv,.ref sl,.ref ml,.ref hl]) (_:YW Cy H A.y y W s b L) (_:LIn Cl A ds (rgI x.ms.length) cr L) (_:LdS A L kvs ds cr x s) (_:PlIn hv pl L) (_:PlS ds s pl) (_:(sl,HO.lst (x.ms.map V.int)) ∈ L) (_:(ml,HO.lst (x.cs.map V.int)) ∈ L) (_:(hl,HO.lst (x.ns.map V.int)) ∈ L) (_:∀ H',YW Cy H' A.y y W s b L->Q (.bl true) H'):sp_laidis Cy Cl vs H Q E_
section
variable {P:Program}{w:World}{K:PySem.W.Frag}{mg:Str->Option Value}{base:Heap}{t:Adr}
theorem scLs:FnScope ["_law_laid","_law_here","_law_sides","_law_sums","_law_heard"] ["_law_laid","_law_here","_law_sides","_law_sums","_law_heard"] (aj jG):={}
theorem mj (T:Txt K mg t):FnOk P w K mg base CX0 4 t.f_Jj1 t.d_Jj1 ["_law_laid","_law_here","_law_sides","_law_sums","_law_heard"] (sp_laidis t.c_Yard t.c_Laid):=by
 refine T.F_Jj1.ok scLs (fun vs H Q E h=>?_) (fun cdv A outer s H vs Q E hr h=>?_)
 ·obtain⟨_,_,_,_,_,_,_,_,_,_,_,_,_,_,_,rfl,_⟩:=h
  rfl
 ·obtain⟨A,y,W,s,b,L,kvs,ds,cr,hv,pl,sl,ml,hl,x,rfl,Y,lin,S,hpl,ps,msl,mml,mhl,q⟩:=h
  refine⟨_,(ae (g8 (aD (PW.pt (bO (ak cf (pv 1) aS (ao _)) (bT (b7 (b6 (pcl (mi T) hr T.m_Jo1 T.F_Jo1.kp (pV T) (aa (aV (pv 0) T.cl_Laid T.M_Jg (my T) hr (rO T) .nil aF) (aa (pv 1) ag))))))))
    (ai (au dL))
    ap))
   (ae (g8 (aD (PW.pt (bO (ak bP (pv 1) aS (ao _)) (bT (ak cf (aV (pv 0) T.cl_Laid T.M_Jg (my T) hr (rO T) .nil aF) aS (ao _)))))
    (ai (au dL))
    ap))
   (ae (g8 (aD (b7 (b6 (pcl (qN T) hr T.m_Jn1 T.F_Jn1.kp (b_Jn1 T) (aa (aV (aA (pv 0) rfl) T.cl_Yard T.M_Jr (ok_Jr T) hr (b_Jr T) .nil aF) (aa (pv 4) ag)))))
    (ai (au dL))
    ap))
   (ae (g8 (aD (b7 (b6 (aN (f8 rfl) (by rfl) T.z_all (by rfl) (aa (dJ (esc:=aj jG) (k:=2) ["_law_mark","_law_side","_law_laid","_law_here","_law_sides","_law_sums","_law_heard"] rfl (dI (by rfl) T.z_enumerate (aa (pv 2) ag)) (fun _ _ _ _ _=>by exact(hC (K:=K) (n:=2) rfl rfl (ay (aq (i:=0) (show List.Nodup (["_law_mark","_law_side","_law_laid","_law_here","_law_sides","_law_sums","_law_heard"]:List Str) from by decide +kernel) rfl (Or.inl rfl)) (ay (aq (i:=1) (show List.Nodup (["_law_mark","_law_side","_law_laid","_law_here","_law_sides","_law_sums","_law_heard"]:List Str) from by decide +kernel) rfl (Or.inl rfl)) bc)))) (fun _ _ _ _ _=>by exact bA) (fun _ _ _ _ _=>by exact(pcl (iJ T) hr T.m_is T.F_is.kp (nh T) (aa (aC (pv 2) T.cl_Laid T.M_J51 (q0 T) hr (b_J51 T) .nil aF (aa (pv 0) ag)) (aa (pv 1) ag)))) rfl (by decide +kernel) (by decide +kernel) rfl (by decide +kernel) (by rfl) (fun _ _ h _=>h) (by decide +kernel)) ag))))
    (ai (au dL))
    ap))
   (ai (au (aN (f8 rfl) (by rfl) T.z_all (by rfl) (aa (dJ (esc:=aj jG) (k:=2) ["_law_counter","_law_value","_law_laid","_law_here","_law_sides","_law_sums","_law_heard"] rfl (dI (by rfl) T.z_enumerate (aa (pv 3) ag)) (fun _ _ _ _ _=>by exact(hC (K:=K) (n:=2) rfl rfl (ay (aq (i:=0) (show List.Nodup (["_law_counter","_law_value","_law_laid","_law_here","_law_sides","_law_sums","_law_heard"]:List Str) from by decide +kernel) rfl (Or.inl rfl)) (ay (aq (i:=1) (show List.Nodup (["_law_counter","_law_value","_law_laid","_law_here","_law_sides","_law_sums","_law_heard"]:List Str) from by decide +kernel) rfl (Or.inl rfl)) bc)))) (fun _ _ _ _ _=>by exact bA) (fun _ _ _ _ _=>by exact(pcl (iJ T) hr T.m_is T.F_is.kp (nh T) (aa (aC (pv 2) T.cl_Laid T.M_Js (ok_Js T) hr (b_Js T) .nil aF (aa (pv 0) ag)) (aa (pv 1) ag)))) rfl (by decide +kernel) (by decide +kernel) rfl (by decide +kernel) (by rfl) (fun _ _ h _=>h) (by decide +kernel)) ag)))))))),?_⟩
  rw[show L2.start ["_law_laid","_law_here","_law_sides","_law_sums","_law_heard"] [V.ref A.p,hv,V.ref sl,V.ref ml,V.ref hl]=([some (V.ref A.p),some (hv),some (V.ref sl),some (V.ref ml),some (V.ref hl)]:St) from rfl]
  have gp:=Y.at_ lin.p
  obtain⟨By,ts,eB,hB,re⟩:=Y.re
  obtain⟨L0,eL0⟩:∃ L0:Kn,yL t.c_Yard By y++(trK W ts++L)=L0:=⟨_,U⟩
  rw[eL0] at hB re
  have inL:∀ v ∈ L,v ∈ L0:=fun v hv=>by rw[<- eL0]; exact tL _ (tL _ hv)
  have va:∀ {k r:Nat}{u:Addr×List Pr}{e:Pr},ds[k]?=some u->u.2[r]?=some e->∃ v,aG kvs (kE e.2.1 e.2.2)=some (.ref v)/\H v=some (.tup [.int (k:Int),.int (r:Int)]):=fun {k r u e} hu he=>by
   obtain⟨v,hv,mv⟩:=S.ra.v k r u e trivial hu he
   exact⟨v,hv,Y.at_ mv⟩
  refine⟨fun σ' H'=>σ'=[some (V.ref A.p),some hv,some (V.ref sl),some (V.ref ml),some (V.ref hl)]/\H'=H,?_,?_⟩
  ·refine⟨_,U,U,_,U,?_⟩
   rcases ps with ⟨k,r,u,e,rfl,hu,he,a0,hat⟩ | ⟨rfl,_⟩
   ·obtain⟨a1,rfl,m1⟩:=hpl
    refine ifT rfl ?_
    refine⟨_,U,A.p,A.dx,_,U,gp,(iQ _).1,?_⟩
    refine tn0 ?_
    obtain⟨v,hv,gv⟩:=va hu he
    refine⟨A,y,W,s,b,L,kvs,(a0,e.2),U,Y,lin.p,S.r,hat,?_⟩
    rw[hv]
    refine⟨_,U,?_⟩
    refine tn0 ?_
    exact .inr ⟨v,a1,_,_,U,gv,Y.at_ m1,_,U,ifF rfl ⟨U,U⟩⟩
   ·have hpl:hv=.non:=hpl
    subst hpl
    exact ifF rfl (ce ⟨U,U⟩)
  rintro σ' H' ⟨rfl,rfl⟩
  refine⟨fun σ' H''=>σ'=[some (V.ref A.p),some hv,some (V.ref sl),some (V.ref ml),some (V.ref hl)]/\H''=H',?_,?_⟩
  ·refine⟨_,U,U,_,U,?_⟩
   rcases ps with ⟨k,r,u,e,rfl,hu,he,a0,hat⟩ | ⟨rfl,z,⟨a0,hat⟩,nd⟩
   ·obtain⟨a1,rfl,m1⟩:=hpl
    exact ifF rfl (ce ⟨U,U⟩)
   ·have hpl:hv=.non:=hpl
    subst hpl
    refine ifT rfl ?_
    refine⟨_,U,A.p,A.dx,_,U,gp,(iQ _).1,?_⟩
    refine tn0 ?_
    refine⟨A,y,W,s,b,L,kvs,(a0,z),U,Y,lin.p,S.r,hat,?_⟩
    rw[S.ra.no nd]
    exact⟨U,_,U,ifF rfl ⟨U,U⟩⟩
  rintro σ' H'' ⟨rfl,rfl⟩
  clear va
  refine⟨fun σ' H'=>σ'=[some (V.ref A.p),some hv,some (V.ref sl),some (V.ref ml),some (V.ref hl)]/\Has H' L0,?_,?_⟩
  ·obtain⟨Ay,gy⟩:=Y.obj
   refine⟨_,U,A.p,_,A.dx,_,_,U,gp,T.cl_Laid,T.n_Laid_yard,dh _,A.y,Ay.dx,_,U,gy,(gN _ _ _).2.2.2.2.2.2.2.1,?_⟩
   refine tn0 ?_
   refine⟨By,y,trK W ts++L,by rw[eB]; rfl,by rw[eL0]; exact hB,fun H1 l h1=>?_⟩
   rw[eL0] at h1
   obtain⟨j,hj⟩:=List.mem_iff_getElem?.mp (inL _ mhl)
   have er:y.rung=x.ns.map V.int:=by rw[Y.g.R.rg,S.g]
   rw[er] at h1
   refine⟨_,U,?_⟩
   refine tn0 ?_
   refine⟨l,hl,x.ns,x.ns,0,j+1,_,U,h1,U,hj,by have:=S.nl; omega,fun H2 h2=>?_⟩
   rw[decide_eq_true rfl]
   exact⟨_,U,ifF rfl ⟨U,h2.tail⟩⟩
  rintro σ' H1 ⟨rfl,h1⟩
  have all1:∀ n:Nat,(List.replicate n true).all id=true:=fun n=>by simp
  refine⟨fun σ' H'=>σ'=[some (V.ref A.p),some hv,some (V.ref sl),some (V.ref ml),some (V.ref hl)]/\Has H' L0,?_,?_⟩
  ·have gm:=h1.at_ _ (inL _ msl)
   refine⟨_,U,sl,U,⟨_,SqL.of gm⟩,fun D hD=>?_⟩
   refine⟨fun n m zs H'=>m=x.ms.length - n/\n<=x.ms.length/\zs=(List.replicate n true).map V.bl/\Has H' ((D,.lst zs)::L0),⟨_,U,Nat.zero_le _,U,h1.alloc hD _⟩,?_⟩
   rintro n m' zs H5 ⟨rfl,hn,rfl,h5⟩
   refine⟨h5.get 0 U,?_⟩
   have g5:=h5.tail.at_ _ (inL _ msl)
   by_cases hlt:n<x.ms.length
   ·have hz:=tN hlt
    have hx0:(x.ms.map V.int)[n]?=some (.int x.ms[n]):=by rw[tS,hz]; rfl
    refine .inr ⟨⟨_,_,SqL.of g5,hx0⟩,?_⟩
    rintro v H6 ⟨p,y6,rfl,hp,rfl,hy⟩
    have e1:=hy _ (SqL.of g5)
    rw[hx0] at e1
    cases e1
    have h6:=h5.alloc hp (.tup [.int n,.int x.ms[n]])
    have Y6:=re (X:=[(p,HO.tup [.int n,.int x.ms[n]]),(D,HO.lst ((List.replicate n true).map V.bl))]) h6
    refine⟨p,_,U,SqT.of (h6.get 0 U),U,_,_,U,_,_,U,U,U,bJ ?_⟩
    refine⟨_,U,A.p,A.dx,_,U,Y6.at_ lin.p,(iQ _).2.1,_,U,?_⟩
    refine tn0 ?_
    have gs:=S.sm.m n _ hz
    have sd:y.sides=s.ss.map V.int:=Y.g.R.sd
    refine⟨A,y,W,s,b,L,ds,rgI x.ms.length,cr,n,(n:Int),.int x.ms[n],U,Y6,lin,?_,by omega,by rw[sd,tS,Int.toNat_natCast,gs]; rfl,?_⟩
    ·unfold rgI
     rw[tS,List.getElem?_range hlt]; rfl
    refine⟨_,U,?_⟩
    refine tn0 ?_
    refine⟨_,_,U,?_⟩
    rw[decide_eq_true rfl]
    have h8:=jt h6 1 rfl
    refine⟨sizeOk (by rw[tP,tZ]; have:=S.ml; omega),h8.get 0 U,x.ms.length - (n+1),by omega,U,hlt,?_,?_⟩
    ·rw[List.replicate_succ',tU]; rfl
    ·exact(h8.puti 0 U _).sub (.cons_cons _ (.cons _ (List.Sublist.refl _)))
   ·refine .inl ⟨⟨_,SqL.of g5,by rw[tP]; omega⟩,?_⟩
    refine⟨D,List.replicate n true,U,SqL.of (h5.get 0 U),?_⟩
    rw[all1]
    exact⟨_,U,ifF rfl ⟨U,h5.tail⟩⟩
  rintro σ' H2 ⟨rfl,h2⟩
  clear h1
  have Y2:=re (X:=[]) h2
  have gm:=Y2.at_ mml
  have G0:=Y.g
  refine⟨_,U,ml,U,⟨_,SqL.of gm⟩,fun D hD=>?_⟩
  refine⟨fun n m zs H'=>m=x.cs.length - n/\n<=x.cs.length/\zs=(List.replicate n true).map V.bl/\YW t.c_Yard H' A.y y W s b ((D,.lst zs)::L),⟨_,U,Nat.zero_le _,U,Y2.alloc hD _⟩,?_⟩
  clear Y2 h2
  rintro n m' zs H5 ⟨rfl,hn,rfl,Y5⟩
  refine⟨Y5.at_ tM,?_⟩
  have g5:=Y5.at_ (tK _ mml)
  by_cases hlt:n<x.cs.length
  ·have hz:=tN hlt
   have hx0:(x.cs.map V.int)[n]?=some (.int x.cs[n]):=by rw[tS,hz]; rfl
   refine .inr ⟨⟨_,_,SqL.of g5,hx0⟩,?_⟩
   rintro v H6 ⟨p,y6,rfl,hp,rfl,hy⟩
   have e1:=hy _ (SqL.of g5)
   rw[hx0] at e1
   cases e1
   have Y6:=Y5.alloc hp (.tup [.int n,.int x.cs[n]])
   have hcr:=tN (show n<cr.length by rw[<- S.cl]; exact hlt)
   have to6:∀ v ∈ L,v ∈ (p,HO.tup [.int n,.int x.cs[n]])::(D,HO.lst ((List.replicate n true).map V.bl))::L:=fun v hv=>tK _ (tK _ hv)
   refine⟨p,_,U,SqT.of (Y6.at_ tM),U,_,_,U,_,_,U,U,U,bJ ?_⟩
   refine⟨_,U,A.p,A.dx,_,U,Y6.at_ (to6 _ lin.p),(iQ _).2.2,_,U,?_⟩
   refine tn0 ?_
   refine⟨A,y,W,s,b,_,ds,rgI x.ms.length,cr,n,_,U,Y6,lin.mono to6,hcr,S.cb _ (List.getElem_mem _),fun H7 Y7=>?_⟩
   refine⟨_,U,?_⟩
   refine tn0 ?_
   rw[<- S.sm.c n _ _ hz hcr]
   refine⟨_,_,U,?_⟩
   rw[decide_eq_true rfl]
   have Y8:=Y7.sub (L':=(D,HO.lst ((List.replicate n true).map V.bl))::L) (G0.mono fun v hv=>tK _ hv) (List.sublist_cons_self _ _)
   refine⟨sizeOk (by rw[tP,tZ]; have:=S.c3; omega),Y8.at_ tM,x.cs.length - (n+1),by omega,U,hlt,?_,Y8.put0 G0 _⟩
   rw[List.replicate_succ',tU]; rfl
  ·refine .inl ⟨⟨_,SqL.of g5,by rw[tP]; omega⟩,?_⟩
   refine⟨D,List.replicate n true,U,SqL.of (Y5.at_ tM),?_⟩
   rw[all1]
   exact q _ (Y5.sub G0 (List.sublist_cons_self _ _))
end
structure Wk (W:Wd) (y:YR) (L:Kn) (nd:Int) (nm:Nat) (ws:List Int) (cr:List (Addr×List Int)) (ds:List (Addr×List Pr)) (ss:Ss) (B:Nat):Prop where
 wy:WY W y L
 lw:nB y L nd (rgI nm) cr ds ss
 dk:∀ z ∈ ds,∀ x ∈ z.2,Dk y x/\x.2.1<nd
 good:Good nm ws.length ss
 rl:cr.map (fun z=>(z.2.length:Int))=ws
 nb:y.next<=B
theorem pY {w:Wd}{s t:Sd} (h:w.nx s=some t):w.why s=.non:=by
 obtain⟨z,k,o,z',h1,h2,h3,h4,_⟩:=fi h
 have:=ij h1 h2 h3 h4
 first | exact this | exact this.2 | exact this.1
theorem walk1 {W:Wd}{y:YR}{nm:Nat}{ws:List Int}{B:Nat}{x:Md}{k n:Nat}{z:Addr×List (Addr×Rw)}{a:Addr}{yr:Rw}{u:Addr×List Pr}
  (h:Wk W y L nd nm ws cr ds ss B) (inv:MInv x) (ml:x.ms.length=nm) (wl:x.ws=ws) (ert:x.rt=[]) (S:Sim cr x s.ss) (R:RdOk nm cr ws s.ss.length) (rok:ROk (rgI nm) cr s.ss.length) (er:s.rg=x.ns) (h12:∀ q ∈ s.ss,q=1∨q=2) (hz:ss[k]?=some z) (hn:z.2[n]?=some (a,yr)) (hu:ds[k]?=some u) (he:u.2[n]?=some e) (hat:AtZ s e.2) :
  (∃ t1,W.nx s=some t1)/\∃ m t,m<=2*B+10/\NxS W ds s m t (yr.nx x k n)/\Sim cr (yr.act x k n) t.ss/\t.rg=(yr.act x k n).ns/\t.ss.length=s.ss.length/\(∀ q ∈ t.ss,q=1∨q=2)/\PlS ds t (yr.nx x k n)/\(yr.act x k n).rt=[]/\(yr.nx x k n=none->W.nx t=none/\W.why t=.str "stop"):=by
 obtain⟨V,lT,rws,ends,td⟩:=h.lw
 have hD:DrOk y nd (Drs ds):=fun v hv=>by
  obtain⟨u,hu,x,hx,rfl⟩:=hv
  exact⟨(h.dk u hu x hx).1.1,(h.dk u hu x hx).2⟩
 have dk:=(h.dk u (tO hu) e (tO he)).1
 have rw_:=rws k n z (a,yr) u e trivial hz hn hu he
 have yok:=(h.good k z hz).1 (a,yr) (tO hn)
 have at0:AtE s e.2 s.ss x.ns:=⟨hat,U,er⟩
 have lc:cr.length=ws.length:=by rw[<- h.rl,tP]
 cases hd:yr.deedy with
 | true=>
  obtain⟨j,k',r',u',e',m,t1,t,ss',rg',ac,onw,hu',he',bm,nx1,rv,at1⟩:=lF h.wy hD h.nb rw_ td dk hd (by rw[g6,lc]; exact yok) at0 h12 rok
  obtain⟨s1,s2,s3,s4,s5⟩:=S.step (n:=(n:Int)) R inv ml wl rfl h12 yok ac
  rw[onw] at s3
  obtain⟨hat1,e1,e2⟩:=at1
  have fs:rW W ds t (yr.nx x k n):=.inl ⟨k',r',u',e',s3.symm,hu',he',hat1⟩
  refine⟨⟨t1,nx1⟩,m,t,bm,.inl ⟨t1,nx1,rv,fs⟩,by rw[e1]; exact s1,by rw[e2]; exact s2,by rw[e1]; exact s4,by rw[e1]; exact s5,.inl ⟨k',r',u',e',s3.symm,hu',he',hat1⟩,?_,fun c=>by rw[<- s3] at c; cases c⟩
  cases yr <;> first | exact ert | cases hd
 | false=>
  have ey:yr=.fin:=by cases yr <;> first | rfl | cases hd
  subst ey
  obtain⟨zT,hT,c,hc,ec⟩:=(rw_:inT V k (e.2.1,1))
  obtain⟨q,kq,lq⟩:=ends k zT hT
  have ld:=lq c hc
  rw[ec] at ld
  obtain⟨v,mv⟩:=ld.mate
  have e2:e.2=(e.2.1,0):=by rw[<- dk.2]
  rw[e2] at at0
  obtain⟨t1,nx1,g1⟩:=df h.wy dk.1 mv at0
  obtain⟨m,t,bm,rv,g2⟩:=ld.walk h.wy hD h.nb g1
  have st:=g2.stop h.wy kq
  obtain⟨hat1,e3,e4⟩:=g2
  have en:(Rw.fin).nx x k n=none:=by show x.rt.getLast?=none; rw[ert]; rfl
  have nd':¬ Drs ds (q,0):=hD.kd kq (by decide)
  refine⟨⟨t1,nx1⟩,m,t,by omega,.inl ⟨t1,nx1,rv,.inr ⟨en,st.1,_,hat1,nd'⟩⟩,⟨fun i v hv=>by rw[e3]; exact S.m i v hv,fun i v z hv hz=>by rw[e3]; exact S.c i v z hv hz⟩,e4,by rw[e3],by rw[e3]; exact h12,.inr ⟨en,_,hat1,nd'⟩,?_,fun _=>st⟩
  show x.rt.dropLast=[]
  rw[ert]; rfl
inductive sp_law (K:PySem.W.Frag) (vs:List V) (H:Hp) (Q:VK) (E_:XK):Prop
 | mk (a:Addr) (ns:List Int) (_:vs=[.ref a]) (_:SqL K H a (ns.map V.int)) (_:ns.length<=63) (_:∀ H',Q (.bl true) H'):sp_law K vs H Q E_
theorem law_binds {mg:Str->Option Value}{t:Adr} (T:Txt K mg t) (s:Shared) (u:Value):BindsTo s t.d_law ⟨[u],[]⟩ [("_law_script",u)]:=by
 obtain⟨oc,od,kV,doc,pm,an,cdv,ct,osl,e,lk,hcd⟩:=T.F_law.ex
 rw[e,T.e_law]
 exact .of_eq rfl
theorem law_start {a:Addr}{ns:List Int} (hl:ns.length<=63) (hS:SqL K H a (ns.map V.int)) {E:XK}:sp_law K [.ref a] H (fun v _=>v=.bl true) E:=⟨a,ns,U,hS,hl,fun _=>rfl⟩
theorem nM (h:rV ss):rln ss<=120:=by
 obtain⟨M,h1,h2⟩:=h
 have:∀ l:Ss,(∀ z ∈ l,z.2.length<=M)->rln l<=l.length*M:=fun l=>by
  induction l with
  | nil=>intro _; exact Nat.zero_le _
  | cons z r ih=>
   intro h
   have a:=ih fun x hx=>h x (tK _ hx)
   have b:=h z tM
   have e2:rln (z::r)=z.2.length+rln r:=by unfold rln; rw[t5,List.sum_cons]
   rw[e2,t6,Nat.succ_mul]
   omega
 exact Nat.le_trans (this ss h2) h1
theorem lH {ss ss':Ss} (e:ss'.map (·.2)=ss.map (·.2)):rln ss'=rln ss:=by
 have h:∀ l:Ss,rln l=((l.map (·.2)).map List.length).sum:=fun l=>by unfold rln; rw[uh]; rfl
 rw[h,h,e]
theorem cut19 {ds:List Int} (h:ds.length=350):bX (ds.map V.int) (some 1) (some 9)=((ds.drop 1).take 8).map V.int:=by
 unfold bX HT.sIx
 simp[h,List.map_take,List.map_drop]
theorem cut9 {ds:List Int} (h:ds.length=350):bX (ds.map V.int) (some 9) none=(ds.drop 9).map V.int:=by
 unfold bX HT.sIx
 simp[h,List.map_take,List.map_drop]
 exact List.take_of_length_le (by simp[h])
theorem qd {W:Wd}{ts:List (Addr×Sd)} (b:Pr):pK2 b ∉ trK W ts:=fun h=>by
 unfold trK at h
 obtain⟨x,_,e⟩:=uc.mp h
 injection e with _ e
 unfold Wd.tr at e
 split at e <;> simp at e
inductive lawInv (Cy a d m wl pl:Addr) (B:LA) (sl ml hl:Addr) (cr:List (Addr×List Int)) (dd:List (Addr×List Pr)) (nm:Nat) (ws:List Int) (ss:Ss) (y6:YR) (W:Wd) (Lr:Kn) (nS i:Nat) (σ':St) (H':Hp):Prop
 | mk (x:Md) (plc:Option (Int×Int)) (hv:V) (y:YR) (s:Sd) (N:Kn) (o10 o11:Option V) (_:σ'=[some (.ref a),some (.ref d),some (.ref m),some (.ref wl),some (.ref pl),some (.ref B.p),some hv,some (.ref sl),some (.ref ml),some (.ref hl),o10,o11]) (_:Same y6 y) (_:YW Cy H' B.y y W s (i*5000) ((sl,.lst (x.ms.map V.int))::(ml,.lst (x.cs.map V.int))::(hl,.lst (x.ns.map V.int))::(N++Lr))) (_:LI nm ws ss i x plc) (_:x.rt=[]) (_:Sim cr x s.ss) (_:s.rg=x.ns) (_:s.ss.length=nS) (_:(∀ q ∈ s.ss,q=1∨q=2)) (_:PlIn hv plc (N++Lr)) (_:PlS dd s plc) (_:(plc=none->W.nx s=none/\W.why s=.str "stop")):lawInv Cy a d m wl pl B sl ml hl cr dd nm ws ss y6 W Lr nS i σ' H'
theorem iD:∀ {rs sd:List Int},(∀ r ∈ rs,sd.getD r.toNat 0=1)->rdS rs sd=0
 | [],_,_=>rfl
 | r::rs,sd,h=>by
  show(sd.getD r.toNat 0 - 1)+2*rdS rs sd=0
  rw[h r tM,iD fun r' h'=>h r' (tK _ h')]; rfl
theorem sim_0 {ms ws:List Int}{sd:List Int}{sv:List V}{nn:Nat} (pre:(ms.map V.int++List.replicate nn (V.int 1)) <+: sv) (e:sv=sd.map V.int) (flm:cr.flatMap (·.2)=rgF ms.length nn):Sim cr ⟨ms,ws,ws.map (fun _=>0),[],[]⟩ sd:=by
 have key:∀ (i:Nat) (v:Int),(ms.map V.int++List.replicate nn (V.int 1))[i]?=some (.int v)->sd[i]?=some v:=fun i v h=>by
  obtain⟨r,er⟩:=pre
  have hi:=(List.getElem?_eq_some_iff.mp h).1
  have h2:sv[i]?=some (.int v):=by rw[<- er,t9 hi]; exact h
  rw[e,tS] at h2
  obtain⟨w,hw,ew⟩:=Option.map_eq_some_iff.mp h2
  injection ew with ew
  rw[hw,ew]
 refine⟨fun i v hv=>key i v ?_,fun i v z hv hz=>?_⟩
 ·have hv:ms[i]?=some v:=hv
  have hi:=(List.getElem?_eq_some_iff.mp hv).1
  rw[t9 (by rw[tP]; exact hi),tS,hv]; rfl
 ·have hv:(ws.map fun _=>(0:Int))[i]?=some v:=hv
  rw[tS] at hv
  obtain⟨_,_,rfl⟩:=Option.map_eq_some_iff.mp hv
  refine(iD fun r hr=>?_).symm
  have h:r ∈ rgF ms.length nn:=by rw[<- flm]; exact List.mem_flatMap.mpr ⟨z,tO hz,hr⟩
  unfold rgF at h
  obtain⟨j,hj,rfl⟩:=uc.mp h
  have hj:=ug.mp hj
  have:=key (ms.length+j) 1 (by
   rw[t8 (by rw[tP]; omega),tP,List.getElem?_replicate,if_pos (by omega)])
  rw[Int.toNat_natCast,List.getD_eq_getElem?_getD,this]; rfl
section
variable {P:Program}{w:World}{K:PySem.W.Frag}{mg:Str->Option Value}{base:Heap}{t:Adr}
theorem scLa:FnScope ["_law_script","_law_d","_law_marks","_law_widths","_law_parts_here","_law_laid","_law_here","_law_sides","_law_sums","_law_heard","_law_turn","_law_found"] ["_law_script"] (aj lA):={}
theorem ok_law (T:Txt K mg t):FnOk P w K mg base CX0 15 t.f_law t.d_law ["_law_script"] (sp_law K):=by
 refine T.F_law.ok scLa (fun vs H Q E h=>?_) (fun cdv A outer s H vs Q E hr h=>?_)
 ·obtain⟨_,_,rfl,_⟩:=h
  rfl
 ·obtain⟨a,ns,rfl,hS,hns,q⟩:=h
  refine⟨_,(ae (ax (i:=1) scLa.nd rfl (Or.inl rfl) (pcl (l9 T) hr T.m_draws T.F_draws.kp (or T) (aa (pv 0) (aa ah ag))))
   (ae (bK (pcl (qT T) hr T.m_Jf1 T.F_Jf1.kp (b_Jf1 T) (aa (aw hW (aw hW (cx dw (pv 1) (cC ah) (cC ah)) (aX (aa (aw cD ah (a9 gP (by rfl) T.z_int (by rfl) (aa (bU aW (aw aR (av aB (pv 1) ah) ah) ah (ao _)) ag))) ag))) (cx dw (pv 1) (cC ah) dH)) ag)) (bx rfl (ay (aq (i:=2) scLa.nd rfl (Or.inl rfl)) (ay (aq (i:=3) scLa.nd rfl (Or.inl rfl)) (ay (aq (i:=4) scLa.nd rfl (Or.inl rfl)) bc)))))
   (ae (ax (i:=5) scLa.nd rfl (Or.inl rfl) (pcl (qS T) hr T.m_Jg1 T.F_Jg1.kp (b_Jg1 T) (aa (hU T.mk_Program (ok_Jh T) (hr.mono (by decide)) (by rfl) T.m_Program (b_Jh T) .nil aF (aa (pv 2) (aa (pv 3) (aa (pcl (qM T) hr T.m_Jp1 T.F_Jp1.kp (b_Jp1 T) (aa (pv 4) ag)) ag)))) ag)))
   (ae (ax (i:=6) scLa.nd rfl (Or.inl rfl) (az (aa ah (aa ah ag))))
   (ae (ax (i:=7) scLa.nd rfl (Or.inl rfl) (a9 ba (by rfl) T.z_list (by rfl) (aa (pv 2) ag)))
   (ae (ff (ix:=8) scLa.nd rfl (Or.inl rfl) (esc:=aj lA) (k:=1) ["_law_width","_law_script","_law_d","_law_marks","_law_widths","_law_parts_here","_law_laid","_law_here","_law_sides","_law_sums","_law_heard","_law_turn","_law_found"] rfl (bG (pv 3)) (fun _ _ _ _ _=>by exact(aq (i:=0) (show List.Nodup (["_law_width","_law_script","_law_d","_law_marks","_law_widths","_law_parts_here","_law_laid","_law_here","_law_sides","_law_sums","_law_heard","_law_turn","_law_found"]:List Str) from by decide +kernel) rfl (Or.inl rfl))) (fun _ _ _ _ _=>by exact bA) (fun _ _ _ _ _=>by exact ah) rfl (by decide +kernel) (by decide +kernel) rfl (by decide +kernel) (by rfl) (fun _ _ h _=>h) (by decide +kernel))
   (ae (ax (i:=9) scLa.nd rfl (Or.inl rfl) (aX ag))
   (ae (bi PassesOwn.never rfl (bh (by rfl) T.z_range (aa (aw aR (av aB (pv 1) ah) ah) ag)) (aq (i:=10) scLa.nd rfl (Or.inl rfl))
    (ae (aD (b7 (b6 (pcl (mj T) hr T.m_Jj1 T.F_Jj1.kp (pW T) (aa (pv 5) (aa (pv 6) (aa (pv 7) (aa (pv 8) (aa (pv 9) ag))))))))
      (ai (au dL))
      ap)
     (ae (aD (ak bP (pv 6) aS (ao _))
      (ai (au (hV (bU aW (pcl (jK T) hr T.m_held T.F_held.kp (ni T) (aa (aA (pv 5) rfl) ag)) aJ (ao _)) (hJ (bU bP (pcl (mD T) hr T.m_Ja1 T.F_Ja1.kp (pX T) (aa (pv 5) ag)) aS (ao _))))))
      ap)
     (ae (aD (ak cf (pcl (jK T) hr T.m_held T.F_held.kp (ni T) (aa (aA (pv 5) rfl) ag)) aS (ao _))
      (ai (au dL))
      ap)
     (ae (ax (i:=6) scLa.nd rfl (Or.inl rfl) (pcl (nR T) hr T.m_next T.F_next.kp (rN T) (aa (pv 4) (aa (pv 6) (aa (aX ag) (aa (pv 7) (aa (pv 8) (aa (pv 3) (aa (pv 9) ag)))))))))
     (ae (ax (i:=11) scLa.nd rfl (Or.inl rfl) (pcl (mD T) hr T.m_Ja1 T.F_Ja1.kp (pX T) (aa (pv 5) ag)))
     (ai (aD (PW.pt (cK (ak iI (bU bP (pv 11) aS (ao _)) (bU bP (pv 6) aS (ao _)) (ao _)) (b5 (PW.pt (bO (ak cf (pv 6) aS (ao _)) (bT (b7 (b6 (pcl (mi T) hr T.m_Jo1 T.F_Jo1.kp (pV T) (aa (pv 11) (aa (pv 6) ag)))))))))))
      (ai (au dL))
      ap))))))))
   (ai (au (pcl (mj T) hr T.m_Jj1 T.F_Jj1.kp (pW T) (aa (pv 5) (aa (pv 6) (aa (pv 7) (aa (pv 8) (aa (pv 9) ag)))))))))))))))),?_⟩
  rw[show L2.start ["_law_script","_law_d","_law_marks","_law_widths","_law_parts_here","_law_laid","_law_here","_law_sides","_law_sums","_law_heard","_law_turn","_law_found"] [V.ref a]=([some (V.ref a),none,none,none,none,none,none,none,none,none,none,none]:St) from rfl]
  refine⟨_,U,a,ns,350,[],U,hS,hns,by decide,by decide,Has.nil,fun H1 d ds h1 hds hdr=>?_⟩
  dsimp only[List.set]
  have hds:ds.length=350:=hds
  have gd:=h1.get 0 rfl
  obtain⟨x3,ex3⟩:∃ x3,ds.getD (346:Int).toNat 0=x3:=⟨_,U⟩
  have a3:atI (ds.map V.int) 346=some (.int x3):=by rw[<- ex3]; exact dgI 346 (by decide) (by omega)
  have ec1:bX (ds.map V.int) (some 1) (some 9)=((ds.drop 1).take 8).map V.int:=cut19 hds
  have ec2:bX (ds.map V.int) (some 9) none=(ds.drop 9).map V.int:=cut9 hds
  refine⟨_,U,_,U,_,U,d,_,U,SqL.of gd,fun c1 hc1=>?_⟩
  rw[ec1]
  have h2:=h1.alloc hc1 (.lst (((ds.drop 1).take 8).map V.int))
  refine⟨_,U,d,_,_,_,U,U,SqL.of (h2.get 1 U),a3,_,_,U,U,(show(0:Int)<4 by decide),U,.inr ⟨_,U,_,_,U,U,.inl ⟨by decide,by decide⟩,(sz_ 1),fun c2 hc2=>?_⟩⟩
  obtain⟨v9,e9,hv9⟩:∃ v9:Int,9*(if decide (V.int (x3 % 4)=V.int 1)=true then(1:Int) else 0)=v9/\(v9=0∨v9=9):=⟨_,U,by split <;> simp⟩
  rw[e9]
  have h3:=h2.alloc hc2 (.lst [.int v9])
  refine⟨c1,c2,_,_,U,U,SqL.of (h3.get 1 U),SqL.of (h3.get 0 U),sz (show _<=1000000 by rw[tP,ub,t7]; omega),fun c3 hc3=>?_⟩
  have h4:=h3.alloc hc3 (.lst (((ds.drop 1).take 8).map V.int++[.int v9]))
  refine⟨_,U,_,U,d,_,U,SqL.of (h4.get 3 U),fun c4 hc4=>?_⟩
  rw[ec2]
  have h5:=h4.alloc hc4 (.lst ((ds.drop 9).map V.int))
  refine⟨c3,c4,_,_,U,U,SqL.of (h5.get 1 U),SqL.of (h5.get 0 U),sz (show _<=1000000 by simp[hds]),fun c5 hc5=>?_⟩
  obtain⟨d5,e5,l5,g5⟩:∃ d5:List Int,((ds.drop 1).take 8).map V.int++[.int v9]++(ds.drop 9).map V.int=d5.map V.int/\d5.length=350/\d5.getD (8:Int).toNat 0=v9:=by
   refine⟨(ds.drop 1).take 8++[v9]++ds.drop 9,by simp,by simp[hds],?_⟩
   have l8:((ds.drop 1).take 8).length=8:=by simp[hds]
   rw[tR,List.getD_eq_getElem?_getD,t8 (by rw[l8]; decide),l8]
   rfl
  rw[e5]
  have h6:=h5.alloc hc5 (.lst (d5.map V.int))
  clear h2 h3 h4 h5 gd a3
  refine tn0 ?_
  refine⟨c5,d5,_,U,h6,tM,by omega,by rw[g5]; exact hv9,fun H3 tp m wl pl ms ws ss N i1 i2 i3 i4 ss1 hgood hlim i7 i8 h3=>?_⟩
  refine⟨tp,_,U,SqT.of (h3.get 0 U),U,_,_,U,_,_,U,_,_,U,U,?_⟩
  dsimp only[List.set]
  have h3':=h3.tail
  obtain⟨L2,eL2⟩:∃ L2:Kn,(pl,HO.lst (ssV ss))::(N++((wl,HO.lst (ws.map V.int))::(m,HO.lst (ms.map V.int))::[(c5,HO.lst (d5.map V.int)),(c4,.lst ((ds.drop 9).map V.int)),(c3,.lst (((ds.drop 1).take 8).map V.int++[.int v9])),(c2,.lst [.int v9]),(c1,.lst (((ds.drop 1).take 8).map V.int)),(d,HO.lst (ds.map V.int))]))=L2:=⟨_,U⟩
  have hL2:=fS h3' eL2
  have mpl:(pl,HO.lst (ssV ss)) ∈ L2:=by rw[<- eL2]; exact tM
  have mN:∀ z ∈ N,z ∈ L2:=fun z hz=>by rw[<- eL2]; exact tK _ (tQ _ hz)
  have mwl:(wl,HO.lst (ws.map V.int)) ∈ L2:=by rw[<- eL2]; simp
  have mm:(m,HO.lst (ms.map V.int)) ∈ L2:=by rw[<- eL2]; simp
  have md:(d,HO.lst (ds.map V.int)) ∈ L2:=by rw[<- eL2]; simp
  clear eL2 h3' h3 h6 e5 e9 ec1 ec2
  have i5:ss≠[]:=fun e=>by rw[e] at ss1; cases ss1
  refine⟨_,U,_,U,_,U,pl,ss,L2,U,hL2,mpl,fun z hz=>mN _ (i7 z hz),by omega,fun H4 D s1 N1 es1 mN1 h4=>?_⟩
  have h4:=h4
  intro p dx hp hdx hne
  have h7:=(h4.alloc hdx (.own p)).alloc (by rw[aH (Ne.symm hne)]; exact hp) (.ins t.c_Program dx [])
  have s1row:∀ z ∈ s1,∀ x ∈ z.2,(x.1,HO.tup x.2.v) ∈ L2:=by
   intro z hz x hx
   have:z.2 ∈ ss.map (·.2):=by rw[<- es1]; exact tY hz
   obtain⟨z',e1,e2⟩:=uc.mp this
   exact mN _ (i8 z' e1 x (by rw[e2]; exact hx))
  have lsl:s1.length=ss.length:=by simpa using congrArg List.length es1
  have ne1:s1≠[]:=by intro e; rw[e] at lsl; exact i5 (List.length_eq_zero_iff.mp lsl.symm)
  refine⟨p,dx,m,wl,D,ms,ws,s1,_,U,h7,by simp[mm],by simp[mwl],by simp,fun z hz=>by simp[mN1 z hz],fun z hz x hx=>by simp[s1row z hz x hx],i1,i2,ne1,by omega,hgood.tr es1,fun H8 A ss' N2 eA es' pinN pin h8=>⟨U,?_⟩⟩
  subst eA
  clear h7 hp hdx hne pinN h4
  obtain⟨L3,eL3⟩:∃ L3:Kn,N2++((D,HO.lst (ssV s1))::(N1++L2))=L3:=⟨_,U⟩
  rw[eL3] at pin h8
  have m3:∀ z ∈ L2,z ∈ L3:=fun z hz=>by rw[<- eL3]; simp[hz]
  clear eL3
  have ess:ss'.map (·.2)=ss.map (·.2):=es'.trans es1
  have lss':ss'.length=ss.length:=by simpa using congrArg List.length ess
  have ne':ss'≠[]:=by intro e; rw[e] at lss'; exact i5 (List.length_eq_zero_iff.mp lss'.symm)
  have rl:=nM hlim
  have good':Good ms.length ws.length ss':=hgood.tr ess
  refine tn0 ?_
  refine⟨L3,A,ms,ws,ss',U,h8,pin,good',i1,i2,i3,i4,ne',by omega,by rw[lH ess]; omega,fun H9 B N9 cr dd u e y6 Nn Mm Rr D6 bN ecr lin rat dm hu he dk rok sid lw Y9=>?_⟩
  show iq _ _ _ _ _
  dsimp only[List.set]
  obtain⟨W,s0,Yw⟩:=YW.of Y9 rfl
  obtain⟨Lr,eLr⟩:∃ Lr:Kn,N9++L3=Lr:=⟨_,U⟩
  have in9:∀ z ∈ L2,z ∈ Lr:=fun z hz=>by rw[<- eLr]; exact tL _ (m3 z hz)
  obtain⟨kvs,mkv,rat⟩:=rat
  have mkv:(B.r,HO.dT kvs) ∈ Lr:=by rw[<- eLr]; exact tQ _ mkv
  have rat:RAt kvs Lr dd (fun _ _=>True):=rat.mono fun z hz=>by rw[<- eLr]; exact tQ _ hz
  rw[eLr] at lin lw Yw
  clear eLr Y9 h8 pin
  refine⟨(show 2<=sizeLine by decide),fun h0 hh0=>?_⟩
  have Y1:=Yw.alloc hh0 (.tup [.int 0,.int 0])
  dsimp only[List.set]
  refine⟨_,U,m,_,U,.inl (SqL.of (Y1.at_ (tK _ (in9 _ mm)))),fun sl hsl=>?_⟩
  have Y2:=Y1.alloc hsl (.lst (ms.map V.int))
  dsimp only[List.set]
  have G0:=Yw.g
  obtain⟨La,eLa⟩:∃ La:Kn,(sl,HO.lst (ms.map V.int))::(h0,HO.tup [.int 0,.int 0])::Lr=La:=⟨_,U⟩
  have toLa:∀ z ∈ Lr,z ∈ La:=fun z hz=>by rw[<- eLa]; exact tK _ (tK _ hz)
  rw[eLa] at Y2
  have Ga:GW W s0 _ La:=G0.mono toLa
  have mwa:=toLa _ (in9 _ mwl)
  refine⟨_,U,wl,U,⟨_,SqL.of (Y2.at_ mwa)⟩,fun ml hml=>?_⟩
  refine⟨fun i n zs H'=>n=ws.length - i/\i<=ws.length/\zs=((ws.take i).map fun _=>(0:Int)).map V.int/\YW t.c_Yard H' B.y { y6 with eng:=.ref e.1,trail:=[] } W s0 0 ((ml,.lst zs)::La),⟨_,U,Nat.zero_le _,U,Y2.alloc hml _⟩,?_⟩
  clear Y1 Y2
  rintro i n zs H5 ⟨rfl,hi,rfl,Y5⟩
  refine⟨Y5.at_ tM,?_⟩
  have gw:=Y5.at_ (tK _ mwa)
  by_cases hlt:i<ws.length
  ·have hx0:(ws.map V.int)[i]?=some (.int ws[i]):=by rw[tS,tN hlt]; rfl
   refine .inr ⟨⟨_,_,SqL.of gw,hx0⟩,?_⟩
   rintro v H6 ⟨rfl,hx⟩
   refine⟨U,bJ ?_⟩
   refine⟨sizeOk (by rw[tP,tP,ub]; omega),Y5.at_ tM,ws.length - (i+1),by omega,U,hlt,?_,Y5.put0 Ga _⟩
   rw[bY (tN hlt),tU,tU]; rfl
  refine .inl ⟨⟨_,SqL.of gw,by rw[tP]; omega⟩,?_⟩
  have ei:i=ws.length:=by omega
  subst ei
  rw[List.take_length] at Y5
  dsimp only[List.set]
  refine⟨by decide,fun hl hhl=>?_⟩
  have Y6:=Y5.alloc hhl (.lst [])
  dsimp only[List.set]
  obtain⟨nS,enS⟩:∃ nS,s0.ss.length=nS:=⟨_,U⟩
  have sd0:y6.sides=s0.ss.map V.int:=G0.R.sd
  have lsd:y6.sides.length=nS:=by rw[sd0,tP,enS]
  have rg0:s0.rg=[]:=by
   have h:y6.rung=s0.rg.map V.int:=G0.R.rg
   rw[D6.g] at h
   exact List.map_eq_nil_iff.mp h.symm
  have lcr:cr.length=ws.length:=by rw[<- ecr,tP]
  obtain⟨nn,pre,flm⟩:=sid
  rw[lsd] at rok
  have rdk:RdOk ms.length cr ws nS:=by
   refine⟨ecr,fun z hz r hr=>⟨?_,(rok.c z hz r hr).2⟩,?_⟩
   ·have h:r ∈ rgF ms.length nn:=by rw[<- flm]; exact List.mem_flatMap.mpr ⟨z,hz,hr⟩
    unfold rgF at h
    obtain⟨j,_,rfl⟩:=uc.mp h
    omega
   ·rw[flm]
    unfold rgF
    rw[List.nodup_iff_pairwise_ne,List.pairwise_map]
    exact List.Pairwise.imp (fun {a b} ne c=>ne (by omega)) List.nodup_range
  have sim0:Sim cr ⟨ms,ws,ws.map (fun _=>0),[],[]⟩ s0.ss:=sim_0 pre sd0 flm
  have brc:=lL (cr:=cr) (fun z hz=>(rok.n z hz).2) ss'
  rw[lH ess] at bN brc
  obtain⟨Bb,eBb⟩:∃ Bb:Nat,Bb=2403:=⟨_,U⟩
  have minv0:MInv ⟨ms,ws,ws.map (fun _=>0),[],[]⟩:=by
   refine⟨i1,by simp,fun i v hv=>?_⟩
   have hv:(ws.map (fun _=>(0:Int)))[i]?=some v:=hv
   rw[tS] at hv
   obtain⟨k,hk,rfl⟩:=Option.map_eq_some_iff.mp hv
   have hk2:=i2 k (tO hk)
   obtain⟨k,rfl⟩:=Int.eq_ofNat_of_zero_le (show 0<=k by omega)
   have:=pB k
   exact⟨k,hk,by omega,by omega,by omega,by omega⟩
  have v00:Vd ss ((0:Int),(0:Int)):=by
   have hs:0<ss.length:=List.length_pos_iff.mpr i5
   refine⟨0,0,ss[0],U,tN hs,?_⟩
   obtain⟨_,a',y',e1,_⟩:=hgood 0 _ (tN hs)
   cases e:ss[0].2 with
   | nil=>rw[e] at e1; cases e1
   | cons _ _=>exact Nat.succ_pos _
  have me:pK2 e ∈ Lr:=lin.de u (tO hu) e (tO he)
  have at0:s0.at_=some e:=Y6.eg rfl (tK _ (tK _ (toLa _ me)))
  have cb:∀ z ∈ cr,∀ r ∈ z.2,0<=r/\r.toNat<nS:=fun z hz r hr=>by have:=rok.c z hz r hr; omega
  have gd9:=Y6.at_ (tK _ (tK _ (toLa _ (in9 _ md))))
  have x31:∀ x:Int,0<=x % 31/\x % 31<31:=fun x=>⟨Int.emod_nonneg _ (by decide),Int.emod_lt_of_pos _ (by decide)⟩
  obtain⟨tn,etn⟩:∃ tn:Nat,ds.getD (0:Int).toNat 0 % 31=(tn:Int):=Int.eq_ofNat_of_zero_le (x31 _).1
  have htn:tn<31:=by have:=(x31 (ds.getD (0:Int).toNat 0)).2; omega
  refine⟨_,U,d,_,_,_,U,U,SqL.of gd9,dgI 0 (by decide) (by omega),_,_,U,U,(show(0:Int)<31 by decide),?_⟩
  rw[etn]
  refine⟨_,U,by omega,by omega,bB (lawInv t.c_Yard a d m wl pl B sl ml hl cr dd ms.length ws ss y6 W Lr nS) ?_ ?_ ?_⟩
  ·refine⟨⟨ms,ws,ws.map (fun _=>0),[],[]⟩,some (0,0),.ref h0,{ y6 with eng:=.ref e.1,trail:=[] },s0,[(h0,.tup [.int 0,.int 0])],none,none,U,⟨U,U,U,U,U⟩,(Y6.mv ?_).le (Nat.zero_le _),⟨minv0,U,U,Nat.le_refl _,Nat.le_refl _,(fun _ h=>nomatch h),fun p hp=>by cases hp; exact v00⟩,U,sim0,rg0,enS,G0.R.s12,⟨h0,U,tM⟩,.inl ⟨0,0,u,e,U,hu,he,_,at0⟩,fun c=>nomatch c⟩
   rw[<- eLa]
   refine Ms.perm ?_
   simp only[List.cons_append,List.nil_append,Ms.cons]
   ac_rfl
  ·clear Y5 Y6 Yw gw gd9 G0 Ga at0
   rintro i σ H7 hi ⟨x,plc,hv,y,s,N7,o10,o11,rfl,sm,Y,li,ert,S,erg,els,h12,hpl,ps,stp⟩
   have hi:i<tn:=by omega
   rw[Int.zero_add]
   show iq _ _ _ _ _
   dsimp only[List.set]
   obtain⟨Lc,eLc⟩:∃ Lc:Kn,(sl,HO.lst (x.ms.map V.int))::(ml,HO.lst (x.cs.map V.int))::(hl,HO.lst (x.ns.map V.int))::(N7++Lr)=Lc:=⟨_,U⟩
   have toN:∀ z ∈ N7++Lr,z ∈ Lc:=fun z hz=>by rw[<- eLc]; exact tK _ (tK _ (tK _ hz))
   have toC:∀ z ∈ Lr,z ∈ Lc:=fun z hz=>toN z (tL _ hz)
   rw[eLc] at Y
   have lxm:=li.ml
   have lxc:x.cs.length=cr.length:=by rw[li.inv.l,li.wl,lcr]
   have ldS:LdS B Lc kvs dd cr x s:=⟨toC _ mkv,rat.mono toC,S,erg,lxc,fun z hz r hr=>by rw[els]; exact cb z hz r hr,by omega,by omega,by have:=li.nl; omega⟩
   refine⟨_,U,_,U,_,U,_,U,_,U,?_⟩
   refine tn0 ?_
   refine⟨B,y,W,s,_,Lc,kvs,dd,cr,hv,plc,sl,ml,hl,x,U,Y,by rw[lxm]; exact lin.mono toC,ldS,hpl.mono toN,ps,by rw[<- eLc]; exact tM,by rw[<- eLc]; exact tK _ tM,by rw[<- eLc]; exact tK _ (tK _ tM),fun H8 Y8=>?_⟩
   refine⟨_,U,ifF rfl ?_⟩
   have gB:=Y8.at_ (toC _ lin.p)
   have lry:y.rung.length=x.ns.length:=by rw[Y8.g.R.rg,tP,erg]
   refine⟨_,U,U,_,U,?_⟩
   cases plc with
   | none=>
    have hpl:hv=.non:=hpl
    subst hpl
    refine ifT rfl ?_
    obtain⟨nx0,wy0⟩:=stp rfl
    refine⟨_,U,B.p,_,B.dx,_,_,U,gB,T.cl_Laid,T.n_Laid_yard,dh _,?_⟩
    refine tn0 ?_
    refine pS Y8 fun H9 Y9=>?_
    rw[wy0]
    refine⟨U,_,U,?_⟩
    refine ifT (decide_eq_true rfl) ?_
    refine⟨_,U,?_⟩
    refine tn0 ?_
    refine⟨B,y,W,s,_,Lc,kvs,dd,0,s,none,U,Y9,toC _ lin.p,toC _ mkv,rat.mono toC,by omega,by rw[lry]; have:=li.nl; omega,.inr ⟨nx0,U,U⟩,fun H10 y10 v _ _ hv=>?_⟩
    have hv:v=.non:=hv
    subst hv
    refine⟨U,?_⟩
    rw[decide_eq_true rfl]
    exact q _
   | some pz=>
    obtain⟨a1,rfl,m1⟩:=hpl
    refine ifF rfl ?_
    obtain⟨k,n,z,rfl,hz,hn⟩:=li.pv pz rfl
    obtain⟨k',n',u',e',e1,hu',he',hat⟩:∃ (k' r':Nat) (u:Addr×List Pr) (e:Pr),some ((k:Int),(n:Int))=some ((k':Int),(r':Int))/\dd[k']?=some u/\u.2[r']?=some e/\AtZ s e.2:=by
     rcases ps with c | c
     ·exact c
     ·cases c.1
    obtain⟨rfl,rfl⟩:k'=k/\n'=n:=by injection e1 with e1; injection e1 with e1 e2; omega
    obtain⟨⟨ra,yr⟩,eyr⟩:∃ zy,z.2[n']=zy:=⟨_,U⟩
    have hzn:z.2[n']?=some (ra,yr):=by rw[tN hn,eyr]
    obtain⟨z',hz',ez'⟩:∃ z',ss'[k']?=some z'/\z'.2=z.2:=by
     have e:(ss'.map (·.2))[k']?=some z.2:=by rw[ess,tS,hz]; rfl
     rw[tS] at e
     exact Option.map_eq_some_iff.mp e
    have wk:Wk W y6 Lr (rln ss') ms.length ws cr dd ss' 2403:=by
     have wy:=Y8.wy
     exact⟨⟨fun n k h=>wy.k n k (by unfold Kp; rw[sm.k]; exact h),fun x z ⟨b,h1,h2⟩=>wy.m x z ⟨b,by rw[sm.m]; exact h1,toC _ h2⟩,fun n r h=>wy.r n r (by rw[sm.r]; exact h),fun n v h=>wy.n n v (by rw[sm.o]; exact h)⟩,lw,dk,good',ecr,by rw[D6.nx]; omega⟩
    obtain⟨⟨t1,nx1⟩,mm1,te,bm,nxs,s1,s2,s3,s4,s5,s6,s7⟩:=walk1 (n:=n') wk li.inv li.ml li.wl ert S (by rw[els]; exact rdk) (by rw[els]; exact rok) erg h12 hz' (by rw[ez']; exact hzn) hu' he' hat
    obtain⟨fit,li2⟩:=li.step (by omega) hgood hz hzn
    refine⟨_,U,B.p,_,B.dx,_,_,U,gB,T.cl_Laid,T.n_Laid_yard,dh _,?_⟩
    refine tn0 ?_
    refine pS Y8 fun H9 Y9=>?_
    rw[pY nx1]
    refine⟨U,_,U,ifF rfl ?_⟩
    refine⟨_,U,_,U,by decide,fun wt hwt=>?_⟩
    obtain⟨Ay,ts,eA,hY,re⟩:=Y9.re2
    rw[<- eLc] at hY
    have hY2:=hY.alloc hwt (.lst (([]:List Addr).map V.ref))
    have hY3:Has _ ((wt,HO.lst (([]:List Addr).map V.ref))::(sl,.lst (x.ms.map V.int))::(ml,.lst (x.cs.map V.int))::(hl,.lst (x.ns.map V.int))::(N7++(Lr++(yL t.c_Yard Ay y++trK W ts)))):=Has.ac hY2 (by simp only[Ms.app,Ms.cons]; ac_rfl)
    have inB:∀ v ∈ Lr,v ∈ N7++(Lr++(yL t.c_Yard Ay y++trK W ts)):=fun v hv=>tL _ (tQ _ hv)
    refine⟨_,U,_,U,_,U,_,U,?_⟩
    refine tn0 ?_
    refine⟨pl,a1,wt,sl,ml,wl,hl,ss,k',n',z,ra,yr,x,[],_,U,hY3,inB _ (in9 _ mpl),hz,inB _ (in9 _ (mN _ (i7 z (tO hz)))),hzn,inB _ (in9 _ (mN _ (i8 z (tO hz) _ (tO hzn)))),?_,by rw[li.wl]; exact inB _ (in9 _ mwl),⟨by rw[ert]; rfl,fun i a z h=>by simp at h⟩,li.inv,fit,fun H10 N10 wa hv' rt' pl' h10=>?_⟩
    ·rcases tV.mp m1 with h | h
     ·exact tQ _ h
     ·exact inB _ h
    show iq _ _ _ _ _
    dsimp only[List.set]
    obtain⟨x2,ex2⟩:∃ x2,yr.act x k' n'=x2:=⟨_,U⟩
    obtain⟨pn,epn⟩:∃ pn,yr.nx x k' n'=pn:=⟨_,U⟩
    rw[ex2] at h10 rt' li2 s1 s2 s6
    rw[epn] at pl' li2 nxs s5 s7
    obtain⟨M2,eM2⟩:∃ M2:Kn,(wt,HO.lst (wa.map V.ref))::(N10++N7)=M2:=⟨_,U⟩
    have Y10:YW t.c_Yard H10 B.y y W s (i*5000) ((sl,.lst (x2.ms.map V.int))::(ml,.lst (x2.cs.map V.int))::(hl,.lst (x2.ns.map V.int))::(M2++Lr)):=by
     refine re (fun b hb=>?_) (Has.ac h10 ?_)
     ·rw[<- eLc] at hb
      rw[<- eM2]
      simp[pK2] at hb ⊢
      rcases hb with h | h
      ·exact .inr (.inl h)
      ·exact .inr (.inr h)
     ·rw[<- eM2]
      simp only[List.cons_append,tR,Ms.app,Ms.cons]
      ac_rfl
    have pl2:PlIn hv' pn (M2++Lr):=by
     cases pn with
     | none=>exact pl'
     | some pz=>
      obtain⟨a2,h1,h2⟩:=pl'
      refine⟨a2,h1,?_⟩
      have h2:pK2 (a2,pz) ∈ N10++(N7++(Lr++(yL t.c_Yard Ay y++trK W ts))):=h2
      show pK2 (a2,pz) ∈ M2++Lr
      rw[<- eM2]
      rcases tV.mp h2 with h | h
      ·exact tQ _ (tK _ (tQ _ h))
      rcases tV.mp h with h | h
      ·exact tQ _ (tK _ (tL _ h))
      rcases tV.mp h with h | h
      ·exact tL _ h
      rcases tV.mp h with h | h
      ·exact absurd h (oG _)
      ·exact absurd h (qd _)
    clear h10 hY hY2 hY3 re pl'
    obtain⟨Ld2,eLd2⟩:∃ Ld2:Kn,(sl,HO.lst (x2.ms.map V.int))::(ml,HO.lst (x2.cs.map V.int))::(hl,HO.lst (x2.ns.map V.int))::(M2++Lr)=Ld2:=⟨_,U⟩
    have toM:∀ z ∈ M2++Lr,z ∈ Ld2:=fun z hz=>by rw[<- eLd2]; exact tK _ (tK _ (tK _ hz))
    have toD:∀ z ∈ Lr,z ∈ Ld2:=fun z hz=>toM z (tL _ hz)
    rw[eLd2] at Y10
    refine⟨_,U,?_⟩
    refine tn0 ?_
    refine⟨B,y,W,s,_,Ld2,kvs,dd,mm1,te,pn,U,Y10,toD _ lin.p,toD _ mkv,rat.mono toD,by omega,by rw[lry]; have:=li.nl; omega,nxs,fun H11 y11 v sm11 Y11 pv=>?_⟩
    dsimp only[eL,List.set]
    have fin:lawInv t.c_Yard a d m wl pl B sl ml hl cr dd ms.length ws ss y6 W Lr nS (i+1) [some (.ref a),some (.ref d),some (.ref m),some (.ref wl),some (.ref pl),some (.ref B.p),some hv',some (.ref sl),some (.ref ml),some (.ref hl),some (.int i),some v] H11:=⟨x2,pn,hv',y11,te,M2,_,_,U,sm.trans sm11,by rw[eLd2]; exact Y11.le (by omega),li2,s6,s1,s2,s3.trans els,s4,pl2,s5,s7⟩
    have pv2:=pl2.mono toM
    refine⟨_,U,U,_,U,U,?_⟩
    cases pn with
    | none=>
     have e1:v=.non:=pv
     have e2:hv'=.non:=pv2
     subst e1 e2
     refine⟨U,_,U,ifF rfl ?_⟩
     exact⟨_,U,U,_,U,ifF rfl (ce fin)⟩
    | some pz=>
     obtain⟨a2,rfl,m2⟩:=pv
     obtain⟨a3,rfl,m3'⟩:=pv2
     refine⟨U,_,U,ifF rfl ?_⟩
     refine⟨_,U,U,_,U,ifT rfl ?_⟩
     refine⟨_,U,_,U,?_⟩
     refine tn0 ?_
     exact .inr ⟨a2,a3,_,_,U,Y11.at_ m2,Y11.at_ m3',_,U,ifF rfl fin⟩
  ·rintro σ H7 hP
   rw[Int.toNat_natCast] at hP
   obtain⟨x,plc,hv,y,s,N7,o10,o11,rfl,sm,Y,li,ert,S,erg,els,h12,hpl,ps,stp⟩:=hP
   obtain⟨Lc,eLc⟩:∃ Lc:Kn,(sl,HO.lst (x.ms.map V.int))::(ml,HO.lst (x.cs.map V.int))::(hl,HO.lst (x.ns.map V.int))::(N7++Lr)=Lc:=⟨_,U⟩
   have toN:∀ z ∈ N7++Lr,z ∈ Lc:=fun z hz=>by rw[<- eLc]; exact tK _ (tK _ (tK _ hz))
   have toC:∀ z ∈ Lr,z ∈ Lc:=fun z hz=>toN z (tL _ hz)
   rw[eLc] at Y
   have lxm:=li.ml
   have lxc:x.cs.length=cr.length:=by rw[li.inv.l,li.wl,lcr]
   have ldS:LdS B Lc kvs dd cr x s:=⟨toC _ mkv,rat.mono toC,S,erg,lxc,fun z hz r hr=>by rw[els]; exact cb z hz r hr,by omega,by omega,by have:=li.nl; omega⟩
   refine⟨_,U,_,U,_,U,_,U,_,U,?_⟩
   refine tn0 ?_
   exact⟨B,y,W,s,_,Lc,kvs,dd,cr,hv,plc,sl,ml,hl,x,U,Y,by rw[lxm]; exact lin.mono toC,ldS,hpl.mono toN,ps,by rw[<- eLc]; exact tM,by rw[<- eLc]; exact tK _ tM,by rw[<- eLc]; exact tK _ (tK _ tM),fun H8 Y8=>q _⟩
end
noncomputable abbrev ad {A0 A3 A5 A7 A9 Ab Ad Af Ah Aj Al An Ap Ar At Av Ax Az A11 A13 A15 A17 A19 A1b A1d A1f A1h A1j A1l A1n A1p A1r A1t A1v A1x A1z A21 A23 A25 A27 A29 A2b A2d A2f A2h A2j A2l A2n A2p A2r A2t A2v A2x A30 A32 A34 A36 A39 A3b A3d A3f A3h A3j A3l A3n A3p A3r A3t A3v A3x A3z A41 A43 A45 A46 A47 A48:Addr}{D1 D4 D6 D8 Da Dc De Dg Di Dk Dm Do Dq Ds Du Dw Dy D10 D12 D14 D16 D18 D1a D1c D1e D1g D1i D1k D1m D1o D1q D1s D1u D1w D1y D20 D22 D24 D26 D28 D2a D2c D2e D2g D2i D2k D2m D2o D2q D2s D2u D2w D2y D31 D33 D35 D37 D3a D3c D3e D3g D3i D3k D3m D3o D3q D3s D3u D3w D3y D40 D42 D44:FuncData}{V2 V2z V38 V49 V4a V4b V4c V4d V4e V4f:Value}:Adr:=⟨A0,D1,V2,A3,D4,A5,D6,A7,D8,A9,Da,Ab,Dc,Ad,De,Af,Dg,Ah,Di,Aj,Dk,Al,Dm,An,Do,Ap,Dq,Ar,Ds,At,Du,Av,Dw,Ax,Dy,Az,D10,A11,D12,A13,D14,A15,D16,A17,D18,A19,D1a,A1b,D1c,A1d,D1e,A1f,D1g,A1h,D1i,A1j,D1k,A1l,D1m,A1n,D1o,A1p,D1q,A1r,D1s,A1t,D1u,A1v,D1w,A1x,D1y,A1z,D20,A21,D22,A23,D24,A25,D26,A27,D28,A29,D2a,A2b,D2c,A2d,D2e,A2f,D2g,A2h,D2i,A2j,D2k,A2l,D2m,A2n,D2o,A2p,D2q,A2r,D2s,A2t,D2u,A2v,D2w,A2x,D2y,V2z,A30,D31,A32,D33,A34,D35,A36,D37,V38,A39,D3a,A3b,D3c,A3d,D3e,A3f,D3g,A3h,D3i,A3j,D3k,A3l,D3m,A3n,D3o,A3p,D3q,A3r,D3s,A3t,D3u,A3v,D3w,A3x,D3y,A3z,D40,A41,D42,A43,D44,A45,A46,A47,A48,V49,V4a,V4b,V4c,V4d,V4e,V4f⟩
theorem dm_Jj {v:Value}{T:Addr}{od:Option Addr}{n:Nat}{sl:Array (Option Value)}{tk0:Tok} (e:v=.ref T) (l:K.lookup T=some ⟨.type "tuple",od,.seq #[.int 1 tk0] n,sl⟩):∃ (T:Addr) (od:Option Addr) (n:Nat) (sl:Array (Option Value)) (tk0:Tok),v=.ref T/\K.lookup T=some ⟨.type "tuple",od,.seq #[.int 1 tk0] n,sl⟩:=⟨T,od,n,sl,tk0,e,l⟩
theorem dm_Jd1 {v:Value}{T:Addr}{od:Option Addr}{n:Nat}{sl:Array (Option Value)}{tk0:Tok} (e:v=.ref T) (l:K.lookup T=some ⟨.type "tuple",od,.seq #[.int 0 tk0,.none] n,sl⟩):∃ (T:Addr) (od:Option Addr) (n:Nat) (sl:Array (Option Value)) (tk0:Tok),v=.ref T/\K.lookup T=some ⟨.type "tuple",od,.seq #[.int 0 tk0,.none] n,sl⟩:=⟨T,od,n,sl,tk0,e,l⟩
theorem tpm {u:Value}{a:Addr}{od:Option Addr}{its:Array Value}{n:Nat}{sl:Array (Option Value)}{vs:List V} (y:u=.ref a) (l:K.lookup a=some ⟨.type "tuple",od,.seq its n,sl⟩) (s:its.size<=sizeLine) (v:Vals vs its.toList):∃ (a:Addr) (o:Obj) (its:Array Value) (n:Nat),u=.ref a/\K.lookup a=some o/\o.cls=.type "tuple" /\ o.data=.seq its n/\its.size<=sizeLine/\Vals vs its.toList:=⟨a,_,its,n,y,l,U,U,s,v⟩
end P
namespace PySem.W.Fast
def tw4668331588117347487:=Nat
def tw12655906074219095672:=Nat
def tw1183951584425699464:=Nat
def tw8538998742820522677:=Nat
def tw18356391476662896537:=Nat
def tw8841182989076010281:=Nat
def tw13563809182683689327:=Nat
def tw7474143372854751753:=Nat
def tw3469180269352632976:=Nat
def tw17952813236854682869:=Nat
def tw11655181982953312976:=Nat
def tw14246132818871736671:=Nat
def tw12042560139240476629:=Nat
def tw8278564147576611296:=Nat
def tw17688582619856841609:=Nat
def tw323670090410684177:=Nat
def tw12199456914958228519:=Nat
def tw667709129160601585:=Nat
def tw1508325984527889080:=Nat
def tw64352494824276078:=Nat
def tw14888122981959576501:=Nat
def tw10271623634678872054:=Nat
def tw11922588300680191222:=Nat
def tw10931274855966195915:=Nat
def tw13053411051274179044:=Nat
def tw15546295525513090933:=Nat
def tw7276706737806583281:=Nat
def tw6460683127877892505:=Nat
def tw4884775799190853689:=Nat
def tw486905766859408267:=Nat
def tw15035415899904010889:=Nat
def tw8634474909553500673:=Nat
def tw3992146755506422075:=Nat
def tw18274967138434889467:=Nat
def tw2651729872265381072:=Nat
def tw13014913909457922612:=Nat
def tw17520655938316355319:=Nat
def tw11343341584090681343:=Nat
def tw17708996509952076330:=Nat
def tw15844342148102680101:=Nat
def tw8302598757914847428:=Nat
def tw3473567795071148204:=Nat
def tw12352056722561875328:=Nat
def tw15965656606669160232:=Nat
def tw990962536886736039:=Nat
def tw2384837628305500256:=Nat
def tw18310398797108768757:=Nat
def tw15247194831844341505:=Nat
def tw2419936243669483468:=Nat
def tw17157547381675496305:=Nat
def tw5935935501783984197:=Nat
def tw16020130243287259621:=Nat
def tw817431302428369260:=Nat
def tw8721389067591591036:=Nat
def tw18320576556239592740:=Nat
def tw7448472578069595521:=Nat
def tw4798067739878011791:=Nat
def tw4378924168412848083:=Nat
def tw12479092085698277879:=Nat
def tw9244322449469467088:=Nat
def tw13577222501691061136:=Nat
def tw6888565160185684524:=Nat
def tw6331303249903007194:=Nat
def tw2608956195148371936:=Nat
def tw4208010737858399958:=Nat
def tw11091212139306380690:=Nat
def tw5994310333686376783:=Nat
def tw10142281423291886261:=Nat
def tw17030010233866873596:=Nat
def tw17930839677922103885:=Nat
def tw5997816104886587383:=Nat
def tw8996464636575027234:=Nat
def tw2296851000576248573:=Nat
def tw2601202826844705812:=Nat
def tw6896882451993861461:=Nat
def tw17781776522279172214:=Nat
def tw18336411734724055236:=Nat
def tw17654232831371284502:=Nat
def tw506460309243294962:=Nat
def tw15313223399783245189:=Nat
def tw17609121999523975145:=Nat
def tw17066730609556864844:=Nat
def tw4471848512116077764:=Nat
def tw316057348126020207:=Nat
def tw9640397506351526683:=Nat
def tw17258526123083465736:=Nat
def tw40581827879170027:=Nat
def tw9140413180087334710:=Nat
def tw12057587677256734160:=Nat
def tw4580581204387664751:=Nat
def tw15932498676996155166:=Nat
def tw14008349379784875489:=Nat
def tw18328372515386931292:=Nat
def tw14321408632815531571:=Nat
def tw6264834493300473655:=Nat
def tw10575107148522165007:=Nat
def tw4214673635706436894:=Nat
def tw2583220833828386592:=Nat
def tw7518250664430789903:=Nat
def tw17369003780841568109:=Nat
def tw7650179050164021878:=Nat
def tw9816652037367124712:=Nat
def tw17158920342037438859:=Nat
def tw1730655357932500635:=Nat
def tw6699467386218834085:=Nat
def tw14207667629761455845:=Nat
def tw5278815534832268798:=Nat
def tw354786317694163189:=Nat
def tw7769210202315874442:=Nat
def tw6396460679510347273:=Nat
def tw4683905390953797682:=Nat
def tw13825399284565332690:=Nat
def tw3349662759754051994:=Nat
def tw17228982863093817971:=Nat
def tw953304321175357286:=Nat
def tw16887668064544121142:=Nat
def tw565412202999187315:=Nat
def tw9727349406046260484:=Nat
def tw10037667309593265626:=Nat
def tw2285772240133377990:=Nat
def tw2286097300670505329:=Nat
def tw3556165809445875636:=Nat
def tw13608744776744682279:=Nat
def tw5817934781078182077:=Nat
def tw13133230503104424594:=Nat
def tw10566660938656196327:=Nat
def tw8196441783659061050:=Nat
def tw15482756535692921192:=Nat
def tw3949187804126560111:=Nat
def tw886258059333357295:=Nat
def tw7276331974180350005:=Nat
def tw780304733667751266:=Nat
def tw3370577613730662214:=Nat
def tw860955790725722543:=Nat
def tw15510811207599063565:=Nat
def tw5145070515152638871:=Nat
def tw18125169573120004047:=Nat
def tw8084154400440493961:=Nat
def tw468023285198206558:=Nat
def tw18289915267109539867:=Nat
def tw6378814880147285923:=Nat
def tw9674151746598132552:=Nat
def tw1581967117622672725:=Nat
def tw16164352085170854475:=Nat
def tw7750880223177930273:=Nat
def tw8677038934512241287:=Nat
def tw13977705475670074773:=Nat
def tw5437499888272306346:=Nat
def tw3125953898044833585:=Nat
def tw2282158089616601200:=Nat
def tw7104138936456891047:=Nat
def tw17449846920065934212:=Nat
def tw9131990483345377737:=Nat
def tw8558763739721237625:=Nat
def tw3967085766145311675:=Nat
def tw4412610042978882649:=Nat
def tw6910704891728856396:=Nat
def tw4841275183767558443:=Nat
def tw6937389194765228780:=Nat
def tw3389146364877249940:=Nat
def tw3025341334253700771:=Nat
def tw9279443633939774578:=Nat
def tw5070351111619256864:=Nat
def tw8413690681177372734:=Nat
def tw14791236894276928299:=Nat
def tw10599601285113593550:=Nat
def tw11685877405733382500:=Nat
def tw14466984998961073438:=Nat
def tw14524551966707201321:=Nat
def tw9314535025937392434:=Nat
def tw10620250106246696491:=Nat
def tw5533177193532972780:=Nat
def tw2121609697529335092:=Nat
def tw7871513278154712537:=Nat
def tw18238657020152983769:=Nat
def tw14427709100496844047:=Nat
def tw7886158770797366895:=Nat
def tw2570659310053644460:=Nat
def tw13007134339307051040:=Nat
def tw12873131706619893342:=Nat
def tw7142386004368411772:=Nat
def tw10314639733295962409:=Nat
def tw8637743559142190848:=Nat
def tw7341121069015053532:=Nat
def tw5536074025184372115:=Nat
def tw7651021152688379753:=Nat
def tw15035583528974097585:=Nat
def tw17904284697587525414:=Nat
def tw5788339278772714999:=Nat
def tw4458163528933884119:=Nat
def tw13011502584550068532:=Nat
def tw17347700675297037912:=Nat
def tw17774124600248690358:=Nat
def tw9460839850890736214:=Nat
def tw1250834008612640609:=Nat
def tw16825377282085545387:=Nat
def tw13447565701256836948:=Nat
def tw8321133713280782639:=Nat
def tw8125738855448342794:=Nat
def tw15244836362569512876:=Nat
def tw10711105317234148323:=Nat
def tw2764990775126628254:=Nat
def tw2200276659631566169:=Nat
def tw7000494555097952307:=Nat
def tw2493492215111833683:=Nat
def tw7004669862792856125:=Nat
def tw11615792537542194846:=Nat
def tw13093208997041209641:=Nat
def tw11167292484408109160:=Nat
def tw13455522707546968447:=Nat
def tw15932230269057079936:=Nat
def tw7762465550184638915:=Nat
def tw17047685585650695231:=Nat
def tw4890903875063196074:=Nat
def tw16843884787699179394:=Nat
def tw6146893166580021528:=Nat
def tw1571399525544261140:=Nat
def tw15749357222040336831:=Nat
def tw8963894780309830792:=Nat
def tw7666077699003595626:=Nat
def tw15966052922597974379:=Nat
def tw16507223714842082923:=Nat
def tw12272648852127286632:=Nat
def tw6362715674844562416:=Nat
def tw5724128650858742594:=Nat
def tw8353282077028280151:=Nat
def tw5429607612415464344:=Nat
def tw11343134915512961439:=Nat
def tw171271725377601041:=Nat
def tw7547410924041051213:=Nat
def tw14714295412989632181:=Nat
def tw6661845370036071374:=Nat
def tw14468020073409038584:=Nat
def tw7530599057383118423:=Nat
def tw11642210953129795762:=Nat
def tw18241591714441847612:=Nat
def tw3830561709196509511:=Nat
def tw16222192798850498034:=Nat
def tw13156172119262828707:=Nat
def tw10153469460977205040:=Nat
def tw5098386249374638395:=Nat
def tw3485134802922224765:=Nat
def tw2114116229631200043:=Nat
def tw5433396474719188140:=Nat
def tw17196876514792766493:=Nat
def tw7015082175222915473:=Nat
def tw1093981290151565036:=Nat
def tw17045920204817209040:=Nat
def tw1742521072714322848:=Nat
def tw899256093293588951:=Nat
def tw2897860981206204605:=Nat
def tw15505840458877026614:=Nat
def tw6773911833226831813:=Nat
def tw13670066649804625328:=Nat
def tw11094010093637539733:=Nat
def tw7621852682656464410:=Nat
def tw14213329743947867729:=Nat
def tw2971831231391185364:=Nat
def tw15873040188225407933:=Nat
def tw7125938344201175678:=Nat
def tw1640305350620422522:=Nat
def tw9852137988378040637:=Nat
def tw6763939484646492359:=Nat
def tw9845994207806836364:=Nat
def tw15546467522020558157:=Nat
def tw13056209502964328761:=Nat
def tw5958675570271111847:=Nat
def tw4976866476797333879:=Nat
def tw4754008172087277084:=Nat
def tw3467961830622632945:=Nat
def tw14300177521186987169:=Nat
def tw3765147262978784201:=Nat
def tw995503811413743686:=Nat
def tw10952534493813173961:=Nat
def tw1909143355534889139:=Nat
def tw15199283832948462365:=Nat
def tw10241817310400375665:=Nat
def tw2543452800009483971:=Nat
def tw16450961787153601369:=Nat
def tw6341306643845151386:=Nat
def tw1370983054174391177:=Nat
def tw926218618441718057:=Nat
def tw13489634775917916276:=Nat
def tw12308315332643879019:=Nat
def tw3182674297857174128:=Nat
def tw9120024022155610481:=Nat
def tw14156362864075650794:=Nat
def tw15987360059254868667:=Nat
def tw6798065888084717719:=Nat
def tw13973183733588976097:=Nat
def tw18133587383222754147:=Nat
def tw11174146942606352690:=Nat
def tw9836330394064416788:=Nat
def tw15377108336952834546:=Nat
def tw3646129749983097914:=Nat
def tw10038822901694458590:=Nat
def tw1194670083405030118:=Nat
def tw11583822600884082069:=Nat
def tw12384863061719715488:=Nat
def tw14111812761699162638:=Nat
def tw15268022682501212864:=Nat
def tw10082494389268542974:=Nat
def tw16071764672641374864:=Nat
def tw1134483364373513098:=Nat
def tw15705088709078508052:=Nat
def tw2349717506815549364:=Nat
def tw4056813365218014229:=Nat
def tw4012475693035658180:=Nat
def tw13532826559115404059:=Nat
def tw10162173369471548037:=Nat
def tw4443311834066575451:=Nat
def tw4656368219122559601:=Nat
def tw10738638803497129680:=Nat
def tw13818902094753552512:=Nat
def tw10203860502444329641:=Nat
def tw17042017968310417785:=Nat
def tw11533777449762091367:=Nat
def tw15061990591429811413:=Nat
def tw1795239431650991684:=Nat
def tw8830817199362169287:=Nat
def tw8840826617353671027:=Nat
def tw1425753156111680255:=Nat
def tw9956583448113064601:=Nat
def tw3168492455857936268:=Nat
def tw16273444171617283343:=Nat
def tw1014530600965411117:=Nat
def tw111632953205319702:=Nat
def tw11598169866903015711:=Nat
def tw17115443572647133934:=Nat
def tw12061308597326118905:=Nat
def tw7044025753609426607:=Nat
def tw12062048587046356211:=Nat
def tw12135473975459838624:=Nat
def tw8660639054254202159:=Nat
def tw130164821781663334:=Nat
def tw5826868215370683997:=Nat
def tw674232334850425847:=Nat
def tw12114660389760009945:=Nat
def tw17380155158964288302:=Nat
def tw14391809918923068340:=Nat
def tw3930703379034474006:=Nat
def tw3014108667208927494:=Nat
def tw2852373983050172742:=Nat
def tw1710790285129649160:=Nat
def tw14396502483715237464:=Nat
def tw5226015248808271614:=Nat
def tw11085715868132496768:=Nat
def tw2836734443905589195:=Nat
def tw14270453268519933332:=Nat
def tw12171414223339633633:=Nat
def tw9242906253732397340:=Nat
def tw15507701965339826651:=Nat
def tw2876909932720046726:=Nat
def tw2961761444256811548:=Nat
def tw1951094185313853814:=Nat
def tw786568382230601539:=Nat
def tw16168228953165668609:=Nat
def tw6343765461181912027:=Nat
def tw7205880693377125277:=Nat
def tw16542261405322877590:=Nat
def tw2960645641817332657:=Nat
def tw10384762636675734048:=Nat
def tw14776479918649587040:=Nat
def tw18157910392368097594:=Nat
def tw50810710676760882:=Nat
def tw15308219692800204089:=Nat
def tw9532300402893747161:=Nat
def tw5401483169347128871:=Nat
def tw6966866918517164552:=Nat
def tw16967968667700800711:=Nat
def tw6022539681984184298:=Nat
def tw8795864746919050682:=Nat
def tw7655039157037946006:=Nat
def tw186267895835636899:=Nat
def tw13383003944617935194:=Nat
def tw5823779639637924752:=Nat
def tw4746262078764637162:=Nat
def tw14431505995942145801:=Nat
def tw2564123275858361897:=Nat
def tw5249308334147348753:=Nat
def tw14317942753203190978:=Nat
def tw1851122444563114725:=Nat
def tw18392220606327733929:=Nat
def tw8236004127429164583:=Nat
def tw10053044978630962287:=Nat
def tw13604821038771552065:=Nat
def tw15702048540659424703:=Nat
def tw4317689852600406531:=Nat
def tw9125243809395811700:=Nat
def tw5939218880808596732:=Nat
def tw15688938938043084714:=Nat
def tw10233656148082947718:=Nat
def tw445087224286297326:=Nat
def tw10140230789844987070:=Nat
def tw1701924209119640024:=Nat
def tw18276509206612175906:=Nat
def tw13645238069918202647:=Nat
def tw6730124100664140889:=Nat
def tw14308209096875513387:=Nat
def tw9887146749324803582:=Nat
def tw2579329953072657511:=Nat
def tw2066482183809311018:=Nat
def tw12432867796254899223:=Nat
def tw11556440059658860517:=Nat
def tw6878381165041139651:=Nat
def tw15154265632839478764:=Nat
def tw11614987348366424647:=Nat
def tw16602331707831944578:=Nat
def tw11397497604584739234:=Nat
def tw9759146062239778454:=Nat
def tw11504370673928561308:=Nat
def tw11711412748211074072:=Nat
def tw2271300550861693152:=Nat
def tw2198698391187915902:=Nat
def tw2769831645731630515:=Nat
def tw6117390982238693913:=Nat
def tw740729233711858576:=Nat
def tw8984868068922528611:=Nat
def tw7469773680684884940:=Nat
def tw855195490194965785:=Nat
def tw17695738545236163718:=Nat
def tw1011493458676130495:=Nat
def tw7525506591718935252:=Nat
def tw10269921842223711561:=Nat
def tw9610622703588083214:=Nat
def tw7017038087077099336:=Nat
def tw13561992375792217876:=Nat
def tw4826130004654824177:=Nat
def tw8057592128082338204:=Nat
def tw3117393592009806534:=Nat
def tw8647398203731612634:=Nat
def tw8005409306971889400:=Nat
def tw15491804215671419402:=Nat
def tw16368038905473810062:=Nat
def tw12011042557013144920:=Nat
def tw11895072326263303300:=Nat
def tw4803459775418975139:=Nat
def tw10619069031042882706:=Nat
def tw5028305909580782385:=Nat
def tw15773467674115288093:=Nat
def tw2075877482255172343:=Nat
def tw2938256106951276933:=Nat
def tw16392775461957921682:=Nat
def tw2651557886645087529:=Nat
def tw9233480284064130981:=Nat
def tw7490644476481361349:=Nat
def tw11694393496724437973:=Nat
def tw6465969339953137478:=Nat
def tw10898540023600603471:=Nat
def tw13532979473670359185:=Nat
def tw8765163297769862674:=Nat
def tw10029498115601053610:=Nat
def tw2854571157904137574:=Nat
def tw10554688293064142513:=Nat
def tw6984441844524142672:=Nat
def tw13455505442366195984:=Nat
def tw15310232115077920960:=Nat
def tw13790097460680492374:=Nat
def tw8046077954201026814:=Nat
def tw15816557582435939237:=Nat
def tw5872562129268910006:=Nat
def tw11653406728689474990:=Nat
def tw11160193756625295923:=Nat
def tw4706628527705873868:=Nat
def tw11628170209334638729:=Nat
def tw3684976497892192890:=Nat
def tw4051593165319090272:=Nat
def tw6681810156779951836:=Nat
def tw17571616632673738441:=Nat
def tw11602221191239134691:=Nat
def tw15510866509778976836:=Nat
def tw6077369700139550460:=Nat
def tw598613373975627216:=Nat
def tw14284291899727182884:=Nat
def tw7603605918098149158:=Nat
def tw2016793913262218278:=Nat
def tw10175702538422080000:=Nat
def tw16256089264041999691:=Nat
def tw14514715423696673109:=Nat
def tw4895658706582626945:=Nat
def tw9617527728092480686:=Nat
def tw3693628857869042729:=Nat
def tw14921521943517459400:=Nat
def tw16706041344286931983:=Nat
def tw9884227428425637844:=Nat
def tw5544673549943763107:=Nat
def tw413387018034374102:=Nat
def tw2380933621537105124:=Nat
def tw17453028016642490668:=Nat
def tw2342917812850536686:=Nat
def tw1143282455969094619:=Nat
def tw5725480305190863847:=Nat
def tw9549497927796124119:=Nat
def tw5197726917849176382:=Nat
def tw1151511641490097953:=Nat
def tw13036168627572168864:=Nat
def tw9812494262272120333:=Nat
def tw5497229325723772579:=Nat
def tw7901692570696870094:=Nat
def tw2482738606180771742:=Nat
def tw17219262951725406955:=Nat
def tw11195836383373230105:=Nat
def tw1351650473576003407:=Nat
def tw4184188466833969607:=Nat
def tw17074053983082585313:=Nat
def tw17389346978535292052:=Nat
def tw16907128118398894616:=Nat
def tw14494377621639907829:=Nat
def tw17310879177476525877:=Nat
def tw6358136387160579362:=Nat
def tw2772762273281276326:=Nat
def tw5768488803516413653:=Nat
def tw7867132519153400809:=Nat
def tw11502326182224138436:=Nat
def tw13771636896395358498:=Nat
def tw3670538850181842875:=Nat
def tw5058931573957590269:=Nat
def tw11555757029180069871:=Nat
def tw16761689488588973378:=Nat
def tw14982133770994002734:=Nat
def tw11792365662118855518:=Nat
def tw16922777653205414219:=Nat
def tw4543359888683356990:=Nat
def tw1684003730839922555:=Nat
def tw18319171426014009346:=Nat
def tw12846464809911684168:=Nat
def tw17055897883907336825:=Nat
def tw3695210604677913895:=Nat
def tw17590292159842584497:=Nat
def tw11080710516154253044:=Nat
def tw7603852519988444513:=Nat
def tw1163638963811468738:=Nat
def tw5509724445314314850:=Nat
def tw13753415381364188071:=Nat
def tw15770566018231953221:=Nat
def tw2760127971960752839:=Nat
def tw2374979976851278360:=Nat
def tw833569839249506062:=Nat
def tw8174708524660213628:=Nat
def tw4287798386748132947:=Nat
def tw9643765644465040366:=Nat
def tw301210593095722243:=Nat
def tw15202214267979087948:=Nat
def tw5424943425044271035:=Nat
def tw15184847520538424146:=Nat
def tw14175949732795751335:=Nat
def tw956096014438078877:=Nat
def tw7814357039535647287:=Nat
def tw4120990328533195849:=Nat
def tw18343105143449380919:=Nat
def tw2731529581560395960:=Nat
def tw15210971814789618453:=Nat
def tw295508204876737487:=Nat
def tw4530345946594050104:=Nat
def tw10759312346920144256:=Nat
def tw1017435838055727007:=Nat
def tw10247651746709554012:=Nat
def tw4172817645979865894:=Nat
def tw4314949054277511875:=Nat
def tw561250109233557890:=Nat
def tw5437070242468682045:=Nat
def tw3892743256553233497:=Nat
def tw11976731972279165678:=Nat
def tw6989394828257043872:=Nat
def tw12200681787880433413:=Nat
def tw17661195075157612352:=Nat
def tw14935540670015673325:=Nat
def tw12097384852791243320:=Nat
def tw17923234691961134456:=Nat
def tw2444050666985052116:=Nat
def tw5332189072168245323:=Nat
def tw16234378885703224404:=Nat
def tw6440875181131459948:=Nat
def tw7456606057086357369:=Nat
def tw18123989230255789518:=Nat
def tw4014330998197938934:=Nat
def tw8550189710995523088:=Nat
def tw11530581829756037601:=Nat
def tw3719824634921539345:=Nat
def tw11697998826622039654:=Nat
def tw7678944996171944351:=Nat
def tw13919099893891319143:=Nat
def tw13932847686665106474:=Nat
def tw5518717480712849889:=Nat
def tw17102655005127091833:=Nat
def tw4797110379503143335:=Nat
def tw2078978456671687509:=Nat
def tw9902652657714889701:=Nat
def tw12240925075798591681:=Nat
def tw7320312728738424149:=Nat
def tw6263035242879240895:=Nat
def tw63075580524952494:=Nat
def tw6304020378021372305:=Nat
def tw1939553749045090161:=Nat
def tw3374214403552623764:=Nat
def tw10506531841673111528:=Nat
def tw15706356612592505699:=Nat
def tw3411648568216968933:=Nat
def tw12644585975011557097:=Nat
def tw2338428347458839411:=Nat
def tw4152328211092808686:=Nat
def tw17823632862319816503:=Nat
def tw12892775939834978391:=Nat
def tw10619759966197101891:=Nat
def tw18013931934135113099:=Nat
def tw13594684980556592961:=Nat
def tw3359006352662219774:=Nat
def tw6868876650894657677:=Nat
def tw14508255824659567425:=Nat
def tw7442979172729655378:=Nat
def tw10977832267268376243:=Nat
def tw8721223207087674977:=Nat
def tw4760192401220527722:=Nat
def tw2757894984028517026:=Nat
def tw16798246600603796766:=Nat
def tw11524562524258478060:=Nat
def tw11908594831627377609:=Nat
def tw5594287410552974748:=Nat
def tw7984124229307689160:=Nat
def tw9658811574142910751:=Nat
def tw17614734974364628930:=Nat
def tw8449443627508281666:=Nat
def tw4612752547852006749:=Nat
def tw18204216293225922134:=Nat
def tw6521836916440190009:=Nat
def tw8367466060999288037:=Nat
def tw13378289676090392021:=Nat
def tw15342131964822931993:=Nat
def tw9075939390166343932:=Nat
def tw15739563599585696641:=Nat
def tw16620016224836520539:=Nat
def tw14549580769833124370:=Nat
def tw12987985995605444449:=Nat
def tw5967056711451649591:=Nat
def tw9507714949023841192:=Nat
def tw13881071116102569112:=Nat
def tw16901961940369608415:=Nat
def tw2536540817960197323:=Nat
def tw11221872188061844483:=Nat
def tw11309645719135948492:=Nat
def tw17285299011441898544:=Nat
def tw13896643306130091362:=Nat
def tw13298689931575193414:=Nat
def tw16754890983906037632:=Nat
def tw11735013066888828009:=Nat
def tw1920558125455931840:=Nat
def tw13261657835956656559:=Nat
def tw18222856062069614773:=Nat
def tw7690100885747761663:=Nat
def tw2603741928434666773:=Nat
def tw15984018900483939863:=Nat
def tw1647678992006799443:=Nat
def tw10527249713844437211:=Nat
def tw10013760924044686412:=Nat
def tw16798959757886743314:=Nat
def tw9185445796637853368:=Nat
def tw14340738900030174743:=Nat
def tw11281080965322515619:=Nat
def tw13377221233927415894:=Nat
def tw11899538923096687239:=Nat
def tw12105607308323556947:=Nat
def tw3564706759071711197:=Nat
def tw7067222984381934877:=Nat
def tw16977960800924847461:=Nat
def tw15173233589741919313:=Nat
def tw9951562707655282564:=Nat
def tw10523066026267694726:=Nat
def tw10016387988008052174:=Nat
def tw10138002166125550254:=Nat
def tw9014251029908950881:=Nat
def tw14049129374215183830:=Nat
def tw2979429407688586489:=Nat
def tw10419593261966502992:=Nat
def tw6016913199575597500:=Nat
def tw1347433512670477356:=Nat
def tw13069225070719048159:=Nat
def tw2885600464504956470:=Nat
def tw3378381568545117068:=Nat
def tw10327699651777104584:=Nat
def tw8296960405991512844:=Nat
def tw16839674043427046229:=Nat
def tw12118220284100214341:=Nat
def tw16883611107156409867:=Nat
def tw14081939643339770249:=Nat
def tw3341333997766226575:=Nat
def tw8919975779001459052:=Nat
def tw14242797234430248155:=Nat
def tw7298558649562871936:=Nat
def tw7018585124430376264:=Nat
def tw1073968747423308279:=Nat
def tw1602138540387677375:=Nat
def tw13129967796064769637:=Nat
def tw14684442223563179969:=Nat
def tw5810750914272351336:=Nat
def tw8819598000174840712:=Nat
def tw3188514696726168954:=Nat
def tw5759982474723615857:=Nat
def tw14967885350457944369:=Nat
def tw18046523880311065134:=Nat
def tw13399933362651196526:=Nat
def tw6493538585992413326:=Nat
def tw2433880099832102455:=Nat
def tw18320947587214693910:=Nat
def tw5210789326752587855:=Nat
def tw3347815673874294249:=Nat
def tw17471004350857902528:=Nat
def tw2524315235458151934:=Nat
def tw4388013444342562107:=Nat
def tw12931412423960293843:=Nat
def tw5283430520031953281:=Nat
def tw14676266467621784838:=Nat
def tw2183745394465193760:=Nat
def tw6700300629855460701:=Nat
def tw12548110862341720728:=Nat
def tw2122724637054037066:=Nat
def tw9697667175378847827:=Nat
def tw6573511853244768997:=Nat
def tw5239411016952280778:=Nat
def tw5388979894469664305:=Nat
def tw8560032897192596666:=Nat
def tw10759514629689589056:=Nat
def tw17599026384745277994:=Nat
def tw18183725781874937504:=Nat
def tw15843140099776839810:=Nat
def tw13950417876064592654:=Nat
def tw7005124545866604605:=Nat
def tw16464838180097591956:=Nat
def tw14704811772639829700:=Nat
def tw1786589995959956197:=Nat
def tw12328604039328109707:=Nat
def tw3681970017998508341:=Nat
def tw11974359079096467501:=Nat
def tw2614435228825959047:=Nat
def tw12530592605283131772:=Nat
def tw12471845951614037796:=Nat
def tw10221198335453054657:=Nat
def tw4496261885933561928:=Nat
def tw247139752739702937:=Nat
def tw10325556947270444480:=Nat
def tw6294700121838698261:=Nat
def tw16876555852356207982:=Nat
def tw6500434601709978664:=Nat
def tw9658517297464134876:=Nat
def tw5256839839044833389:=Nat
def tw14764068765630348343:=Nat
def tw11703466997455850964:=Nat
def tw4798508568373024569:=Nat
def tw15359638776043574968:=Nat
def tw2039027676711049689:=Nat
def tw14018913896954388157:=Nat
def tw8816225601754487593:=Nat
def tw11755969718006090688:=Nat
def tw8981072685356422942:=Nat
def tw2078463052244111983:=Nat
def tw18018897786903233977:=Nat
def tw1773130132396864421:=Nat
def tw8403802984427096201:=Nat
def tw5816581648830533978:=Nat
def tw28091951026655055:=Nat
def tw16548769014007992768:=Nat
def tw4006182671595305358:=Nat
def tw7757989848334033003:=Nat
def tw922184982767308573:=Nat
def tw18203421997950792558:=Nat
def tw14170607319795202290:=Nat
def tw6487618050005973027:=Nat
def tw12009668958620487291:=Nat
def tw13270859695807358122:=Nat
def tw3524894367467222771:=Nat
def tw5131475454475024651:=Nat
def tw7398818998369609784:=Nat
def tw9459092989638279550:=Nat
def tw9230855348126584546:=Nat
def tw17322643251543690272:=Nat
end PySem.W.Fast
end
open PySem PySem.W PyProof.Rows
set_option maxRecDepth 100000 in
set_option maxHeartbeats 0 in
theorem PySem.Challenge.cw_lazyrails_k42_rows_without_calls_holds : PySem.Challenge.rw_lazyrails_k42_rows_without_calls.Holds := by
 w_on; o_law; k_head; (case hw => w_witness2)
 k_fill
 refine L2.walk_ofK (l:=PySem.Challenge.rw_lazyrails_k42_rows_without_calls) (n:=63) (k:=15) (x := "_law_script") (CX:=L2.CX0) (sp:=P.sp_law) rfl (by decide) rfl ⟨rfl,by decide,by decide,rfl⟩ (fun w h Y => PySem.W.kIn_of Y) ?F ?S ?C
 case F =>
  intro w mg fa h KX G hmg
  have T:∃ t,P.Txt (L2.KOf KX) mg t:=by
   dsimp only [L2.KOf]
   refine' ⟨P.ad,P.Txt.mk ?z0 ?z1 ?z2 ?z3 ?z4 ?z5 ?z6 ?z7 ?z8 ?z9 ?za ?zb ?zc ?zd ?ze ?zf ?zg ?zh ?zi ?zj ?zk ?zl ?zm ?zn ?zo ?zp ?zq ?zr ?zs ?zt ?zu ?zv ?zw ?zx ?zy ?zz ?z10 ?z11 ?z12 ?z13 ?z14 ?z15 ?z16 ?z17 ?z18 ?z19 ?z1a ?z1b ?z1c ?z1d ?z1e ?z1f ?z1g ?z1h ?z1i ?z1j ?z1k ?z1l ?z1m ?z1n ?z1o ?z1p ?z1q ?z1r ?z1s ?z1t ?z1u ?z1v ?z1w ?z1x ?z1y ?z1z ?z20 ?z21 ?z22 ?z23 ?z24 ?z25 ?z26 ?z27 ?z28 ?z29 ?z2a ?z2b ?z2c ?z2d ?z2e ?z2f ?z2g ?z2h ?z2i ?z2j ?z2k ?z2l ?z2m ?z2n ?z2o ?z2p ?z2q ?z2r ?z2s ?z2t ?z2u ?z2v ?z2w ?z2x ?z2y ?z2z ?z30 ?z31 ?z32 ?z33 ?z34 ?z35 ?z36 ?z37 ?z38 ?z39 ?z3a ?z3b ?z3c ?z3d ?z3e ?z3f ?z3g ?z3h ?z3i ?z3j ?z3k ?z3l ?z3m ?z3n ?z3o ?z3p ?z3q ?z3r ?z3s ?z3t ?z3u ?z3v ?z3w ?z3x ?z3y ?z3z ?z40 ?z41 ?z42 ?z43 ?z44 ?z45 ?z46 ?z47 ?z48 ?z49 ?z4a ?z4b ?z4c ?z4d ?z4e ?z4f ?z4g ?z4h ?z4i ?z4j ?z4k ?z4l ?z4m ?z4n ?z4o ?z4p ?z4q ?z4r ?z4s ?z4t ?z4u ?z4v ?z4w ?z4x ?z4y ?z4z ?z50 ?z51 ?z52 ?z53 ?z54 ?z55 ?z56 ?z57 ?z58 ?z59 ?z5a ?z5b ?z5c ?z5d ?z5e ?z5f ?z5g ?z5h ?z5i ?z5j ?z5k ?z5l ?z5m⟩
   (case z42|z4a|z4g|z4m => dsimp only [P.ad]; refine PySem.W.mg_of KX G ?_; k_is)
   (case z43|z4b|z4h|z4n => dsimp only [P.ad]; apply L2.Mk.mk; k_is; k_is; k_is; k_is)
   (case z21|z23|z24|z25|z26|z27|z28|z29|z2a|z2b|z2c|z2d|z2e|z2f|z2g|z2h|z2i|z2j|z2k|z2l|z2m|z2n|z2o|z2p|z2q|z2r|z2s|z2t|z2u|z2v|z2w|z2x|z2y|z2z|z30|z31|z32|z33|z34 => dsimp only [P.ad]; refine PySem.W.mg_of KX G ?_; k_is)
   (case z35|z36|z37|z38|z39|z3a|z3b|z3c|z3d|z3e|z3g|z3h|z3i|z3j|z3l|z3m|z3n|z3o|z3p|z3q|z3r|z3s|z3t|z3u|z3v|z3w|z3x|z3y|z3z|z40 => dsimp only [P.ad]; apply L2.Meth.mk; k_is; k_is; k_is)
   (case z0|z1|z2|z3|z4|z5|z6|z7|z8|z9|za|zb|zc|zd|ze|zf|zg|zh|zi|zj|zk|zl|zm|zn|zo|zp|zq|zr|zs|zt|zu|zv|zw|zx|zy|zz|z10|z11|z12|z13|z14|z15|z16|z17|z18|z19|z1a|z1b|z1c|z1d|z1e|z1f|z1g|z1h|z1i|z1j|z1k|z1l|z1m|z1n|z1o|z1p|z1q|z1r|z1s|z1t|z1u|z1v|z1w|z1x|z1y|z1z|z20 => dsimp only [P.ad]; apply L2.funG_mk; k_is; k_is; k_is)
   (case z44|z45|z46|z47|z48|z4c|z4d|z4e|z4i|z4j|z4k|z4o|z4p|z4q|z4r|z4s|z4t|z4u|z4v|z4w => dsimp only [L2.NoAttr,P.ad]; k_is)
   (case z3k => dsimp only [P.ad]; apply P.dm_Jd1 rfl; k_is)
   (case z3f => dsimp only [P.ad]; apply P.dm_Jj rfl; k_is)
   (case z59|z5b|z5d|z5f|z5h|z5j|z5l => dsimp only [P.ad]; apply PySem.W.mg_of KX G; k_is)
   (case z41|z49|z4f|z4l => dsimp only [P.ad]; refine ⟨?_,?_,?_,?_⟩; k_is; k_is; k_is; k_is)
   (case z22 => exact rfl)
   (case z4x|z4y|z4z|z50|z51|z52|z53|z54|z55|z56|z57|z58 => refine PySem.W.mg_none_of KX G ?_; k_is)
   (case z5e|z5i => dsimp only [P.ad]; apply P.tpm rfl; k_is; exact (show 3 <= PySem.sizeLine by decide); exact .cons ⟨_,rfl⟩ (.cons ⟨_,rfl⟩ (.cons ⟨_,rfl⟩ (.nil))))
   (case z5a|z5g => dsimp only [P.ad]; exact ⟨_,rfl,by kernel_rfl⟩)
   (case z5c|z5k|z5m => dsimp only [P.ad]; exact ⟨_,rfl⟩)
  obtain ⟨t,T⟩:=T
  have e0:=hmg.symm.trans T.m_law
  cases e0
  exact ⟨_,fun s u => P.law_binds T s u,fun base kb nb => P.ok_law T⟩
 case S => exact fun K H a ns hl hO hS => P.law_start hl hS
 case C => exact fun H s e s' z => z
