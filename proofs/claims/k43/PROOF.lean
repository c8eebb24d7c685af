import PyProof.Rows.All
import Wide.All
import OpenK.AllK
import Wide.FinOn
import Lean
import PyProof.EqAt
import PyProof.EqKinds
import PyProof.TupleCall
import PyProof.ZipIter
import PyProof.EnumMake
import PyProof.ListRange
import KE.KDictList
import KE.LcSums
import KE.KTabLook
import PyProof.P3In
import KE.KIntText
import PyProof.StrLoop
import PyProof.StrWalks
import PyProof.StrCalls2
import PyProof.StrLawsTight
import PyProof.StrLawsChain
import KE.KDictLaws
import PyProof.DictCompW
import PyProof.DictWalks
import PyProof.DictItemsLoops
import PySem.Challenge.RW_lazyrails_k43_calls_come_back
set_option compiler.extract_closed false
set_option Elab.async false
set_option linter.all false
set_option maxRecDepth 100000
open List (pairwise_append)
open List renaming mem_cons_of_mem→r9,mem_append_right→se,mem_cons_self→sg,mem_of_getElem?→si,mem_append_left→sk,getElem?_eq_getElem→sq,append_assoc→sr,length_map→su,map_append→sw,getElem?_map→sx,mem_singleton→sy,length_append→sA,mem_append→sC,mem_cons→sD,mem_map_of_mem→sF,length_cons→sG,map_cons→sH,size_toArray→sI,length_replicate→sJ,length_singleton→sK,getElem?_append_right→sM,not_mem_nil→sN,getElem?_append_left→sO,lookup_cons→sP,mem_map→sQ,append_nil→sR,length_take→sS,find?_cons→sT,mem_range→sU,map_map→sV
noncomputable section
namespace L2
open PySem PySem.Spec PyProof.Rows
theorem U.{u} {α:Sort u}{a:α}:a=a:=rfl
theorem O.{u} {α:Sort u}{a:α}:a=a:=rfl
theorem J.{u} {α:Sort u}{a:α}:a=a:=rfl
theorem F.{u} {α:Sort u}{a:α}:a=a:=rfl
theorem Z.{u} {α:Sort u}{a:α}:a=a:=rfl
noncomputable abbrev Key:=Sum Int Str
noncomputable def gf:Key->Value->Bool
 | .inl k,v=>Value.isInt k v
 | .inr x,v=>Value.isStrOf x v
noncomputable def keyH (w:World):Key->Int
 | .inl k=>hashInt k
 | .inr x=>hashStr w x
theorem bg:∀ {k:Key}{v:Value},gf k v=true->(∃ i t,k=Sum.inl i/\v=Value.int i t)∨(∃ x t,k=Sum.inr x/\v=Value.str x t)
 | .inl i,v,h=>by
  obtain⟨t,e⟩:=Value.isInt_shape (k:=i) (v:=v) h
  exact .inl ⟨i,t,U,e⟩
 | .inr x,v,h=>by
  obtain⟨t,e⟩:=Value.isStrOf_shape (x:=x) (v:=v) h
  exact .inr ⟨x,t,U,e⟩
theorem jZ (i:Int) (t:Tok):gf (.inl i) (.int i t)=true:=by simp[gf,Value.isInt]
theorem jY (x:Str) (t:Tok):gf (.inr x) (.str x t)=true:=by simp[gf,Value.isStrOf]
theorem qm (a b:Int):decide ((Sum.inl a:Key)=Sum.inl b)=(a == b):=by
 by_cases e:a=b
 ·subst e; simp
 ·have h:¬ (Sum.inl a:Key)=Sum.inl b:=fun q=>e (Sum.inl.inj q)
  rw[decide_eq_false h]
  exact(beq_eq_false_iff_ne.mpr e).symm
theorem qj (a b:Str):decide ((Sum.inr a:Key)=Sum.inr b)=decide (a=b):=by
 by_cases e:a=b
 ·subst e; simp
 ·have h:¬ (Sum.inr a:Key)=Sum.inr b:=fun q=>e (Sum.inr.inj q)
  rw[decide_eq_false h,decide_eq_false e]
theorem ql (a:Int) (b:Str):decide ((Sum.inl a:Key)=Sum.inr b)=false:=decide_eq_false (fun q=>nomatch q)
theorem qk (a:Str) (b:Int):decide ((Sum.inr a:Key)=Sum.inl b)=false:=decide_eq_false (fun q=>nomatch q)
noncomputable def bc (prog:Program) (w:World):PySem.KeyKind prog w Key where
 is:=gf
 hash:=keyH w
 inj:=fun v a b ha hb=>by
  rcases bg ha with ⟨i,t,rfl,rfl⟩ | ⟨x,t,rfl,rfl⟩
  ·rcases bg hb with ⟨j,u,rfl,e⟩ | ⟨y,u,rfl,e⟩
   ·injection e with e1 _; rw[e1]
   ·exact nomatch e
  ·rcases bg hb with ⟨j,u,rfl,e⟩ | ⟨y,u,rfl,e⟩
   ·exact nomatch e
   ·injection e with e1 _; rw[e1]
 byValue:=fun k v h=>by
  rcases bg h with ⟨i,t,rfl,rfl⟩ | ⟨x,t,rfl,rfl⟩ <;> rfl
 pyHash:=fun hv h=>by
  rcases bg hv with ⟨i,t,rfl,rfl⟩ | ⟨x,t,rfl,rfl⟩
  ·exact wpAny_pyHash_int h
  ·exact wpAny_pyHash_str h
 eqBool:=fun hu hv h=>by
  rcases bg hu with ⟨i,t,rfl,rfl⟩ | ⟨x,t,rfl,rfl⟩
  ·rcases bg hv with ⟨j,u,rfl,rfl⟩ | ⟨y,u,rfl,rfl⟩
   ·rw[qm] at h; exact wpAny_eqBool_int h
   ·rw[ql] at h; exact SeqAt.EqAt.int_str i t y u _ _ _ _ h
  ·rcases bg hv with ⟨j,u,rfl,rfl⟩ | ⟨y,u,rfl,rfl⟩
   ·rw[qk] at h; exact SeqAt.EqAt.str_int x t j u _ _ _ _ h
   ·rw[qj] at h; exact wpAny_eqBool_str h
 «strs»:=fun k x t v h=>by
  rcases bg h with ⟨i,u,rfl,e⟩ | ⟨y,u,rfl,e⟩
  ·exact nomatch e
  ·injection e with e1 _
   subst e1
   cases v <;> rfl
theorem iz (prog:Program) (w:World) (i:Int) (t:Tok):(bc prog w).is (.inl i) (.int i t)=true:=jZ i t
theorem iy (prog:Program) (w:World) (x:Str) (t:Tok):(bc prog w).is (.inr x) (.str x t)=true:=jY x t
inductive V where
 | non | bl (b:Bool) | int (i:Int) | str (x:Str) | byt (b:Array UInt8) | flt (b:UInt64) | ref (a:Addr) | ty (n:String)
 deriving DecidableEq
noncomputable def RelV:V->Value->Prop
 | .non,u=>u=Value.none
 | .bl b,u=>u=Value.bool b
 | .int i,u=>∃ t,u=Value.int i t
 | .str x,u=>∃ t,u=Value.str x t
 | .byt b,u=>∃ t,u=Value.bytes b t
 | .flt b,u=>∃ t,u=Value.float b t
 | .ref a,u=>u=Value.ref a
 | .ty n,u=>u=Value.type n
noncomputable abbrev Vals:List V->List Value->Prop:=Paired RelV
variable{us:List Value}
theorem Vals.length {xs:List V} (r:Vals xs us):xs.length=us.length:=Paired.length r
theorem Vals.get:∀ {xs:List V}{us:List Value}{i:Nat}{x:V},Vals xs us->xs[i]?=some x->∃ u,us[i]?=some u/\RelV x u
 | _,_,_,_,.nil,e=>by simp at e
 | _,_,0,_,.cons r _,e=>by simp at e; subst e; exact⟨_,U,r⟩
 | _,_,i+1,x,.cons _ t,e=>by
  obtain⟨u,h1,h2⟩:=Vals.get (i:=i) (x:=x) t (by simpa using e)
  exact⟨u,by simpa using h1,h2⟩
theorem Vals.set {x:V}{u:Value} (r:RelV x u):∀ {xs:List V}{us:List Value} (i:Nat),Vals xs us->Vals (xs.set i x) (us.set i u)
 | _,_,_,.nil=>.nil
 | _,_,0,.cons _ t=>.cons r t
 | _,_,i+1,.cons q t=>.cons q (Vals.set r i t)
theorem Vals.append {xs ys:List V}{us ws:List Value} (a:Vals xs us) (s:Vals ys ws):Vals (xs++ys) (us++ws):=by
 induction a with
 | nil=>exact s
 | cons r t ih=>exact .cons r ih
theorem Vals.take:∀ {xs:List V}{us:List Value} (n:Nat),Vals xs us->Vals (xs.take n) (us.take n)
 | _,_,0,_=>.nil
 | _,_,_+1,.nil=>.nil
 | _,_,n+1,.cons r t=>.cons r (Vals.take n t)
theorem Vals.drop:∀ {xs:List V}{us:List Value} (n:Nat),Vals xs us->Vals (xs.drop n) (us.drop n)
 | _,_,0,r=>r
 | _,_,_+1,.nil=>.nil
 | _,_,n+1,.cons _ t=>Vals.drop n t
noncomputable def RelO:Option V->Option Value->Prop
 | some v,some u=>RelV v u
 | none,none=>True
 | _,_=>False
noncomputable def KV {κ:Type}:List (κ×V)->List (κ×Value)->Prop:=Paired fun(p:κ×V) (q:κ×Value)=>p.1=q.1/\RelV p.2 q.2
noncomputable def kV:Key->V
 | .inl i=>.int i
 | .inr x=>.str x
inductive HO where
  | lst (xs:List V)
  | tup (xs:List V)
  | dK (kvs:List (Key×V)) | dT (kvs:List (List Key×V))
  | set (S:Int->Bool) (n:Nat)
  | ins (C dx:Addr) (fs:List (Str×V))
  | own (x:Addr)
  | xd (fs:List (Str×V))
  | met (f x:Addr)
  | rng (lo hi:Int)
  | frz (o:Obj) (u:HO)
  | tbl (ps:Array Value)
  | ext (φ:Heap->Prop)
noncomputable abbrev Hp:=Addr->Option HO
noncomputable def upd (H:Hp) (a:Addr) (o:HO):Hp:=fun b=>if b=a then some o else H b
variable{H:Hp}
theorem bx {a:Addr}{o:HO}:upd H a o a=some o:=by unfold upd; rw[if_pos rfl]
theorem aA {a b:Addr}{o:HO} (h:b≠a):upd H a o b=H b:=by unfold upd; rw[if_neg h]
theorem lB {a b:Addr}{o u:HO} (h:H a=some o) (h':H b=some u) (d:o≠u):a≠b:=by
 intro e; subst e; rw[h] at h'; exact d (Option.some.inj h')
theorem a9 {a b:Addr}{o:HO} (h:H a=some o) (h':H b=none):a≠b:=by
 intro e; subst e; rw[h] at h'; cases h'
section
variable (P:Program) (w:World)
noncomputable def ObjOk (H:Hp) (h:Heap) (a:Addr):HO->Prop
 | .lst xs=>xs.length<=sizeLine/\∃ (its:List Value) (n:Nat),Vals xs its/\h.get? a=some { cls:=.type "list",data:=.seq its.toArray n }
 | .tup xs=>xs.length<=sizeLine/\∃ its:List Value,Vals xs its/\IsTup h a its.toArray
 | .dK kvs=>kvs.length<=sizeLine/\(a == sysModules)=false/\∃ vs,KV kvs vs/\h.DictOf (bc P w) a vs
 | .dT kvs=>kvs.length<=sizeLine/\(a == sysModules)=false/\∃ xs:List (List Key×Addr×Value),
   Paired (fun(p:List Key×V) (q:List Key×Addr×Value)=>p.1=q.1/\H q.2.1=some (.tup (p.1.map kV))/\RelV p.2 q.2.2) kvs xs /\
   ∃ o es ep,h.get? a=some o/\o.ExactDict/\o.data=.dict es ep/\es.toList=xs.map (entryOfKey (tupleKind (bc P w)))/\(xs.map (·.1)).Nodup
 | .set S n=>h.SetOf (intKind P w) a S n
 | .ins C dx fs=>H dx=some (.own a)/\fs.length<=1000/\dx≠a/\h.get? a=some (PySem.W.instObj C dx) /\
   ∃ mA,h.Ns1 dx mA/\(∀ f,RelO (fs.lookup f) (mA f))/\PySem.Within mA (fs.map (·.1))
 | .own _=>∃ o,h.get? a=some o
 | .xd fs=>∃ mA,h.Ns1 a mA/\∀ f,RelO (fs.lookup f) (mA f)
 | .rng lo hi=>∃ t u v,h.get? a=some { cls:=.type "range",data:=.fields #[.int lo t,.int hi u,.int 1 v] }
 | .frz o u=>h.get? a=some o/\ObjOk H h a u
 | .tbl ps=>h.get? a=some { cls:=.none,data:=.fields ps }
 | .met f x=>h.get? a=some (PySem.W.methodObj (.ref f) (.ref x))
 | .ext φ=>φ h/\(∃ o,h.get? a=some o)/\∀ h1 h2:Heap,φ h1->(∀ o,h1.get? a=some o->h2.get? a=some o)->φ h2
noncomputable def HOk (H:Hp) (h:Heap):Prop:=∀ a o,H a=some o->ObjOk P w H h a o
end
section
variable {P:Program}{w:World}{H H':Hp}{h h':Heap}{a:Addr}{o:HO}
theorem ObjOk.lt (x:ObjOk P w H h a o):a<h.objs.size:=by
 cases o with
 | lst xs=>obtain⟨_,_,_,_,e⟩:=x; exact Heap.lt_size e
 | tup xs=>obtain⟨_,_,_,p⟩:=x; exact p.lt
 | dK kvs=>obtain⟨_,_,_,_,o,_,_,e,_⟩:=x; exact Heap.lt_size e
 | dT kvs=>obtain⟨_,_,_,_,o,_,_,e,_⟩:=x; exact Heap.lt_size e
 | set S n=>obtain⟨o,_,_,_,e,_⟩:=x; exact Heap.lt_size e
 | ins C dx fs=>obtain⟨_,_,_,e,_⟩:=x; exact Heap.lt_size e
 | own y=>obtain⟨_,e⟩:=x; exact Heap.lt_size e
 | xd fs=>obtain⟨_,⟨_,_,_,e,_⟩,_⟩:=x; exact Heap.lt_size e
 | rng lo hi=>obtain⟨_,_,_,e⟩:=x; exact Heap.lt_size e
 | frz ob u=>obtain⟨e,_⟩:=x; exact Heap.lt_size e
 | tbl ps=>exact Heap.lt_size (show h.get? a=some _ from x)
 | met f y=>exact Heap.lt_size (show h.get? a=some _ from x)
 | ext φ=>obtain⟨_,⟨_,e⟩,_⟩:=x; exact Heap.lt_size e
theorem Paired.mapP {α β:Type}{F G:α->β->Prop} {l₁:List α}{l₂:List β} (a:Paired F l₁ l₂) (f:∀ a b,F a b->G a b):Paired G l₁ l₂:=by
 induction a with
 | nil=>exact .nil
 | cons r t ih=>exact .cons (f _ _ r) ih
theorem ObjOk.stay (x:ObjOk P w H h a o) (k:∀ b u,(b=a∨H b=some (.own a))->h.get? b=some u->h'.get? b=some u)
  (ho:∀ b,H b=some (.own a)->H' b=some (.own a)) (ht:∀ b xs,H b=some (.tup xs)->H' b=some (.tup xs)):ObjOk P w H' h' a o:=by
 induction o with
 | lst xs=>obtain⟨z,its,n,r,e⟩:=x; exact⟨z,its,n,r,k _ _ (.inl rfl) e⟩
 | tup xs=>obtain⟨z,its,r,ob,e,c⟩:=x; exact⟨z,its,r,ob,k _ _ (.inl rfl) e,c⟩
 | dK kvs=>obtain⟨z,y,vs,r,ob,es,ep,e,c⟩:=x; exact⟨z,y,vs,r,ob,es,ep,k _ _ (.inl rfl) e,c⟩
 | dT kvs=>
  obtain⟨z,y,xs,r,ob,es,ep,e,c⟩:=x
  exact⟨z,y,xs,Paired.mapP r fun p q z=>⟨z.1,ht _ _ z.2.1,z.2.2⟩,ob,es,ep,k _ _ (.inl rfl) e,c⟩
 | set S n=>obtain⟨ob,es,ep,t,e,c⟩:=x; exact⟨ob,es,ep,t,k _ _ (.inl rfl) e,c⟩
 | ins C dx fs=>
  obtain⟨d,z,ne,e,mA,⟨od,es,ep,e2,c⟩,r⟩:=x
  exact⟨ho _ d,z,ne,k _ _ (.inl rfl) e,mA,⟨od,es,ep,k _ _ (.inr d) e2,c⟩,r⟩
 | own y=>obtain⟨ob,e⟩:=x; exact⟨ob,k _ _ (.inl rfl) e⟩
 | xd fs=>obtain⟨mA,⟨od,es,ep,e,c⟩,r⟩:=x; exact⟨mA,⟨od,es,ep,k _ _ (.inl rfl) e,c⟩,r⟩
 | rng lo hi=>obtain⟨t,u,v,e⟩:=x; exact⟨t,u,v,k _ _ (.inl rfl) e⟩
 | frz ob u ih=>obtain⟨e,q⟩:=x; exact⟨k _ _ (.inl rfl) e,ih q⟩
 | tbl ps=>
  have e:h.get? a=some { cls:=.none,data:=.fields ps }:=x
  show h'.get? a=some { cls:=.none,data:=.fields ps }
  exact k a _ (.inl rfl) e
 | met f y=>
  have e:h.get? a=some (PySem.W.methodObj (.ref f) (.ref y)):=x
  show h'.get? a=some (PySem.W.methodObj (.ref f) (.ref y))
  exact k a _ (.inl rfl) e
 | ext φ=>obtain⟨p,⟨o,e⟩,st⟩:=x; exact⟨st _ _ p fun o q=>k _ _ (.inl rfl) q,⟨o,k _ _ (.inl rfl) e⟩,st⟩
theorem HOk.lt (x:HOk P w H h) (e:H a=some o):a<h.objs.size:=(x a o e).lt
theorem HOk.fresh (x:HOk P w H h) (e:h.objs.size<=a):H a=none:=by
 cases q:H a with
 | none=>rfl
 | some u=>exact absurd (Nat.lt_of_lt_of_le (x.lt q) e) (Nat.lt_irrefl _)
theorem HOk.kept (x:HOk P w H h) (k:∀ b u,h.get? b=some u->h'.get? b=some u):HOk P w H h':=fun a o e=>
 (x a o e).stay (fun b u _ q=>k b u q) (fun _ q=>q) fun _ _ q=>q
theorem HOk.laid (x:HOk P w H h) (k:∀ b u,h.get? b=some u->h'.get? b=some u) (hp:h.objs.size<=a) (new:ObjOk P w (upd H a o) h' a o):HOk P w (upd H a o) h':=fun b u e=>by
 have hn:=x.fresh hp
 by_cases hb:b=a
 ·subst hb; rw[bx] at e; cases e; exact new
 ·rw[aA hb] at e
  exact(x b u e).stay (fun c v _ q=>k c v q) (fun c q=>by rw[aA (a9 q hn)]; exact q) fun c xs q=>by rw[aA (a9 q hn)]; exact q
end
noncomputable def Rd (H:Hp) (a:Addr) (u:HO):Prop:=H a=some u∨∃ o,H a=some (.frz o u)
variable{P:Program}{h:Heap}
theorem Rd.ok {w:World}{a:Addr}{u:HO} (r:Rd H a u) (x:HOk P w H h):ObjOk P w H h a u:=by
 rcases r with r | ⟨o,r⟩
 ·exact x a u r
 ·obtain⟨_,q⟩:=x a _ r
  exact q
noncomputable def Mut:Option HO->Prop
 | some (.lst _)=>True
 | some (.dK _)=>True
 | some (.dT _)=>True
 | some (.set _ _)=>True
 | some (.ins _ _ _)=>True
 | some (.ext _)=>True
 | _=>False
section
variable {P:Program}{w:World}{H:Hp}{h h':Heap}{x e:Addr}{o':HO}
theorem HOk.write (ok:HOk P w H h) (mu:Mut (H x)) (he:e=x∨H e=some (.own x)) (k:∀ b u,b≠e->h.get? b=some u->h'.get? b=some u) (heo:∃ u,h'.get? e=some u)
  (new:ObjOk P w (upd H x o') h' x o'):HOk P w (upd H x o') h':=fun b u q=>by
 have nown:∀ c y,H c=some (.own y)->c≠x:=fun c y r z=>by subst z; rw[r] at mu; exact mu
 have ntup:∀ c xs,H c=some (.tup xs)->c≠x:=fun c xs r z=>by subst z; rw[r] at mu; exact mu
 by_cases hb:b=x
 ·subst hb; rw[bx] at q; cases q; exact new
 ·rw[aA hb] at q
  by_cases hbe:b=e
  ·have q':H b=some (.own x):=by
    rcases he with z | z
    ·exact absurd (hbe.trans z) hb
    ·rw[hbe]; exact z
   rw[q] at q'; cases q'
   obtain⟨v,hv⟩:=heo
   exact⟨v,by rw[hbe]; exact hv⟩
  ·refine(ok b u q).stay (fun c v hc r=>k c v ?_ r) (fun c r=>by rw[aA (nown c b r)]; exact r) fun c xs r=>by rw[aA (ntup c xs r)]; exact r
   rcases hc with rfl | hc
   ·exact hbe
   ·rintro rfl
    rcases he with z | z
    ·exact nown c b hc z
    ·rw[hc] at z; cases z; exact hb rfl
end
structure Un (fs ex:List Addr) (H H':Hp) (h h':Heap):Prop where
 keep:∀ b o,h.get? b=some o->H b=none->b ∉ fs->b ∉ ex->h'.get? b=some o
 slot:∀ b o,h.get? b=some o->H b=none->b ∈ fs->b ∉ ex->∃ sl,h'.get? b=some { o with slots:=sl }
 free:∀ b o,h.get? b=some o->H b=none->b ∉ ex->H' b=none
 there:∀ b o,h.get? b=some o->b ∉ ex->∃ o',h'.get? b=some o'
 tups:∀ b xs,H b=some (.tup xs)->H' b=some (.tup xs)
 frzs:∀ b o u,H b=some (.frz o u)->H' b=some (.frz o u)
 tbls:∀ b ps,H b=some (.tbl ps)->∃ more,H' b=some (.tbl (ps++more))
section
variable {fs fs' ex ex':List Addr}{H H1 H2:Hp}{h h1 h2 h':Heap}{a x e:Addr}{o:HO}
theorem Un.any (u:Un fs ex H H1 h h1) {b:Addr}{ob:Obj} (q:h.get? b=some ob) (n:H b=none) (hx:b ∉ ex):∃ sl,h1.get? b=some { ob with slots:=sl }:=by
 by_cases hb:b ∈ fs
 ·exact u.slot b ob q n hb hx
 ·exact⟨ob.slots,u.keep b ob q n hb hx⟩
theorem Un.trans (a:Un fs ex H H1 h h1) (b:Un fs ex H1 H2 h1 h2):Un fs ex H H2 h h2 where
 keep:=fun c ob q n hc hx=>b.keep c ob (a.keep c ob q n hc hx) (a.free c ob q n hx) hc hx
 slot:=fun c ob q n hc hx=>by
  obtain⟨sl,e1⟩:=a.slot c ob q n hc hx
  obtain⟨sl',e2⟩:=b.slot c _ e1 (a.free c ob q n hx) hc hx
  exact⟨sl',e2⟩
 free:=fun c ob q n hx=>by
  obtain⟨o',e1⟩:=a.there c ob q hx
  exact b.free c o' e1 (a.free c ob q n hx) hx
 there:=fun c ob q hx=>by
  obtain⟨o',e1⟩:=a.there c ob q hx
  exact b.there c o' e1 hx
 tups:=fun c xs q=>b.tups c xs (a.tups c xs q)
 frzs:=fun c ob xs q=>b.frzs c ob xs (a.frzs c ob xs q)
 tbls:=fun c ps q=>by
  obtain⟨m1,e1⟩:=a.tbls c ps q
  obtain⟨m2,e2⟩:=b.tbls c _ e1
  exact⟨m1++m2,by rw[e2,Array.append_assoc]⟩
theorem Un.kept (k:∀ b u,h.get? b=some u->h'.get? b=some u):Un fs ex H H h h' :=
 ⟨fun b ob q _ _ _=>k b ob q,fun b ob q _ _ _=>⟨ob.slots,k b ob q⟩,fun _ _ _ n _=>n,fun b ob q _=>⟨ob,k b ob q⟩,fun _ _ q=>q,fun _ _ _ q=>q,fun _ ps q=>⟨#[],by rw[q]; simp⟩⟩
theorem Un.refl:Un fs ex H H h h:=Un.kept fun _ _ q=>q
theorem Un.laid (k:∀ b u,h.get? b=some u->h'.get? b=some u) (hp:h.objs.size<=a) (hn:H a=none):Un fs ex H (upd H a o) h h' where
 keep:=fun b u q _ _ _=>k b u q
 slot:=fun b u q _ _ _=>⟨u.slots,k b u q⟩
 free:=fun b u q n _=>by rw[aA (Nat.ne_of_lt (Nat.lt_of_lt_of_le (Heap.lt_size q) hp))]; exact n
 there:=fun b u q _=>⟨u,k b u q⟩
 tups:=fun b xs q=>by rw[aA (a9 q hn)]; exact q
 frzs:=fun b u xs q=>by rw[aA (a9 q hn)]; exact q
 tbls:=fun b ps q=>⟨#[],by rw[aA (a9 q hn),q]; simp⟩
theorem Un.write (mu:Mut (H x)) (he:e=x∨H e=some (.own x)) (k:∀ b u,b≠e->h.get? b=some u->h'.get? b=some u) (heo:∃ u,h'.get? e=some u):Un fs ex H (upd H x o) h h':=by
 have hx:∀ b,H b=none->b≠x:=fun b n z=>by subst z; rw[n] at mu; exact mu
 have hb:∀ b,H b=none->b≠e:=fun b n z=>by
  subst z
  rcases he with r | r
  ·exact hx b n r
  ·rw[n] at r; cases r
 have hm:∀ b u,H b=some u->¬ Mut (some u)->b≠x:=fun b u q nm z=>by subst z; rw[q] at mu; exact nm mu
 refine⟨fun b u q n _ _=>k b u (hb b n) q,fun b u q n _ _=>⟨u.slots,k b u (hb b n) q⟩,fun b u q n _=>by rw[aA (hx b n)]; exact n,fun b u q _=>?_,
  fun b xs q=>by rw[aA (hm b _ q fun z=>z)]; exact q,fun b u xs q=>by rw[aA (hm b _ q fun z=>z)]; exact q,fun b ps q=>⟨#[],by rw[aA (hm b _ q fun z=>z),q]; simp⟩⟩
 by_cases hbe:b=e
 ·subst hbe; exact heo
 ·exact⟨u,k b u hbe q⟩
end
noncomputable def trk (h:Heap) (H:Hp):List Addr:=(List.range h.objs.size).filter fun a=>(H a).isSome
noncomputable def gZ (h:Heap) (H:Hp):Heap:=PySem.W.hideAll h (trk h H)
theorem j7 (h:Heap) (H:Hp):(gZ h H).objs.size=h.objs.size:=PySem.W.hideAll_size _ _
theorem lI {b:Addr}{o:Obj} (e:h.get? b=some o) (n:H b=none):(gZ h H).get? b=some o :=
 PySem.W.hideAll_get _ e fun hm=>by
  have q:(H b).isSome=true:=(List.mem_filter.mp hm).2
  rw[n] at q; simp at q
theorem mU {b:Addr}{o:Obj} (e:(gZ h H).get? b=some o):h.get? b=some o/\H b=none:=by
 have e':h.get? b=some o:=PySem.W.of_hideAll (trk h H) e
 refine⟨e',?_⟩
 cases q:H b with
 | none=>rfl
 | some x=>
  have hm:b ∈ trk h H:=List.mem_filter.mpr ⟨sU.mpr (Heap.lt_size e'),by simp[q]⟩
  have z:(gZ h H).get? b=none:=PySem.W.hideAll_none (trk h H) hm
  rw[z] at e; cases e
noncomputable def nE (g h:Heap) (L:Addr):List (Addr×Obj):=(List.range h.objs.size).filterMap fun a=>if a=L∨(g.get? a).isSome=true then none else(h.get? a).map fun o=>(a,o)
noncomputable def rest (g h:Heap) (L d:Addr):List (Addr×Obj):=(nE g h L).filter fun p=>decide (p.1≠d)
structure Mod (K:PySem.W.Frag) (mg:Str->Option Value) (base:Heap):Prop where
 kin:K.In base
 glob:base.Ns mainGlobals mg
 blt:∃ mb,base.Ns builtinsNs mb/\∀ x:Str,x ≠ "__name__" -> mb x=bootBuiltins x
 nolimit:base.NoLimit
structure Cx where
 prog:Program
 w:World
 K:PySem.W.Frag
 mg:Str->Option Value
 base:Heap
 A:Around
 N:List Str
 s₀:Shared
 H₀:Hp
 env:Env
 outer:List Env
 stack:List Env
 ex:List Addr
 fn:Str->Bool
 calm:Bool
 pn:List (Addr×Obj)
 xe:Value->Shared->Prop
noncomputable def frs (l:List Env):List Addr:=l.filterMap (·.frame)
noncomputable abbrev Cx.fs (X:Cx):List Addr:=frs X.outer
noncomputable def Vis (sc:Scope) (x:Str):Prop:=sc.names.lookup x=some .local∨sc.names.lookup x=some .cell∨sc.names.lookup x=some .free
noncomputable def Loc (sc:Scope) (x:Str):Prop:=sc.names.lookup x=some .local∨sc.names.lookup x=some .cell
noncomputable def Look (env:Env) (h:Heap) (m:Str->Option Value) (x:Str) (u:Value):Prop :=
 (env.kindOf x=some .local/\m x=some u)∨((env.kindOf x=some .cell∨env.kindOf x=some .free)/\∃ c,env.cells.lookup x=some c/\h.IsCell c (some u))
structure Cx.Ok (X:Cx):Prop where
 mod:Mod X.K X.mg X.base
 kind:X.env.scope.kind=.function
 glob:X.env.globals=mainGlobals
 blt:X.env.builtins=builtinsNs
 above:X.s₀.heap.objs.size<=X.env.locals
 inj:∀ x y c,X.env.cells.lookup x=some c->X.env.cells.lookup y=some c->x=y
 has:∀ x,(X.env.kindOf x=some .cell∨X.env.kindOf x=some .free)->∃ c,X.env.cells.lookup x=some c
 cab:∀ x c,X.fn x=true->X.env.cells.lookup x=some c->X.s₀.heap.objs.size<=c
 hd:X.calm=true->X.A.handled=none
 frames:X.A.frames=some X.stack
 stk:X.stack=X.outer∨(X.stack=X.env::X.outer/\X.env.frame=some X.env.locals)
 exf:∀ b ∈ X.ex,b≠X.env.locals/\∀ x c,X.env.cells.lookup x=some c->c≠b
 bs:∀ b o,X.base.get? b=some o->X.s₀.heap.get? b=some o/\X.H₀ b=none
 bsz:X.base.objs.size<=X.s₀.heap.objs.size
 noex:∀ b o,X.base.get? b=some o->b ∉ X.ex
 exfs:∀ b ∈ X.ex,b ∉ X.fs
 funs:X.s₀.heap.FunFrames X.base X.outer
 frf:∀ b ∈ X.fs,X.H₀ b=none
structure Inv (X:Cx) (pins:List (Addr×Obj)) (σ:List (Option V)) (H:Hp) (s:Shared):Prop where
 ok:X.Ok
 os:s.os=X.s₀.os
 bare:AllBare s.gens
 base:Un X.fs X.ex X.H₀ H X.s₀.heap s.heap
 loc:∃ m,s.heap.Ns X.env.locals m/\∀ (i:Nat) (x:Str) (v:V),X.N[i]?=some x->σ[i]?=some (some v)->Vis X.env.scope x->∃ u,RelV v u/\Look X.env s.heap m x u
 cell:∀ x c,X.env.cells.lookup x=some c->∃ v,s.heap.IsCell c v
 free:H X.env.locals=none
 freeC:∀ x c,X.env.cells.lookup x=some c->H c=none
 pin:∀ p ∈ X.pn++pins,s.heap.get? p.1=some p.2/\H p.1=none/\p.1≠X.env.locals/\p.1 ∉ X.fs/\∀ v,p.2.data≠.cell v
 hok:HOk X.prog X.w H s.heap
 len:σ.length=X.N.length
variable{E:Value->Shared->Prop}{A:Around}{t':Nat}
section
variable {X:Cx}{pins:List (Addr×Obj)}{σ:List (Option V)}{H H':Hp}{s:Shared}{h':Heap}
theorem Cx.Ok.nofr (ok:X.Ok) {b:Addr}{o:Obj} (e:X.base.get? b=some o):b ∉ X.fs:=fun hb=>by
 have:=(ok.funs.mem hb).1
 rw[e] at this; cases this
theorem Inv.bs (I:Inv X pins σ H s):∀ b o,X.base.get? b=some o->s.heap.get? b=some o/\H b=none:=fun b o e=>
 ⟨I.base.keep b o (I.ok.bs b o e).1 (I.ok.bs b o e).2 (I.ok.nofr e) (I.ok.noex b o e),I.base.free b o (I.ok.bs b o e).1 (I.ok.bs b o e).2 (I.ok.noex b o e)⟩
theorem Inv.bk (I:Inv X pins σ H s):∀ b o,X.base.get? b=some o->s.heap.get? b=some o:=fun b o e=>(I.bs b o e).1
theorem Inv.mod (I:Inv X pins σ H s):Mod X.K X.mg X.base:=I.ok.mod
theorem Inv.kIn (I:Inv X pins σ H s):X.K.In s.heap:=I.ok.mod.kin.keeps I.bk
theorem Inv.fr (I:Inv X pins σ H s):∃ m,Fr X.base X.env.locals s.heap m :=
 let ⟨m,hn,_⟩:=I.loc
 ⟨m,hn,I.bk,Nat.le_trans I.ok.bsz I.ok.above⟩
theorem Inv.lt (I:Inv X pins σ H s):X.env.locals<s.heap.objs.size:=let ⟨_,hn,_⟩:=I.loc; hn.lt
theorem Inv.sz (I:Inv X pins σ H s):X.s₀.heap.objs.size<=s.heap.objs.size:=Nat.le_trans I.ok.above (Nat.le_of_lt I.lt)
theorem Inv.nofs (I:Inv X pins σ H s) {a:Addr} (h:s.heap.objs.size<=a):a ∉ X.fs:=fun hb=>by
 obtain⟨_,o,ho,_⟩:=I.ok.funs.mem hb
 exact absurd (Nat.lt_of_lt_of_le (Heap.lt_size ho) (Nat.le_trans I.sz h)) (Nat.lt_irrefl _)
theorem Inv.cne (I:Inv X pins σ H s):∀ x c,X.env.cells.lookup x=some c->c≠X.env.locals:=fun x c e z=>by
 obtain⟨v,o,ho,hd⟩:=I.cell x c e
 obtain⟨m,⟨o',es,ep,ho',hd',_⟩,_⟩:=I.loc
 rw[z,ho'] at ho; cases ho; rw[hd'] at hd; cases hd
theorem Inv.funs (I:Inv X pins σ H s):s.heap.FunFrames X.base X.outer:=by
 have all:∀ (l:List Env),(∀ b ∈ frs l,b ∈ X.fs)->X.s₀.heap.FunFrames X.base l->s.heap.FunFrames X.base l:=by
  intro l
  induction l with
  | nil=>intro _ _; trivial
  | cons env r ih=>
   intro hs hl
   obtain⟨hk,⟨L,o,hf,hn,ho,hd⟩,hr⟩:=hl
   have hL:L ∈ X.fs:=hs L (by unfold frs; rw[List.filterMap_cons,hf]; exact sg)
   obtain⟨sl,e⟩:=I.base.slot L o ho (I.ok.frf L hL) hL fun z=>I.ok.exfs L z hL
   exact⟨hk,⟨L,_,hf,hn,e,hd⟩,ih (fun b hb=>hs b (by unfold frs; rw[List.filterMap_cons,hf]; exact r9 _ hb)) hr⟩
 exact all X.outer (fun _ hb=>hb) I.ok.funs
theorem Inv.stack (I:Inv X pins σ H s):s.heap.FunFrames X.base X.stack:=by
 rcases I.ok.stk with e | ⟨e,hf⟩
 ·rw[e]; exact I.funs
 ·rw[e]
  obtain⟨m,hn,_⟩:=I.loc
  refine .cons (by rw[I.ok.kind]; decide) hf hn ?_ I.funs
  exact Heap.get?_none_of_le (Nat.le_trans I.ok.bsz I.ok.above)
theorem Inv.stkSub (I:Inv X pins σ H s):∀ b ∈ frs X.stack,b ∈ X.env.locals::X.fs:=fun b hb=>by
 rcases I.ok.stk with e | ⟨e,hf⟩
 ·rw[e] at hb; exact r9 _ hb
 ·rw[e] at hb
  unfold frs at hb
  rw[List.filterMap_cons,hf] at hb
  exact hb
theorem Inv.stkFree (I:Inv X pins σ H s):∀ b ∈ frs X.stack,H b=none:=fun b hb=>by
 rcases sD.mp (I.stkSub b hb) with e | hb
 ·rw[e]; exact I.free
 ·obtain⟨_,o,ho,_⟩:=I.ok.funs.mem hb
  exact I.base.free b o ho (I.ok.frf b hb) fun z=>I.ok.exfs b z hb
theorem Inv.step {g':Array GenState}{t':Nat}{d':Drawn}{ch:List Addr} (I:Inv X pins σ H s)
  (hch:∀ b ∈ ch,(b ∈ X.ex∨X.s₀.heap.objs.size<=b)/\b≠X.env.locals/\(∀ x c,X.env.cells.lookup x=some c->c≠b)/\∀ p ∈ X.pn++pins,p.1≠b)
  (keep:∀ b o,b≠X.env.locals->b ∉ X.fs->b ∉ ch->s.heap.get? b=some o->H b=none->h'.get? b=some o)
  (slot:∀ b o,b≠X.env.locals->b ∈ X.fs->b ∉ ch->s.heap.get? b=some o->H b=none->∃ sl,h'.get? b=some { o with slots:=sl }) (free:∀ b o,b ∉ ch->s.heap.get? b=some o->H b=none->H' b=none)
  (there:∀ b o,b ∉ ch->s.heap.get? b=some o->∃ o',h'.get? b=some o')
  (tups:∀ b xs,H b=some (.tup xs)->H' b=some (.tup xs)) (frzs:∀ b o u,H b=some (.frz o u)->H' b=some (.frz o u)) (tbls:∀ b ps,H b=some (.tbl ps)->∃ more,H' b=some (.tbl (ps++more)))
  (ns:∀ m,s.heap.Ns X.env.locals m->h'.Ns X.env.locals m) (hok:HOk X.prog X.w H' h') (hg:AllBare g') :
  Inv X pins σ H' { s with heap:=h',gens:=g',drawn:=d',toks:=t' }:=by
 have neL:∀ b o,X.s₀.heap.get? b=some o->b≠X.env.locals:=fun b o e=>Nat.ne_of_lt (Nat.lt_of_lt_of_le (Heap.lt_size e) I.ok.above)
 have neC:∀ b o,X.s₀.heap.get? b=some o->b ∉ X.ex->b ∉ ch:=fun b o e hx hb=>by
  rcases (hch b hb).1 with z | z
  ·exact hx z
  ·exact absurd (Nat.lt_of_lt_of_le (Heap.lt_size e) z) (Nat.lt_irrefl _)
 have cellK:∀ x c,X.env.cells.lookup x=some c->∀ v,s.heap.IsCell c v->h'.IsCell c v:=fun x c e v ⟨o,ho,hd⟩=>by
  have nch:c ∉ ch:=fun z=>(hch c z).2.2.1 x c e rfl
  by_cases hc:c ∈ X.fs
  ·obtain⟨sl,q⟩:=slot c o (I.cne x c e) hc nch ho (I.freeC x c e)
   exact⟨_,q,hd⟩
  ·exact⟨o,keep c o (I.cne x c e) hc nch ho (I.freeC x c e),hd⟩
 refine⟨I.ok,I.os,hg,⟨fun b o e n hb hx=>?_,fun b o e n hb hx=>?_,fun b o e n hx=>?_,fun b o e hx=>?_,fun b xs e=>tups b xs (I.base.tups b xs e),fun b o xs e=>frzs b o xs (I.base.frzs b o xs e),fun b ps e=>?_⟩,?_,fun x c e=>?_,?_,fun x c e=>?_,fun p hp=>?_,hok,I.len⟩
 ·exact keep b o (neL b o e) hb (neC b o e hx) (I.base.keep b o e n hb hx) (I.base.free b o e n hx)
 ·obtain⟨sl,e1⟩:=I.base.slot b o e n hb hx
  obtain⟨sl',e2⟩:=slot b _ (neL b o e) hb (neC b o e hx) e1 (I.base.free b o e n hx)
  exact⟨sl',e2⟩
 ·obtain⟨o',e1⟩:=I.base.there b o e hx
  exact free b o' (neC b o e hx) e1 (I.base.free b o e n hx)
 ·obtain⟨o',e1⟩:=I.base.there b o e hx
  exact there b o' (neC b o e hx) e1
 ·obtain⟨m1,e1⟩:=I.base.tbls b ps e
  obtain⟨m2,e2⟩:=tbls b _ e1
  exact⟨m1++m2,by rw[e2,Array.append_assoc]⟩
 ·obtain⟨m,hn,hl⟩:=I.loc
  refine⟨m,ns m hn,fun i x v e1 e2 e3=>?_⟩
  obtain⟨u,r,l⟩:=hl i x v e1 e2 e3
  refine⟨u,r,?_⟩
  rcases l with l | ⟨k,c,e,z⟩
  ·exact .inl l
  ·exact .inr ⟨k,c,e,cellK x c e _ z⟩
 ·obtain⟨v,z⟩:=I.cell x c e
  exact⟨v,cellK x c e v z⟩
 ·obtain⟨m,⟨o,_,_,ho,_⟩,_⟩:=I.loc
  exact free _ o (fun z=>(hch _ z).2.1 rfl) ho I.free
 ·obtain⟨v,o,ho,hd⟩:=I.cell x c e
  exact free c o (fun z=>(hch c z).2.2.1 x c e rfl) ho (I.freeC x c e)
 ·obtain⟨e,n,ne,nf,d⟩:=I.pin p hp
  have nch:p.1 ∉ ch:=fun z=>(hch p.1 z).2.2.2 p hp rfl
  exact⟨keep p.1 p.2 ne nf nch e n,free p.1 p.2 nch e n,ne,nf,d⟩
theorem Inv.un (I:Inv X pins σ H s) (u:Un X.fs [] H H' s.heap h') (hok:HOk X.prog X.w H' h'):Inv X pins σ H' { s with heap:=h',toks:=t' }:=by
 obtain⟨m,⟨o,es,ep,ho,r⟩,_⟩:=id I.loc
 obtain⟨sl,hL⟩:=u.any ho I.free (by simp)
 exact I.step (g':=s.gens) (d':=s.drawn) (ch:=[]) (fun _ z=>nomatch z) (fun b o _ hb _ e n=>u.keep b o e n hb (by simp)) (fun b o _ hb _ e n=>u.slot b o e n hb (by simp)) (fun b o _ e n=>u.free b o e n (by simp)) (fun b o _ e=>u.there b o e (by simp)) u.tups u.frzs u.tbls (fun m' hm=>by
  obtain⟨o',es',ep',ho',r'⟩:=hm
  rw[ho] at ho'; cases ho'
  exact⟨_,es',ep',hL,r'⟩) hok I.bare
theorem Inv.call {g':Array GenState}{d':Drawn}{ch:List Addr} (I:Inv X pins σ H s) (u:Un (frs X.stack) ch H H' s.heap h') (hok:HOk X.prog X.w H' h') (hg:AllBare g')
  (hch:∀ b ∈ ch,(b ∈ X.ex∨X.s₀.heap.objs.size<=b)/\b≠X.env.locals/\(∀ x c,X.env.cells.lookup x=some c->c≠b)/\∀ p ∈ X.pn++pins,p.1≠b) :
  Inv X pins σ H' { s with heap:=h',gens:=g',drawn:=d',toks:=t' }:=by
 obtain⟨m,⟨o,es,ep,ho,r⟩,_⟩:=id I.loc
 obtain⟨sl,hL⟩:=u.any ho I.free fun z=>(hch _ z).2.1 rfl
 exact I.step (ch:=ch) hch (fun b o hL hb hc e n=>u.keep b o e n (fun z=>(sD.mp (I.stkSub b z)).elim hL hb) hc) (fun b o _ _ hc e n=>u.any e n hc) (fun b o hc e n=>u.free b o e n hc) (fun b o hc e=>u.there b o e hc) u.tups u.frzs u.tbls (fun m' hm=>by
  obtain⟨o',es',ep',ho',r'⟩:=hm
  rw[ho] at ho'; cases ho'
  exact⟨_,es',ep',hL,r'⟩) hok hg
theorem Inv.turned {it:Addr} (I:Inv X pins σ H s) (k:∀ b o,b≠it->s.heap.get? b=some o->h'.get? b=some o) (hn:H it=none) (hL:it≠X.env.locals)
  (h1:it ∈ X.ex∨X.s₀.heap.objs.size<=it) (h2:∀ x c,X.env.cells.lookup x=some c->c≠it) (h3:∀ p ∈ X.pn++pins,p.1≠it):Inv X pins σ H { s with heap:=h',toks:=t' }:=by
 have nit:∀ b u,H b=some u->b≠it:=fun b u e z=>by rw[z,hn] at e; cases e
 refine I.step (g':=s.gens) (d':=s.drawn) (ch:=[it]) (fun b hb=>?_) (fun b o _ _ hc e _=>k b o (fun z=>hc (by simp[z])) e) (fun b o _ _ hc e _=>⟨o.slots,k b o (fun z=>hc (by simp[z])) e⟩) (fun _ _ _ _ n=>n)
  (fun b o hc e=>⟨o,k b o (fun z=>hc (by simp[z])) e⟩) (fun _ _ e=>e) (fun _ _ _ e=>e) (fun b ps e=>⟨#[],by rw[e]; simp⟩) (fun m hm=>?_) (fun b u e=>?_) I.bare
 ·have e:b=it:=by simpa using hb
  subst e
  exact⟨h1,hL,h2,h3⟩
 ·obtain⟨o,es,ep,ho,r⟩:=hm
  exact⟨o,es,ep,k _ o (Ne.symm hL) ho,r⟩
 ·refine(I.hok b u e).stay (fun c v hc q=>k c v ?_ q) (fun _ q=>q) fun _ _ q=>q
  rcases hc with z | z
  ·rw[z]; exact nit b u e
  ·exact nit c _ z
theorem Inv.tok (I:Inv X pins σ H s) (t:Nat):Inv X pins σ H { s with toks:=t }:=I.un (h':=s.heap) (t':=t) Un.refl I.hok
theorem Inv.kept (I:Inv X pins σ H s) (k:∀ b u,s.heap.get? b=some u->h'.get? b=some u):Inv X pins σ H { s with heap:=h',toks:=t' }:=I.un (Un.kept k) (I.hok.kept k)
theorem Inv.laid {a:Addr}{o:HO} (I:Inv X pins σ H s) (k:∀ b u,s.heap.get? b=some u->h'.get? b=some u) (hp:s.heap.objs.size<=a) (new:ObjOk X.prog X.w (upd H a o) h' a o) :
  Inv X pins σ (upd H a o) { s with heap:=h',toks:=t' }:=I.un (Un.laid k hp (I.hok.fresh hp)) (I.hok.laid k hp new)
theorem Inv.write {x e:Addr}{o:HO} (I:Inv X pins σ H s) (mu:Mut (H x)) (he:e=x∨H e=some (.own x)) (k:∀ b u,b≠e->s.heap.get? b=some u->h'.get? b=some u) (heo:∃ u,h'.get? e=some u)
  (new:ObjOk X.prog X.w (upd H x o) h' x o):Inv X pins σ (upd H x o) { s with heap:=h',toks:=t' }:=I.un (Un.write mu he k heo) (I.hok.write mu he k heo new)
theorem Inv.weak {σ':List (Option V)} (I:Inv X pins σ H s) (hl:σ'.length=σ.length) (w:∀ (i:Nat) v,σ'[i]?=some (some v)->σ[i]?=some (some v)):Inv X pins σ' H s :=
 ⟨I.ok,I.os,I.bare,I.base,let ⟨m,hn,hl'⟩:=I.loc; ⟨m,hn,fun i x v e1 e2 e3=>hl' i x v e1 (w i v e2) e3⟩,I.cell,I.free,I.freeC,I.pin,I.hok,hl.trans I.len⟩
theorem Inv.pins_of {pins':List (Addr×Obj)} (I:Inv X pins σ H s) (h:∀ p ∈ pins',s.heap.get? p.1=some p.2/\H p.1=none/\p.1≠X.env.locals/\p.1 ∉ X.fs/\∀ v,p.2.data≠.cell v):Inv X pins' σ H s :=
 ⟨I.ok,I.os,I.bare,I.base,I.loc,I.cell,I.free,I.freeC,fun p hp=>(sC.mp hp).elim (fun z=>I.pin p (sk _ z)) (h p),I.hok,I.len⟩
theorem iw {N:List Str} (hN:N.Nodup) {i j:Nat}{x:Str} (a:N[i]?=some x) (b:N[j]?=some x):i=j:=by
 obtain⟨h1,e1⟩:=List.getElem?_eq_some_iff.mp a
 obtain⟨h2,e2⟩:=List.getElem?_eq_some_iff.mp b
 exact(List.getElem_inj hN).mp (e1.trans e2.symm)
theorem jK {M:Model}{i:Nat}{x:Str}{v:V}{u:Value}{Q:Unit->Shared->Prop} (I:Inv X pins σ H s) (hN:X.N.Nodup) (hi:X.N[i]?=some x) (hx:Loc X.env.scope x) (r:RelV v u)
  (h:∀ s',Inv X pins (σ.set i (some v)) H s'->(∃ a,Heap.SameBut a s.heap s'.heap/\(a=X.env.locals∨X.env.cells.lookup x=some a))->Q () s') (hf:X.fn x=true∨X.env.scope.names.lookup x=some .local:=by first | exact .inl rfl | exact .inr rfl | assumption):wpAny M A (storeName X.env x u) Q E s:=by
 obtain⟨m,hn,hl⟩:=id I.loc
 have hcls:(X.env.scope.kind == .class || (X.env.scope.kind == .module && X.env.locals != X.env.globals)) = false:=by rw [I.ok.kind]; rfl
 have hiσ:i<σ.length:=by rw[I.len]; exact(List.getElem?_eq_some_iff.mp hi).1
 have cne:=I.cne
 have tracked:∀ {a:Addr}{h':Heap},(∃ o,s.heap.get? a=some o/\H a=none)->Heap.SameBut a s.heap h'->HOk X.prog X.w H h':=fun {a h'} ha hs b ob e=>by
  obtain⟨_,_,hfree⟩:=ha
  refine(I.hok b ob e).stay (fun c w' hc q=>(hs.2 c ?_).trans q) (fun _ q=>q) fun _ _ q=>q
  rintro rfl
  rcases hc with rfl | hc
  ·rw[hfree] at e; cases e
  ·rw[hfree] at hc; cases hc
 rcases hx with hk | hk
 ·refine wpAny_storeName_local hk hn (fun h' hn' hs=>?_) hcls
  obtain⟨oL,_,_,hoL,_⟩:=id hn
  refine h _ ⟨I.ok,I.os,I.bare,⟨fun b o e n hb hx=>?_,fun b o e n hb hx=>?_,I.base.free,fun b o e hx=>?_,I.base.tups,I.base.frzs,I.base.tbls⟩,⟨_,hn',fun j y v' e1 e2 e3=>?_⟩,fun y c e=>?_,I.free,I.freeC,fun p hp=>?_,tracked ⟨oL,hoL,I.free⟩ hs,by simpa using I.len⟩ ⟨_,hs,.inl rfl⟩
  ·exact(hs.2 b (Nat.ne_of_lt (Nat.lt_of_lt_of_le (Heap.lt_size e) I.ok.above))).trans (I.base.keep b o e n hb hx)
  ·obtain⟨sl,e1⟩:=I.base.slot b o e n hb hx
   exact⟨sl,(hs.2 b (Nat.ne_of_lt (Nat.lt_of_lt_of_le (Heap.lt_size e) I.ok.above))).trans e1⟩
  ·obtain⟨o',e1⟩:=I.base.there b o e hx
   exact⟨o',(hs.2 b (Nat.ne_of_lt (Nat.lt_of_lt_of_le (Heap.lt_size e) I.ok.above))).trans e1⟩
  ·by_cases hj:j=i
   ·subst hj
    rw[hi] at e1; cases e1
    rw[List.getElem?_set_self hiσ] at e2
    cases e2
    exact⟨u,r,.inl ⟨hk,by simp⟩⟩
   ·rw[List.getElem?_set_ne (Ne.symm hj)] at e2
    obtain⟨u',r',q⟩:=hl j y v' e1 e2 e3
    refine⟨u',r',?_⟩
    rcases q with ⟨k,e⟩ | ⟨k,c,e,z⟩
    ·refine .inl ⟨k,?_⟩
     have:y≠x:=fun e=>hj (iw hN e1 (e ▸ hi))
     simp[this,e]
    ·exact .inr ⟨k,c,e,z.sameBut hs (cne y c e)⟩
  ·obtain⟨w',z⟩:=I.cell y c e
   exact⟨w',z.sameBut hs (cne y c e)⟩
  ·obtain⟨e,n,ne,nf,d⟩:=I.pin p hp
   exact⟨(hs.2 p.1 ne).trans e,n,ne,nf,d⟩
 ·have hfn:X.fn x=true:=by
   rcases hf with z | z
   ·exact z
   ·rw[z] at hk; cases hk
  obtain⟨c,hc⟩:=I.ok.has x (.inl hk)
  obtain⟨w',z⟩:=I.cell x c hc
  refine wpAny_storeName_cell I.ok.kind hk hc z (fun h' hc' hs=>?_)
  obtain⟨oc,hoc,hocd⟩:=id z
  refine h { s with heap:=h' } ⟨I.ok,I.os,I.bare,⟨fun b o e n hb hx=>?_,fun b o e n hb hx=>?_,I.base.free,fun b o e hx=>?_,I.base.tups,I.base.frzs,I.base.tbls⟩,⟨m,hn.sameBut hs (Ne.symm (cne x c hc)),fun j y v' e1 e2 e3=>?_⟩,fun y c' e=>?_,I.free,I.freeC,fun p hp=>?_,tracked ⟨oc,hoc,I.freeC x c hc⟩ hs,by simpa using I.len⟩ ⟨c,hs,.inr hc⟩
  ·exact(hs.2 b (Nat.ne_of_lt (Nat.lt_of_lt_of_le (Heap.lt_size e) (I.ok.cab x c hfn hc)))).trans (I.base.keep b o e n hb hx)
  ·obtain⟨sl,e1⟩:=I.base.slot b o e n hb hx
   exact⟨sl,(hs.2 b (Nat.ne_of_lt (Nat.lt_of_lt_of_le (Heap.lt_size e) (I.ok.cab x c hfn hc)))).trans e1⟩
  ·obtain⟨o',e1⟩:=I.base.there b o e hx
   exact⟨o',(hs.2 b (Nat.ne_of_lt (Nat.lt_of_lt_of_le (Heap.lt_size e) (I.ok.cab x c hfn hc)))).trans e1⟩
  ·by_cases hj:j=i
   ·subst hj
    rw[hi] at e1; cases e1
    rw[List.getElem?_set_self hiσ] at e2
    cases e2
    exact⟨u,r,.inr ⟨.inl hk,c,hc,hc'⟩⟩
   ·rw[List.getElem?_set_ne (Ne.symm hj)] at e2
    obtain⟨u',r',q⟩:=hl j y v' e1 e2 e3
    refine⟨u',r',?_⟩
    rcases q with q | ⟨k,c',e,z'⟩
    ·exact .inl q
    ·refine .inr ⟨k,c',e,z'.sameBut hs ?_⟩
     rintro rfl
     exact hj (iw hN e1 (I.ok.inj _ _ _ e hc ▸ hi))
  ·by_cases hcc:c'=c
   ·subst hcc; exact⟨_,hc'⟩
   ·obtain⟨w2,z2⟩:=I.cell y c' e
    exact⟨w2,z2.sameBut hs hcc⟩
  ·obtain⟨e,n,ne,nf,d⟩:=I.pin p hp
   refine⟨(hs.2 p.1 ?_).trans e,n,ne,nf,d⟩
   intro q
   rw[q,hoc] at e
   have q':oc=p.2:=Option.some.inj e
   exact d w' (by rw[<- q']; exact hocd)
theorem eK {M:Model}{i:Nat}{x:Str}{v:V}{u:Value}{Q:Unit->Shared->Prop} (I:Inv X pins σ H s) (hN:X.N.Nodup) (hi:X.N[i]?=some x) (hx:Loc X.env.scope x) (r:RelV v u)
  (h:∀ s',Inv X pins (σ.set i (some v)) H s'->Q () s') (hf:X.fn x=true∨X.env.scope.names.lookup x=some .local:=by first | exact .inl rfl | exact .inr rfl | assumption):wpAny M A (storeName X.env x u) Q E s :=
 jK I hN hi hx r (fun s' I' _=>h s' I') hf
theorem Inv.call' {s':Shared}{ch:List Addr} (I:Inv X pins σ H s) (ho:s'.os=s.os) (u:Un (frs X.stack) ch H H' s.heap s'.heap) (hok:HOk X.prog X.w H' s'.heap) (hg:AllBare s'.gens)
  (hch:∀ b ∈ ch,(b ∈ X.ex∨X.s₀.heap.objs.size<=b)/\b≠X.env.locals/\(∀ x c,X.env.cells.lookup x=some c->c≠b)/\∀ p ∈ X.pn++pins,p.1≠b):Inv X pins σ H' s':=by
 obtain⟨h',g',d',t',o'⟩:=s'
 have e:o'=s.os:=ho
 subst e
 exact I.call (g':=g') (t':=t') (d':=d') u hok hg hch
end
noncomputable abbrev XK:=Value->Option Addr->Hp->Prop
noncomputable abbrev St:=List (Option V)
noncomputable abbrev VK:=V->Hp->Prop
noncomputable abbrev TE:=St->Hp->VK->Prop
noncomputable abbrev TT:=St->Hp->(Bool->Hp->Prop)->Prop
noncomputable abbrev TA:=St->Hp->(List V->Hp->Prop)->Prop
structure Ends where
 nx:St->Hp->Prop
 rt:VK
 bk:St->Hp->Prop:=fun _ _=>False
 ct:St->Hp->Prop:=fun _ _=>False
noncomputable abbrev TS:=Ends->St->Hp->Prop
noncomputable def EP (X:Cx) (pins:List (Addr×Obj)) (σ:St) (Q:VK) (u:Value) (s':Shared):Prop:=∃ v H',Inv X pins σ H' s'/\RelV v u/\Q v H'
noncomputable def TP (X:Cx) (pins:List (Addr×Obj)) (σ:St) (Q:Bool->Hp->Prop) (b:Bool) (s':Shared):Prop:=∃ H',Inv X pins σ H' s'/\Q b H'
noncomputable def AP (X:Cx) (pins:List (Addr×Obj)) (σ:St) (Q:List V->Hp->Prop) (us:List Value) (s':Shared):Prop:=∃ vs H',Inv X pins σ H' s'/\Vals vs us/\Q vs H'
noncomputable def SP (X:Cx) (pins:List (Addr×Obj)) (D:Ends) (f:Flow) (s':Shared):Prop :=
 match f with
 | .next=>∃ σ' H',Inv X pins σ' H' s'/\D.nx σ' H'
 | .brk=>∃ σ' H',Inv X pins σ' H' s'/\D.bk σ' H'
 | .cont=>∃ σ' H',Inv X pins σ' H' s'/\D.ct σ' H'
 | .ret u=>∃ v σ' H',Inv X pins σ' H' s'/\RelV v u/\D.rt v H'
noncomputable def PE (X:Cx) (e:Expr) (t:TE):Prop :=
 ∀ (pins:List (Addr×Obj)) (s:Shared) (σ:St) (H:Hp) (Q:VK),Inv X pins σ H s->t σ H Q->wpAny (model X.prog X.w) X.A (eval e X.env) (EP X pins σ Q) X.xe s
noncomputable def PT (X:Cx) (e:Expr) (t:TT):Prop :=
 ∀ (pins:List (Addr×Obj)) (s:Shared) (σ:St) (H:Hp) (Q:Bool->Hp->Prop),Inv X pins σ H s->t σ H Q->wpAny (model X.prog X.w) X.A (isTrue e X.env (eval e X.env)) (TP X pins σ Q) X.xe s
noncomputable def PW (X:Cx) (e:Expr) (t:TT):Prop :=
 ∀ (whole:Sem Value) (pins:List (Addr×Obj)) (s:Shared) (σ:St) (H:Hp) (Q:Bool->Hp->Prop),Inv X pins σ H s->t σ H Q->wpAny (model X.prog X.w) X.A (isTrue e X.env whole) (TP X pins σ Q) X.xe s
variable{e:Expr}
theorem PW.pt {X:Cx}{t:TT} (h:PW X e t):PT X e t:=h _
noncomputable def PA (X:Cx) (es:List Expr) (t:TA):Prop :=
 ∀ (pos:Pos) (pins:List (Addr×Obj)) (s:Shared) (σ:St) (H:Hp) (Q:List V->Hp->Prop),Inv X pins σ H s->t σ H Q->wpAny (model X.prog X.w) X.A (spliced (backTo pos (starEach es X.env))) (AP X pins σ Q) X.xe s
noncomputable def PS (X:Cx) (st:Stmt) (t:TS):Prop :=
 ∀ (pins:List (Addr×Obj)) (s:Shared) (σ:St) (H:Hp) (D:Ends),Inv X pins σ H s->t D σ H->wpAny (model X.prog X.w) X.A (exec st X.env) (SP X pins D) X.xe s
noncomputable def PSs (X:Cx) (st:List Stmt) (t:TS):Prop :=
 ∀ (pins:List (Addr×Obj)) (s:Shared) (σ:St) (H:Hp) (D:Ends),Inv X pins σ H s->t D σ H->wpAny (model X.prog X.w) X.A (execs st X.env) (SP X pins D) X.xe s
variable{s:Shared}
theorem thn {α:Type}{t:Sem α}{Q Q':α->Shared->Prop}{M:Model} (h:wpAny M A t Q E s) (hQ:∀ a s,Q a s->Q' a s):wpAny M A t Q' E s:=wpAny_mono h hQ fun _ _ x=>x
variable{pins:List (Addr×Obj)}{Q:Value->Shared->Prop}{σ:St}{pos:Pos}
section
variable {X:Cx}
inductive TV_ (i:Nat) (σ:St) (H:Hp) (Q:VK):Prop
 | mk (v:V) (h:σ[i]?=some (some v)) (q:Q v H):TV_ i σ H Q
noncomputable def mC (i:Nat):TE:=fun σ H Q=>TV_ i σ H Q
noncomputable def tC (v:V):TE:=fun _ H Q=>Q v H
theorem pN {i:Nat}{x:Str} (hN:X.N[i]?=some x) (hv:Vis X.env.scope x) (hd:(x == ("__debug__" : Str))=false:=by decide) (hcd:(x == ("__classdict__" : Str))=false:=by decide):PE X (.Name x pos) (mC i):=by
 intro pins s σ H Q I h
 obtain⟨v,e,h⟩:=h
 obtain⟨m,hn,hl⟩:=I.loc
 obtain⟨u,r,l⟩:=hl i x v hN e hv
 have fin:EP X pins σ Q u s:=⟨v,H,I,r,h⟩
 rcases l with ⟨hk,hm⟩ | ⟨hk,c,hc,hcell⟩
 ·exact wpAny_Name (wpAny_loadName_local I.ok.kind hk hn hm fin) hd
 ·rcases hk with hk | hk
  ·exact wpAny_Name (wpAny_loadName_cell I.ok.kind hk hc hcell fin) hd
  ·exact wpAny_Name (wpAny_loadName_free I.ok.kind hk hc hcell fin hcd) hd
theorem am {i j pos}:PE X (.Constant (.int i) j pos) (tC (.int i)):=fun _ _ _ H _ I h=>wpAny_Constant_int ⟨.int i,H,I.tok _,⟨_,U⟩,h⟩
theorem oH {b j pos}:PE X (.Constant (.bool b) j pos) (tC (.bl b)):=fun _ _ _ H _ I h=>Constant_bool ⟨.bl b,H,I,U,h⟩
theorem bq {j pos}:PE X (.Constant .none j pos) (tC .non):=fun _ _ _ H _ I h=>Constant_none ⟨.non,H,I,U,h⟩
theorem aL {x j pos}:PE X (.Constant (.str x) j pos) (tC (.str x)):=fun _ _ _ H _ I h=>Calls.Constant_str ⟨.str x,H,I.tok _,⟨_,U⟩,h⟩
noncomputable def Gl (X:Cx) (x:Str):Prop:=X.env.kindOf x=some .globalImplicit
theorem d7 {x:Str}{u:Value} (I:Inv X pins σ H s) (hg:Gl X x) (hm:X.mg x=some u) (h:Q u s)
  (hd:(x == ("__debug__" : Str))=false:=by decide):wpAny (model X.prog X.w) X.A (eval (.Name x pos) X.env) Q E s :=
 Calls.Name_function_global I.ok.kind hg (Calls.loadGlobal_global (by rw[I.ok.glob]; exact I.mod.glob.keeps I.bk) hm h) hd
theorem cS {x:Str}{u:Value} (I:Inv X pins σ H s) (hg:Gl X x) (hm:X.mg x=none) (hv:bootBuiltins x=some u) (h:Q u s)
  (hn:x ≠ "__name__":=by decide) (hd:(x == ("__debug__" : Str))=false:=by decide):wpAny (model X.prog X.w) X.A (eval (.Name x pos) X.env) Q E s:=by
 obtain⟨mb,h1,h2⟩:=I.mod.blt
 exact Calls.Name_function_global I.ok.kind hg (Calls.loadGlobal_builtin (by rw[I.ok.glob]; exact I.mod.glob.keeps I.bk) hm (by rw[I.ok.blt]; exact h1.keeps I.bk) ((h2 x hn).trans hv) h) hd
theorem bG {x:Str}{v:V}{u:Value} (hg:Gl X x) (hm:X.mg x=some u) (r:RelV v u) (hd:(x == ("__debug__" : Str))=false:=by decide):PE X (.Name x pos) (tC v) :=
 fun _ _ _ H _ I h=>d7 I hg hm ⟨v,H,I,r,h⟩ hd
theorem gU {x:Str}{v:V}{u:Value} (hg:Gl X x) (hm:X.mg x=none) (hv:bootBuiltins x=some u) (r:RelV v u) (hn:x ≠ "__name__":=by decide) (hd:(x == ("__debug__" : Str))=false:=by decide):PE X (.Name x pos) (tC v) :=
 fun _ _ _ H _ I h=>cS I hg hm hv ⟨v,H,I,r,h⟩ hn hd
variable {a b:Expr}{ta tb:TE}{pos:Pos}
noncomputable def PC (X:Cx) (op:CmpOp) (a b:Expr) (t:TE):Prop :=
 ∀ (pins:List (Addr×Obj)) (s:Shared) (σ:St) (H:Hp) (Q:VK),Inv X pins σ H s->t σ H Q ->
  wpAny (model X.prog X.w) X.A (eval a X.env) (fun v s₁=>wpAny (model X.prog X.w) X.A (eval b X.env) (fun u s₂=>wpAny (model X.prog X.w) X.A (compareOp op v u) (EP X pins σ Q) X.xe s₂) X.xe s₁) X.xe s
inductive TB_ (Q:Bool->Hp->Prop) (x:V) (H:Hp):Prop
 | mk (k:Bool) (h:x=.bl k) (q:Q k H):TB_ Q x H
noncomputable def tB (t:TE):TT:=fun σ H Q=>t σ H (TB_ Q)
theorem gN {op:CmpOp}{t:TE} (h:PC X op a b t) (h1:behindInMarks op b=false:=by first | exact nobehind _ (by decide) (by decide) | rfl):PT X (.Compare a [op] [b] pos) (tB t):=by
 intro pins s σ H Q I hw
 refine wpAny_isTrue_Compare1 (thn (h pins s σ H _ I hw) fun v s1 h1=>thn h1 fun u s2 h2=>thn h2 fun c s3 ⟨x,H1,I1,r1,q1⟩=>?_) h1
 obtain⟨d,rfl,q⟩:=q1
 cases r1
 exact wpAny_truthy_bool ⟨H1,I1,q⟩
theorem eU {t:TE} (h:PE X e t) (he:∀ whole,isTrue e X.env whole=(do let v <- whole; standAt e.pos; holding [v] (truthy v)):=by intro _; rfl):PT X e (tB t):=by
 intro pins s σ H Q I hw
 refine isTrue_plain (thn (h pins s σ H _ I hw) fun v s1 ⟨x,H1,I1,r1,q1⟩=>?_) (he _)
 obtain⟨d,rfl,q⟩:=q1
 cases r1
 exact wpAny_truthy_bool ⟨H1,I1,q⟩
variable {tA tB':TT}{rest:List Expr}
noncomputable def tAnd (t u:TT):TT:=fun σ H Q=>t σ H fun c H1=>if c=true then u σ H1 Q else Q false H1
noncomputable def tOr (t u:TT):TT:=fun σ H Q=>t σ H fun c H1=>if c=true then Q true H1 else u σ H1 Q
noncomputable def tNot (t:TT):TT:=fun σ H Q=>t σ H fun c H1=>Q (!c) H1
theorem gM (ha:PT X a tA):PW X (.BoolOp .And [a] pos) tA:=by
 intro wh pins s σ H Q I h
 refine isTrue_and (thn (ha pins s σ H Q I h) fun c s1 e=>?_)
 cases c with
 | true=>exact isTrue_and_nil e
 | false=>exact e
theorem bQ (ha:PT X a tA):PW X (.BoolOp .Or [a] pos) tA:=by
 intro wh pins s σ H Q I h
 refine isTrue_or (thn (ha pins s σ H Q I h) fun c s1 e=>?_)
 cases c with
 | false=>exact isTrue_or_nil e
 | true=>exact e
theorem iR (ha:PT X a tA) (hb:PW X (.BoolOp .And (b::rest) pos) tB'):PW X (.BoolOp .And (a::b::rest) pos) (tAnd tA tB'):=by
 intro wh pins s σ H Q I h
 refine isTrue_and (thn (ha pins s σ H _ I h) fun c s1 ⟨H1,I1,q1⟩=>?_)
 cases c with
 | true=>exact hb wh pins s1 σ H1 Q I1 q1
 | false=>exact⟨H1,I1,q1⟩
theorem cP (ha:PT X a tA) (hb:PW X (.BoolOp .Or (b::rest) pos) tB'):PW X (.BoolOp .Or (a::b::rest) pos) (tOr tA tB'):=by
 intro wh pins s σ H Q I h
 refine isTrue_or (thn (ha pins s σ H _ I h) fun c s1 ⟨H1,I1,q1⟩=>?_)
 cases c with
 | true=>exact⟨H1,I1,q1⟩
 | false=>exact hb wh pins s1 σ H1 Q I1 q1
theorem eZ (ha:PT X a tA):PT X (.UnaryOp .Not a pos) (tNot tA):=by
 intro pins s σ H Q I h
 exact isTrue_not (ha pins s σ H (fun c H1=>Q (!c) H1) I h)
noncomputable def tAndV (ta tb:TE):TE:=fun σ H Q=>ta σ H fun x H1=>∃ c,x=.bl c/\if c=true then tb σ H1 Q else Q (.bl false) H1
noncomputable def tNotV (ta:TE):TE:=fun σ H Q=>ta σ H fun x H1=>∃ c,x=.bl c/\Q (.bl (!c)) H1
theorem kZ {op} {t:TE} (h:PE X a t):PE X (.BoolOp op [a] pos) t:=fun pins s σ H Q I hw=>BoolOp_one (h pins s σ H Q I hw)
theorem k8 (ha:PE X a ta) (hb:PE X (.BoolOp .And (b::rest) pos) tb):PE X (.BoolOp .And (a::b::rest) pos) (tAndV ta tb):=by
 intro pins s σ H Q I h
 refine BoolOp_and (thn (ha pins s σ H _ I h) fun v s1 ⟨x,H1,I1,r1,q1⟩=>?_)
 obtain⟨c,rfl,q1⟩:=q1
 cases r1
 refine wpAny_truthy_bool ?_
 cases c with
 | true=>exact hb pins s1 σ H1 Q I1 q1
 | false=>exact⟨.bl false,H1,I1,U,q1⟩
theorem pO (ha:PE X a ta):PE X (.UnaryOp .Not a pos) (tNotV ta):=by
 intro pins s σ H Q I h
 refine UnaryOp_ (thn (ha pins s σ H _ I h) fun v s1 ⟨x,H1,I1,r1,q1⟩=>?_)
 obtain⟨c,rfl,q1⟩:=q1
 cases r1
 exact not_of (wpAny_truthy_bool ⟨.bl (!c),H1,I1,U,q1⟩)
noncomputable def tIf (t:TT) (ta tb:TE):TE:=fun σ H Q=>t σ H fun c H1=>if c=true then ta σ H1 Q else tb σ H1 Q
theorem cy {c:Expr} (hc:PT X c tA) (ha:PE X a ta) (hb:PE X b tb):PE X (.IfExp c a b pos) (tIf tA ta tb):=by
 intro pins s σ H Q I h
 refine wpAny_IfExp (thn (hc pins s σ H _ I h) fun d s1 ⟨H1,I1,q1⟩=>?_)
 cases d with
 | true=>exact ha pins s1 σ H1 Q I1 q1
 | false=>exact hb pins s1 σ H1 Q I1 q1
end
noncomputable def SqL (K:PySem.W.Frag) (H:Hp) (a:Addr) (xs:List V):Prop :=
 Rd H a (.lst xs) ∨
  ∃ (o:Obj) (its:Array Value) (n:Nat),K.lookup a=some o/\o.cls=.type "list" /\ o.dict=none/\o.data=.seq its n/\its.size<=sizeLine/\Vals xs its.toList
noncomputable def SqT (K:PySem.W.Frag) (H:Hp) (a:Addr) (xs:List V):Prop :=
 Rd H a (.tup xs) ∨
  ∃ (o:Obj) (its:Array Value) (n:Nat),K.lookup a=some o/\o.cls=.type "tuple" /\ o.data=.seq its n/\its.size<=sizeLine/\Vals xs its.toList
noncomputable def absV:Value->Option V
 | .none=>some .non
 | .bool b=>some (.bl b)
 | .int i _=>some (.int i)
 | .str x _=>some (.str x)
 | .bytes b _=>some (.byt b)
 | .float b _=>some (.flt b)
 | .ref a=>some (.ref a)
 | .type n=>some (.ty n)
 | _=>none
theorem RelV.abs {x:V}{u:Value} (r:RelV x u):absV u=some x:=by
 cases x with
 | non=>cases r; rfl
 | bl _=>cases r; rfl
 | int _=>obtain⟨t,rfl⟩:=r; rfl
 | str _=>obtain⟨t,rfl⟩:=r; rfl
 | byt _=>obtain⟨t,rfl⟩:=r; rfl
 | flt _=>obtain⟨t,rfl⟩:=r; rfl
 | ref _=>cases r; rfl
 | ty _=>cases r; rfl
theorem RelV.inj {x y:V}{u:Value} (r:RelV x u) (q:RelV y u):x=y:=Option.some.inj (r.abs.symm.trans q.abs)
theorem Vals.inj {xs ys:List V} (a:Vals xs us) (b:Vals ys us):xs=ys:=by
 induction a generalizing ys with
 | nil=>cases b; rfl
 | cons r t ih=>
  cases b with
  | cons r' t'=>rw[r.inj r',ih t']
variable{K:PySem.W.Frag}
section
variable {X:Cx}{pins:List (Addr×Obj)}{σ:St}{H:Hp}{s:Shared}{a:Addr}{xs ys:List V}
theorem SqL.of (h:H a=some (.lst xs)):SqL K H a xs:=.inl (.inl h)
theorem SqT.of (h:H a=some (.tup xs)):SqT K H a xs:=.inl (.inl h)
theorem Inv.list (I:Inv X pins σ H s) (h:SqL X.K H a xs):∃ its:List Value,Vals xs its/\PlainL s.heap a its.toArray/\xs.length<=sizeLine:=by
 rcases h with h | ⟨o,its,n,hk,hc,hd,hs,hz,r⟩
 ·obtain⟨z,its,n,r,e⟩:=h.ok I.hok
  exact⟨its,r,⟨_,n,e,U,U,U⟩,z⟩
 ·refine⟨its.toList,r,⟨o,n,I.kIn a o hk,hc,hd,by simpa using hs⟩,?_⟩
  have e:=r.length
  simp only[Array.length_toList] at e
  omega
theorem Inv.tuple (I:Inv X pins σ H s) (h:SqT X.K H a xs):∃ its:List Value,Vals xs its/\IsTup s.heap a its.toArray/\xs.length<=sizeLine:=by
 rcases h with h | ⟨o,its,n,hk,hc,hs,hz,r⟩
 ·obtain⟨z,its,r,p⟩:=h.ok I.hok
  exact⟨its,r,p,z⟩
 ·refine⟨its.toList,r,⟨o,I.kIn a o hk,hc,n,by simpa using hs⟩,?_⟩
  have e:=r.length
  simp only[Array.length_toList] at e
  omega
theorem Inv.list_inj (I:Inv X pins σ H s) (h:SqL X.K H a xs) (h':SqL X.K H a ys):xs=ys:=by
 obtain⟨its,r,⟨o,n,e,_,_,d⟩,_⟩:=I.list h
 obtain⟨its',r',⟨o',n',e',_,_,d'⟩,_⟩:=I.list h'
 rw[e] at e'; cases e'
 rw[d] at d'
 injection d' with d1 _
 have:its=its':=by simpa using congrArg Array.toList d1
 subst this
 exact r.inj r'
theorem Inv.tuple_inj (I:Inv X pins σ H s) (h:SqT X.K H a xs) (h':SqT X.K H a ys):xs=ys:=by
 obtain⟨its,r,⟨o,e,_,n,d⟩,_⟩:=I.tuple h
 obtain⟨its',r',⟨o',e',_,n',d'⟩,_⟩:=I.tuple h'
 rw[e] at e'; cases e'
 rw[d] at d'
 injection d' with d1 _
 have:its=its':=by simpa using congrArg Array.toList d1
 subst this
 exact r.inj r'
end
noncomputable abbrev Cx.wish (X:Cx) (E:Value->Shared->Prop):Cx:={ X with xe:=E }
noncomputable abbrev Cx.nox (X:Cx):Cx:=X.wish fun _ _=>False
theorem Cx.Ok.wish {X:Cx} (ok:X.Ok) (E:Value->Shared->Prop):(X.wish E).Ok :=
 ⟨ok.mod,ok.kind,ok.glob,ok.blt,ok.above,ok.inj,ok.has,ok.cab,ok.hd,ok.frames,ok.stk,ok.exf,ok.bs,ok.bsz,ok.noex,ok.exfs,ok.funs,ok.frf⟩
theorem Cx.Ok.unwish {X:Cx} (ok:(X.wish E).Ok):X.Ok :=
 ⟨ok.mod,ok.kind,ok.glob,ok.blt,ok.above,ok.inj,ok.has,ok.cab,ok.hd,ok.frames,ok.stk,ok.exf,ok.bs,ok.bsz,ok.noex,ok.exfs,ok.funs,ok.frf⟩
section
variable {X:Cx}{pins:List (Addr×Obj)}{σ:St}{H:Hp}{s:Shared}{E:Value->Shared->Prop}
theorem Inv.wish (I:Inv X pins σ H s) (E:Value->Shared->Prop):Inv (X.wish E) pins σ H s:=⟨I.ok.wish E,I.os,I.bare,I.base,I.loc,I.cell,I.free,I.freeC,I.pin,I.hok,I.len⟩
theorem Inv.unwish (I:Inv (X.wish E) pins σ H s):Inv X pins σ H s:=⟨I.ok.unwish,I.os,I.bare,I.base,I.loc,I.cell,I.free,I.freeC,I.pin,I.hok,I.len⟩
theorem SP.unwish {D:Ends}{f:Flow}{s':Shared} (h:SP (X.wish E) pins D f s'):SP X pins D f s':=by
 cases f with
 | next=>obtain⟨σ',H',I,q⟩:=h; exact⟨σ',H',I.unwish,q⟩
 | brk=>obtain⟨σ',H',I,q⟩:=h; exact⟨σ',H',I.unwish,q⟩
 | cont=>obtain⟨σ',H',I,q⟩:=h; exact⟨σ',H',I.unwish,q⟩
 | ret u=>obtain⟨v,σ',H',I,r,q⟩:=h; exact⟨v,σ',H',I.unwish,r,q⟩
theorem PSs.nox {st:List Stmt}{t:TS} (h:PSs X.nox st t):PSs X st t:=fun pins s σ H D I hw=>
 wpAny_mono (h pins s σ H D (I.wish _) hw) (fun _ _ q=>q.unwish) fun _ _ z=>False.elim z
end
section
variable {X:Cx}{st:Stmt}{rest:List Stmt}{t u:TS}{e:Expr}{te:TE}{pos:Pos}
noncomputable def tNext:TS:=fun D σ H=>D.nx σ H
noncomputable def kI (t u:TS):TS:=fun D σ H=>t { D with nx:=u D } σ H
theorem av:PSs X [] tNext:=fun _ _ σ H _ I h=>wpAny_execs_nil ⟨σ,H,I,h⟩
theorem ae (h1:PS X st t) (h2:PSs X rest u):PSs X (st::rest) (kI t u):=by
 intro pins s σ H D I h
 refine wpAny_execs_cons (thn (h1 pins s σ H { D with nx:=u D } I h) fun f s1 q=>?_)
 cases f with
 | next=>
  obtain⟨σ',H',I',q⟩:=q
  exact h2 pins s1 σ' H' D I' q
 | ret v=>exact q
 | brk=>exact q
 | cont=>exact q
theorem ai (h1:PS X st t):PSs X [st] t:=by
 intro pins s σ H D I h
 refine wpAny_execs_cons (thn (h1 pins s σ H D I h) fun f s1 q=>?_)
 cases f with
 | next=>exact wpAny_execs_nil q
 | ret v=>exact q
 | brk=>exact q
 | cont=>exact q
noncomputable def pw:TS:=fun D σ H=>D.bk σ H
theorem kU:PS X (.Break pos) pw:=fun _ _ σ H _ I h=>wpAny_Break ⟨σ,H,I,h⟩
theorem Inv.quiet (I:Inv X pins σ H s):interactive X.env=false:=by simp[interactive,I.ok.kind]
noncomputable def nP (te:TE):TS:=fun D σ H=>te σ H fun _ H1=>D.nx σ H1
theorem ao (he:PE X e te) (hs:swapsWith e none pos.line X.env=pure false:=by rfl):PS X (.Expr e pos) (nP te):=by
 intro pins s σ H D I h
 exact wpAny_Expr_any (thn (he pins s σ H _ I h) fun v s1 ⟨x,H1,I1,r1,q1⟩=>⟨σ,H1,I1,q1⟩) I.quiet hs
noncomputable def qE (te:TE):TS:=fun D σ H=>te σ H D.rt
theorem aB (he:PE X e te):PS X (.Return (some e) pos) (qE te):=by
 intro pins s σ H D I h
 exact wpAny_Return_some (thn (he pins s σ H _ I h) fun v s1 ⟨x,H1,I1,r1,q1⟩=>⟨x,σ,H1,I1,r1,q1⟩)
noncomputable def tRetN:TS:=fun D _ H=>D.rt .non H
theorem jm:PS X (.Return none pos) tRetN:=fun _ _ σ H _ I h=>wpAny_Return_none ⟨.non,σ,H,I,U,h⟩
noncomputable def tIfS (c:TT) (t u:TS):TS:=fun D σ H=>c σ H fun b H1=>if b=true then t D σ H1 else u D σ H1
theorem aI {c:Expr}{a b:List Stmt}{tc:TT} (hc:PT X c tc) (ha:PSs X a t) (hb:PSs X b u):PS X (.If c a b pos) (tIfS tc t u):=by
 intro pins s σ H D I h
 refine wpAny_If (thn (hc pins s σ H _ I h) fun d s1 ⟨H1,I1,q1⟩=>?_)
 cases d with
 | true=>exact ha pins s1 σ H1 D I1 q1
 | false=>exact hb pins s1 σ H1 D I1 q1
noncomputable def pe:TS:=fun _ _ _=>False
theorem aS:PS X st pe:=fun _ _ _ _ _ _ h=>h.elim
end
noncomputable abbrev TG:=V->St->Hp->(St->Hp->Prop)->Prop
noncomputable abbrev TGs:=List V->St->Hp->(St->Hp->Prop)->Prop
noncomputable def PG (X:Cx) (target:Expr) (t:TG):Prop :=
 ∀ (pins:List (Addr×Obj)) (s:Shared) (σ:St) (H:Hp) (v:V) (u:Value) (Q:St->Hp->Prop),Inv X pins σ H s->RelV v u->t v σ H Q ->
  wpAny (model X.prog X.w) X.A (assign target X.env u) (fun _ s'=>∃ σ' H',Inv X pins σ' H' s'/\Q σ' H') X.xe s
noncomputable def PGs (X:Cx) (ts:List Expr) (t:TGs):Prop :=
 ∀ (pins:List (Addr×Obj)) (s:Shared) (σ:St) (H:Hp) (vs:List V) (us:List Value) (Q:St->Hp->Prop),Inv X pins σ H s->Vals vs us->t vs σ H Q ->
  wpAny (model X.prog X.w) X.A (assignInOrder ((assignEach ts X.env).map (·.2)) us) (fun _ s'=>∃ σ' H',Inv X pins σ' H' s'/\Q σ' H') X.xe s
noncomputable abbrev qB:=V->V->V->Hp->(Hp->Prop)->Prop
noncomputable def rZ (X:Cx) (t:qB):Prop :=
 ∀ (pins:List (Addr×Obj)) (s:Shared) (σ:St) (H:Hp) (o i v:V) (ov iv u:Value) (Q:Hp->Prop),Inv X pins σ H s->RelV o ov->RelV i iv->RelV v u->t o i v H Q ->
  wpAny (model X.prog X.w) X.A (setItem ov iv u) (fun _ s'=>∃ H',Inv X pins σ H' s'/\Q H') X.xe s
noncomputable abbrev TIp:=V->V->Hp->VK->Prop
noncomputable def PIp (X:Cx) (op:Operator) (t:TIp):Prop :=
 ∀ (pins:List (Addr×Obj)) (s:Shared) (σ:St) (H:Hp) (x y:V) (v u:Value) (Q:VK),Inv X pins σ H s->RelV x v->RelV y u->t x y H Q ->
  wpAny (model X.prog X.w) X.A (inplaceOp op v u) (EP X pins σ Q) X.xe s
section
variable {X:Cx}{pos:Pos}
noncomputable def gj (i:Nat):TG:=fun v σ H Q=>Q (σ.set i (some v)) H
theorem aq {i:Nat}{x:Str} (hN:X.N.Nodup) (hi:X.N[i]?=some x) (hx:Loc X.env.scope x) (hf:X.fn x=true∨X.env.scope.names.lookup x=some .local:=by first | exact .inl rfl | exact .inr rfl | assumption):PG X (.Name x pos) (gj i):=by
 intro pins s σ H v u Q I r h
 exact wpAny_assign_Name (eK I hN hi hx r (fun s' I'=>⟨_,H,I',h⟩) hf)
noncomputable def gNil:TGs:=fun vs σ H Q=>vs=[]/\Q σ H
inductive GC_ (t:TG) (u:TGs) (vs:List V) (σ:St) (H:Hp) (Q:St->Hp->Prop):Prop
 | mk (v:V) (r:List V) (h:vs=v::r) (q:t v σ H fun σ' H'=>u r σ' H' Q):GC_ t u vs σ H Q
noncomputable def gCons (t:TG) (u:TGs):TGs:=fun vs σ H Q=>GC_ t u vs σ H Q
theorem ba:PGs X [] gNil:=by
 intro pins s σ H vs us Q I r h
 obtain⟨e,h⟩:=h
 subst e
 cases r
 exact assignInOrder_nil ⟨σ,H,I,h⟩
theorem ay {es:List Expr}{t:TG}{u:TGs} (h1:PG X e t) (h2:PGs X es u)
  (hs:(assignEach (e::es) X.env).map (·.2)=assign e X.env::(assignEach es X.env).map (·.2):=by rfl):PGs X (e::es) (gCons t u):=by
 intro pins s σ H vs us Q I r h
 obtain⟨v,vr,e1,h⟩:=h
 subst e1
 cases r with
 | cons r rr=>
  rw[hs]
  refine assignInOrder_cons (thn (h1 pins s σ H _ _ _ I r h) fun _ s1 ⟨σ1,H1,I1,q1⟩=>?_)
  exact h2 pins s1 σ1 H1 _ _ Q I1 rr q1
noncomputable def rN (K:PySem.W.Frag) (n:Nat) (t:TGs):TG:=fun v σ H Q=>∃ a xs,v=.ref a/\SqT K H a xs/\xs.length=n/\t xs σ H Q
theorem bt {es:List Expr}{k:Nat}{t:TGs}{n:Nat} (hc:X.calm=true) (h:PGs X es t)
  (hn:(assignEach es X.env).length=n:=by rfl) (hst:(assignEach es X.env).findIdx? (·.1)=none:=by rfl):PG X (.Tuple es k pos) (rN X.K n t):=by
 intro pins s σ H v u Q I r hw
 obtain⟨a,xs,e1,hq,hl,hw⟩:=hw
 subst e1
 cases r
 obtain⟨its,rv,ht,hz⟩:=I.tuple hq
 refine assign_Tuple_tuple (I.ok.hd hc) ht (by simp[hn,<- hl,rv.length]) hst fun h' hx=>?_
 have I1:Inv X pins σ H { s with heap:=h' }:=I.kept (t':=s.toks) fun b o e=>hx b o (Nat.ne_of_lt (Heap.lt_size e)) e
 exact h pins _ σ H xs _ Q I1 (by simpa using rv) hw
noncomputable def gSub (to ti:TE) (t:qB):TG:=fun v σ H Q=>to σ H fun o H1=>ti σ H1 fun i H2=>t o i v H2 fun H3=>Q σ H3
theorem pL {o i:Expr}{to ti:TE}{t:qB} (ho:PE X o to) (hi:PE X i ti) (hs:rZ X t)
  (ha:∀ v,assign (.Subscript o i pos) X.env v=(do
   let ov <- holding [v] (eval o X.env)
   let iv <- holding [v,ov] (eval i X.env)
   standAt pos
   holding [v,ov,iv] (setItem ov iv v)
   release [v,ov,iv] []):=by intro _; rfl):PG X (.Subscript o i pos) (gSub to ti t):=by
 intro pins s σ H v u Q I r h
 rw[ha]
 refine wpAny_bind (wpAny_holding (thn (ho pins s σ H _ I h) fun ov s1 ⟨x,H1,I1,r1,q1⟩=>?_))
 refine wpAny_bind (wpAny_holding (thn (hi pins s1 σ H1 _ I1 q1) fun iv s2 ⟨y,H2,I2,r2,q2⟩=>?_))
 refine wpAny_bind (wpAny_standAt (wpAny_bind (wpAny_holding (thn (hs pins s2 σ H2 x y v ov iv u _ I2 r1 r2 r q2) fun _ s3 ⟨H3,I3,q3⟩=>?_))))
 exact wpAny_release ⟨σ,H3,I3,q3⟩
noncomputable def px (te:TE) (g:TG):TS:=fun D σ H=>te σ H fun x H1=>g x σ H1 D.nx
theorem ce {tg e:Expr}{te:TE}{g:TG} (he:PE X e te) (hg:PG X tg g) (hs:swapsWithSole [tg] e pos.line X.env=pure false:=by rfl) (hw:swappedStores [tg] e X.env=pure none:=by rfl)
  (h1:(assignEach [tg] X.env).map (·.2)=[assign tg X.env]:=by rfl):PS X (.Assign [tg] e pos) (px te g):=by
 intro pins s σ H D I h
 refine wpAny_Assign_stores (thn (he pins s σ H _ I h) fun v s1 ⟨x,H1,I1,r1,q1⟩=>?_) hs hw
 rw[h1]
 exact thn (hg pins s1 σ H1 x v _ I1 r1 q1) fun _ s2 q=>q
theorem aH {i:Nat}{x:Str}{te:TE}{pos':Pos} (hN:X.N.Nodup) (hi:X.N[i]?=some x) (hx:Loc X.env.scope x) (he:PE X e te) (hs:swapsWith e (some (.Name x pos')) pos.line X.env=pure false:=by rfl) (hf:X.fn x=true∨X.env.scope.names.lookup x=some .local:=by first | exact .inl rfl | exact .inr rfl | assumption) :
  PS X (.Assign [.Name x pos'] e pos) (px te (gj i)):=by
 intro pins s σ H D I h
 refine wpAny_Assign_Name (thn (he pins s σ H _ I h) fun v s1 ⟨y,H1,I1,r1,q1⟩=>?_) hs
 exact eK I1 hN hi hx r1 (fun s2 I2=>⟨_,H1,I2,q1⟩) hf
noncomputable def tAug (i:Nat) (te:TE) (ti:TIp):TS:=fun D σ H=>∃ x,σ[i]?=some (some x)/\te σ H fun y H1=>ti x y H1 fun z H2=>D.nx (σ.set i (some z)) H2
theorem pJ {i:Nat}{x:Str}{te:TE}{op:Operator}{ti:TIp}{pos':Pos} (hN:X.N.Nodup) (hi:X.N[i]?=some x) (hx:Loc X.env.scope x) (he:PE X e te) (ho:PIp X op ti) (hf:X.fn x=true∨X.env.scope.names.lookup x=some .local:=by first | exact .inl rfl | exact .inr rfl | assumption) :
  PS X (.AugAssign (.Name x pos') op e pos) (tAug i te ti):=by
 intro pins s σ H D I h
 obtain⟨v,e1,h⟩:=h
 obtain⟨m,hn,hl⟩:=I.loc
 have vis:Vis X.env.scope x:=by rcases hx with k | k; exact .inl k; exact .inr (.inl k)
 obtain⟨u,r,l⟩:=hl i x v hi e1 vis
 refine wpAny_AugAssign_Name ?_
 have go:wpAny (model X.prog X.w) X.A (eval e X.env) (fun w s₂=>wpAny (model X.prog X.w) X.A (inplaceOp op u w) (fun r s₃=>wpAny (model X.prog X.w) X.A (storeName X.env x r) (fun _=>SP X pins D .next) X.xe s₃) X.xe s₂) X.xe s:=by
  refine thn (he pins s σ H _ I h) fun w s1 ⟨y,H1,I1,r1,q1⟩=>?_
  refine thn (ho pins s1 σ H1 v y u w _ I1 r r1 q1) fun z s2 ⟨zv,H2,I2,r2,q2⟩=>?_
  exact eK I2 hN hi hx r2 (fun s3 I3=>⟨_,H2,I3,q2⟩) hf
 rcases l with ⟨hk,hm⟩ | ⟨hk,c,hc,hcell⟩
 ·exact wpAny_loadName_local I.ok.kind hk hn hm go
 ·rcases hk with hk | hk
  ·exact wpAny_loadName_cell I.ok.kind hk hc hcell go
  ·rcases hx with k | k
   ·have:X.env.scope.names.lookup x=some .free:=hk
    rw[k] at this; cases this
   ·have:X.env.scope.names.lookup x=some .free:=hk
    rw[k] at this; cases this
noncomputable def ipI (f:Int->Int->Int):TIp:=fun x y H Q=>∃ i j,x=.int i/\y=.int j/\Q (.int (f i j)) H
theorem qo:PIp X .Add (ipI fun i j=>i+j):=by
 intro pins s σ H x y v u Q I r1 r2 h
 obtain⟨i,j,e1,e2,q⟩:=h
 subst e1; subst e2
 obtain⟨t,rfl⟩:=r1
 obtain⟨t',rfl⟩:=r2
 exact iadd_int ⟨.int _,H,I.tok _,⟨_,U⟩,q⟩
end
variable{tb:TS}
section
variable {X:Cx}{pos:Pos}
noncomputable def kH (c:TT) (tb:TS):TS:=fun D σ H=>∃ W:Nat->St->Hp->Prop,(∃ m,W m σ H)/\∀ m σ H,W m σ H ->
 c σ H fun b H1=>if b=true then ∃ N:St->Hp->Prop,(∀ σ' H',N σ' H'->∃ m',m'<m/\W m' σ' H')/\tb { D with nx:=N,ct:=N,bk:=D.nx } σ H1 else D.nx σ H1
theorem df {c:Expr}{body:List Stmt}{tc:TT} (hp:PassesOwn (model X.prog X.w) X.A X.env X.xe) (hc:PT X c tc) (hb:PSs X body tb):PS X (.While c body [] pos) (kH tc tb):=by
 intro pins s σ H D I h
 obtain⟨W,⟨m0,w0⟩,turn⟩:=h
 refine wpAny_While (codeAny_whileLoop (fun n s'=>∃ σ' H',Inv X pins σ' H' s'/\W n σ' H') ?_ m0 ⟨σ,H,I,w0⟩)
 rintro n s1 ⟨σ1,H1,I1,w1⟩
 refine wpAny_passesOwn hp (thn (hc pins s1 σ1 H1 _ I1 (turn n σ1 H1 w1)) fun b s2 ⟨H2,I2,q2⟩=>?_)
 cases b with
 | true=>
  obtain⟨N,hN,q2⟩:=q2
  rw[if_pos rfl]
  refine wpAny_passesOwn hp (thn (hb pins s2 σ1 H2 _ I2 q2) fun f s3 q3=>?_)
  cases f with
  | next=>
   obtain⟨σ3,H3,I3,n3⟩:=q3
   obtain⟨m',hm,w3⟩:=hN σ3 H3 n3
   exact⟨m',hm,σ3,H3,I3,w3⟩
  | cont=>
   obtain⟨σ3,H3,I3,n3⟩:=q3
   obtain⟨m',hm,w3⟩:=hN σ3 H3 n3
   exact⟨m',hm,σ3,H3,I3,w3⟩
  | brk=>exact q3
  | ret v=>exact q3
 | false=>
  rw[if_neg Bool.false_ne_true]
  exact wpAny_execs_nil ⟨σ1,H2,I2,q2⟩
end
structure It where
 go:Nat->Hp->Prop
 yld:Nat->Hp->V->Hp->Prop
 stop:Nat->Hp->Prop
noncomputable def cI (X:Cx) (pins:List (Addr×Obj)) (H:Hp) (b:Addr):Prop :=
 H b=none/\b≠X.env.locals/\b ∉ X.fs/\(b ∈ X.ex∨X.s₀.heap.objs.size<=b)/\(∀ x c,X.env.cells.lookup x=some c->c≠b)/\∀ p ∈ X.pn++pins,p.1≠b
theorem Inv.fpOk {X:Cx}{H H':Hp}{b:Addr} (I:Inv X pins σ H s) (hb:s.heap.objs.size<=b) (hn:H' b=none):cI X pins H' b:=by
 refine⟨hn,Nat.ne_of_gt (Nat.lt_of_lt_of_le I.lt hb),I.nofs hb,.inr (Nat.le_trans I.sz hb),fun x c e z=>?_,fun p hp z=>?_⟩
 ·obtain⟨v,q⟩:=I.cell x c e
  exact absurd (Nat.lt_of_lt_of_le q.lt (by rw[z]; exact hb)) (Nat.lt_irrefl _)
 ·exact absurd (Nat.lt_of_lt_of_le (Heap.lt_size (I.pin p hp).1) (by rw[z]; exact hb)) (Nat.lt_irrefl _)
structure Turn (P:Program) (w:World) (K:PySem.W.Frag) (tg:Expr) (J:It) (fp:List Addr) (it:Addr) (tn:Nat->Heap->Prop):Prop where
 mem:it ∈ fp
 obj:∀ i h,tn i h->∀ b ∈ fp,∃ o,h.get? b=some o/\∀ v,o.data≠.cell v
 keep:∀ i h h',tn i h->(∀ b ∈ fp,∀ o,h.get? b=some o->h'.get? b=some o)->tn i h'
 item:∀ (X:Cx),X.prog=P->X.w=w->X.K=K->X.calm=true->∀ (i:Nat) (pins:List (Addr×Obj)) (s:Shared) (σ:St) (H:Hp) (E:Value->Shared->Prop),Inv X pins σ H s->(∀ b ∈ fp,cI X pins H b)->tn i s.heap->J.go i H ->
  wpAny (model P w) X.A (pyNext (.ref it)) (fun r s1=>∃ u,r=some u /\
   wpAny (model P w) X.A (letOwnedTupleGo tg (.ref it) u) (fun _ s2=>∃ x H',Inv X pins σ H' s2/\RelV x u/\J.yld i H x H'/\tn (i+1) s2.heap/\∀ b ∈ fp,H' b=none) E s1) E s
 done:∀ (X:Cx),X.prog=P->X.w=w->X.K=K->X.calm=true->∀ (i:Nat) (pins:List (Addr×Obj)) (s:Shared) (σ:St) (H:Hp) (E:Value->Shared->Prop),Inv X pins σ H s->(∀ b ∈ fp,cI X pins H b)->tn i s.heap->J.stop i H ->
  wpAny (model P w) X.A (pyNext (.ref it)) (fun r s1=>r=none/\Inv X pins σ H s1) E s
 self:∀ (A:Around) (i:Nat) (s:Shared) (Q:Value->Shared->Prop) (E:Value->Shared->Prop),tn i s.heap->Q (.ref it) s->wpAny (model P w) A (pyIter (.ref it)) Q E s
noncomputable abbrev TI:=St->Hp->(It->Hp->Prop)->Prop
noncomputable def PIE (X:Cx) (pins:List (Addr×Obj)) (σ:St) (tg:Expr) (R:It->Hp->Prop) (itv:Value) (s2:Shared):Prop :=
 ∃ (it:Addr) (fp:List Addr) (tn:Nat->Heap->Prop) (J:It) (H':Hp),itv=.ref it/\Inv X pins σ H' s2/\Turn X.prog X.w X.K tg J fp it tn/\tn 0 s2.heap/\(∀ b ∈ fp,cI X pins H' b)/\R J H'
noncomputable def PI (X:Cx) (tg iter:Expr) (wi:TI):Prop :=
 ∀ (pins:List (Addr×Obj)) (s:Shared) (σ:St) (H:Hp) (R:It->Hp->Prop),Inv X pins σ H s->wi σ H R ->
  wpAny (model X.prog X.w) X.A (eval iter X.env) (fun v s1=>wpAny (model X.prog X.w) X.A (pyIter v) (PIE X pins σ tg R) X.xe s1) X.xe s
theorem lJ {M : Model}{A : Around}{E : Value->Shared->Prop}{s : Shared}{tg : Expr}{it : Addr}{u : Value}{o : Obj}{n : String}{vs : Array Value}{Q : Unit->Shared->Prop} (ho : s.heap.get? it=some o) (hc : o.cls=.type n) (hd : o.data=.fields vs)
    (hn : ["enumerate", "zip", "dict_itemiterator", "dict_reverseitemiterator", "odict_iterator", "itertools.zip_longest", "itertools.pairwise"].contains n=false) (hQ : Q () s) : wpAny M A (letOwnedTupleGo tg (.ref it) u) Q E s := by
  unfold letOwnedTupleGo
  cases tg <;> first
    | exact wpAny_pure hQ
    | (cases u <;> first
        | exact wpAny_pure hQ
        | (refine wpAny_bind (wpAny_load ho ?_)
           rw[hc, hd]
           show wpAny M A (if (["enumerate", "zip", "dict_itemiterator", "dict_reverseitemiterator", "odict_iterator", "itertools.zip_longest", "itertools.pairwise"].contains n && vs[0]? == some (rawInt _))=true then _ else _) Q E s
           rw[if_neg (by intro h; rw[hn, Bool.false_and] at h; cases h)]
           exact wpAny_pure hQ))
noncomputable def Itl (K:PySem.W.Frag) (a:Addr):It :=
 ⟨fun i H=>∃ xs x,SqL K H a xs/\xs[i]?=some x,fun i H x H'=>H'=H/\∀ xs,SqL K H a xs->xs[i]?=some x,fun i H=>∃ xs,SqL K H a xs/\xs.length<=i⟩
noncomputable def Itt (K:PySem.W.Frag) (a:Addr):It :=
 ⟨fun i H=>∃ xs x,SqT K H a xs/\xs[i]?=some x,fun i H x H'=>H'=H/\∀ xs,SqT K H a xs->xs[i]?=some x,fun i H=>∃ xs,SqT K H a xs/\xs.length<=i⟩
noncomputable def Itr (lo:Int) (n:Nat):It:=⟨fun i _=>i<n,fun i H x H'=>H'=H/\x=.int (lo+i),fun i _=>n<=i⟩
theorem jH {w:World}{tg:Expr} (a it:Addr):Turn P w K tg (Itl K a) [it] it (fun i h=>h.IsListIter it a i) where
 mem:=by simp
 obj:=fun i h st b hb=>by
  have e:b=it:=by simpa using hb
  subst e
  obtain⟨o,e,c,d⟩:=st
  exact⟨o,e,fun v z=>by rw[d] at z; cases z⟩
 keep:=fun i h h' st k=>st.at fun o e=>k it (by simp) o e
 item:=by
  intro X hP hw hK hc i pins s σ H E I hf st hg
  subst hP hw hK
  obtain⟨xs,x,hq,hx⟩:=hg
  obtain⟨its,rv,p,hz⟩:=I.list hq
  obtain⟨u,hu,ru⟩:=rv.get hx
  obtain⟨f0,f1,f2,f3,f4,f5⟩:=hf it (by simp)
  refine wpAny_pyNext_list_item st p.isList (x:=u) (by simpa using hu) fun h' st' sb=>?_
  have I1:Inv X pins σ H { s with heap:=h' }:=I.turned (t':=s.toks) (fun b o hb e=>(sb.2 b hb).trans e) f0 f1 f3 f4 f5
  obtain⟨o,e,c,d⟩:=id st'
  exact⟨u,U,lJ (s:={ s with heap:=h' }) e c d (by decide) ⟨x,H,I1,ru,⟨U,fun ys hy=>by rw[I.list_inj hy hq]; exact hx⟩,st',fun b hb=>(hf b hb).1⟩⟩
 done:=by
  intro X hP hw hK hc i pins s σ H E I hf st hg
  subst hP hw hK
  obtain⟨xs,hq,hx⟩:=hg
  obtain⟨its,rv,p,hz⟩:=I.list hq
  obtain⟨f0,f1,f2,f3,f4,f5⟩:=hf it (by simp)
  have hl:=rv.length
  exact wpAny_pyNext_list_end (I.ok.hd hc) st p.isList (by simp; omega) fun h' eb=>⟨U,I.turned (t':=s.toks) (fun b o hb e=>eb b o hb e) f0 f1 f3 f4 f5⟩
 self:=fun _ _ _ _ _ st h=>wpAny_pyIter_listiter st h
theorem iM {w:World}{tg:Expr} (a it:Addr):Turn P w K tg (Itt K a) [it] it (fun i h=>h.IsTupleIter it a i) where
 mem:=by simp
 obj:=fun i h st b hb=>by
  have e:b=it:=by simpa using hb
  subst e
  obtain⟨o,e,c,d⟩:=st
  exact⟨o,e,fun v z=>by rw[d] at z; cases z⟩
 keep:=fun i h h' st k=>st.at fun o e=>k it (by simp) o e
 item:=by
  intro X hP hw hK hc i pins s σ H E I hf st hg
  subst hP hw hK
  obtain⟨xs,x,hq,hx⟩:=hg
  obtain⟨its,rv,p,hz⟩:=I.tuple hq
  obtain⟨u,hu,ru⟩:=rv.get hx
  obtain⟨f0,f1,f2,f3,f4,f5⟩:=hf it (by simp)
  refine wpAny_pyNext_tuple_item st (show s.heap.IsTuple a its.toArray from p) (x:=u) (by simpa using hu) fun h' st' sb=>?_
  have I1:Inv X pins σ H { s with heap:=h' }:=I.turned (t':=s.toks) (fun b o hb e=>(sb.2 b hb).trans e) f0 f1 f3 f4 f5
  obtain⟨o,e,c,d⟩:=id st'
  exact⟨u,U,lJ (s:={ s with heap:=h' }) e c d (by decide) ⟨x,H,I1,ru,⟨U,fun ys hy=>by rw[I.tuple_inj hy hq]; exact hx⟩,st',fun b hb=>(hf b hb).1⟩⟩
 done:=by
  intro X hP hw hK hc i pins s σ H E I hf st hg
  subst hP hw hK
  obtain⟨xs,hq,hx⟩:=hg
  obtain⟨its,rv,p,hz⟩:=I.tuple hq
  obtain⟨f0,f1,f2,f3,f4,f5⟩:=hf it (by simp)
  have hl:=rv.length
  exact wpAny_pyNext_tuple_end (I.ok.hd hc) st (show s.heap.IsTuple a its.toArray from p) (by simp; omega) fun h' eb=>⟨U,I.turned (t':=s.toks) (fun b o hb e=>eb b o hb e) f0 f1 f3 f4 f5⟩
 self:=fun _ _ _ _ _ st h=>wpAny_pyIter_tupleiter st h
theorem iN {w:World}{tg:Expr} (it:Addr) (lo:Int) (n:Nat):Turn P w K tg (Itr lo n) [it] it (fun i h=>IsRangeIter h it (lo+(i:Nat)*1) ((n:Int) - (i:Nat)) 1) where
 mem:=by simp
 obj:=fun i h st b hb=>by
  have e:b=it:=by simpa using hb
  subst e
  exact⟨_,st,fun v z=>by
   have z':Data.fields _=Data.cell v:=z
   cases z'⟩
 keep:=fun i h h' st k=>k it (by simp) _ st
 item:=by
  intro X hP hw hK hc i pins s σ H E I hf st hg
  subst hP hw hK
  obtain⟨f0,f1,f2,f3,f4,f5⟩:=hf it (by simp)
  have W:=Walks.range (prog:=X.prog) (w:=X.w) (I.ok.hd hc) it lo 1 n
  refine W.item i s _ _ hg st fun v h' tk hv st' kk=>?_
  obtain⟨t,rfl⟩:=hv
  have I1:Inv X pins σ H { s with heap:=h',toks:=tk }:=I.turned (fun b o hb e=>kk b o (by simpa using hb) e) f0 f1 f3 f4 f5
  refine⟨_,U,lJ (s:={ s with heap:=h',toks:=tk }) (n := "range_iterator") st' rfl rfl (by decide) ⟨.int (lo+i),H,I1,⟨t,?_⟩,⟨U,U⟩,st',fun b hb=>(hf b hb).1⟩⟩
  rw[Int.mul_one]
 done:=by
  intro X hP hw hK hc i pins s σ H E I hf st hg
  subst hP hw hK
  obtain⟨f0,f1,f2,f3,f4,f5⟩:=hf it (by simp)
  exact wpAny_pyNext_range_end (I.ok.hd hc) st (by have:n<=i:=hg; omega) fun h' eb=>⟨U,I.turned (t':=s.toks) (fun b o hb e=>eb b o hb e) f0 f1 f3 f4 f5⟩
 self:=fun _ _ _ _ _ st h=>wpAny_pyIter_rangeiter st h
section
variable {X:Cx}{tg:Expr}
noncomputable def iList (K:PySem.W.Frag) (tl:TE):TI:=fun σ H R=>tl σ H fun x H1=>∃ a,x=.ref a/\(∃ xs,SqL K H1 a xs)/\R (Itl K a) H1
noncomputable def iTup (K:PySem.W.Frag) (tl:TE):TI:=fun σ H R=>tl σ H fun x H1=>∃ a,x=.ref a/\(∃ xs,SqT K H1 a xs)/\R (Itt K a) H1
theorem bF {l:Expr}{tl:TE} (hl:PE X l tl):PI X tg l (iList X.K tl):=by
 intro pins s σ H R I h
 refine thn (hl pins s σ H _ I h) fun v s1 ⟨x,H1,I1,r1,q1⟩=>?_
 obtain⟨a,e,⟨xs,hq⟩,q⟩:=q1
 subst e
 cases r1
 obtain⟨its,rv,p,hz⟩:=I1.list hq
 refine wpAny_pyIter_list p.isList ?_
 refine⟨s1.heap.objs.size,[s1.heap.objs.size],_,_,H1,U,I1.kept (t':=s1.toks) fun b o e=>Heap.get?_push_of_some _ e,jH a _,⟨_,Heap.get?_push_size _ rfl,U,U⟩,fun b hb=>?_,q⟩
 have e:b=s1.heap.objs.size:=by simpa using hb
 subst e
 exact I1.fpOk (Nat.le_refl _) (I1.hok.fresh (Nat.le_refl _))
theorem pK {l:Expr}{tl:TE} (hl:PE X l tl):PI X tg l (iTup X.K tl):=by
 intro pins s σ H R I h
 refine thn (hl pins s σ H _ I h) fun v s1 ⟨x,H1,I1,r1,q1⟩=>?_
 obtain⟨a,e,⟨xs,hq⟩,q⟩:=q1
 subst e
 cases r1
 obtain⟨its,rv,p,hz⟩:=I1.tuple hq
 refine wpAny_pyIter_tuple (show s1.heap.IsTuple a its.toArray from p) ?_
 refine⟨s1.heap.objs.size,[s1.heap.objs.size],_,_,H1,U,I1.kept (t':=s1.toks) fun b o e=>Heap.get?_push_of_some _ e,iM a _,⟨_,Heap.get?_push_size _ rfl,U,U⟩,fun b hb=>?_,q⟩
 have e:b=s1.heap.objs.size:=by simpa using hb
 subst e
 exact I1.fpOk (Nat.le_refl _) (I1.hok.fresh (Nat.le_refl _))
theorem kS {R:It->Hp->Prop}{lo hi:Int}{t u v:Tok}{tk:Nat} (I:Inv X pins σ H s) (h1:-(2 ^ 62)<=lo) (h2:lo<2 ^ 62) (h3:-(2 ^ 62)<=hi) (h4:hi<2 ^ 62)
  (q:R (Itr lo (hi - lo).toNat) H):wpAny (model X.prog X.w) X.A (pyIter (.ref s.heap.objs.size)) (PIE X pins σ tg R) E { s with heap:=s.heap.push { cls:=.type "range",data:=.fields #[.int lo t,.int hi u,.int 1 v] },toks:=tk }:=by
 refine wpAny_pyIter_range (IsRange.new ..) (small_one h1 h2 h3 h4) ?_
 have I1:Inv X pins σ H { s with heap:=s.heap.push { cls:=.type "range",data:=.fields #[.int lo t,.int hi u,.int 1 v] },toks:=tk }:=I.kept fun b o e=>Heap.get?_push_of_some _ e
 refine⟨(s.heap.push { cls:=.type "range",data:=.fields #[.int lo t,.int hi u,.int 1 v] }).objs.size,[(s.heap.push { cls:=.type "range",data:=.fields #[.int lo t,.int hi u,.int 1 v] }).objs.size],_,_,H,U,
  I1.kept (t':=tk) fun b o e=>Heap.get?_push_of_some _ e,iN _ lo (hi - lo).toNat,?_,fun b hb=>?_,q⟩
 ·have e1:lo+((0:Nat):Int)*1=lo:=by simp
  have e2:(((hi - lo).toNat:Nat):Int) - ((0:Nat):Int)=Builtin.Range.rangeSize lo hi 1:=by rw[rangeSize_one]; split <;> omega
  show IsRangeIter _ _ (lo+((0:Nat):Int)*1) ((((hi - lo).toNat:Nat):Int) - ((0:Nat):Int)) 1
  rw[e1,e2]
  exact Heap.get?_push_size _ rfl
 ·have e:b=(s.heap.push { cls:=.type "range",data:=.fields #[.int lo t,.int hi u,.int 1 v] }).objs.size:=by simpa using hb
  subst e
  exact I1.fpOk (Nat.le_refl _) (I1.hok.fresh (Nat.le_refl _))
noncomputable def iRng1 (ta:TA):TI:=fun σ H R=>ta σ H fun vs H1=>∃ j:Int,vs=[.int j]/\-(2 ^ 62)<=j/\j<2 ^ 62/\R (Itr 0 j.toNat) H1
theorem bp {a:Expr}{ta:TA}{p pos:Pos} (hg:Gl X "range") (hm:X.mg "range" = none) (ha:PA X [a] ta) (hs:starEach [a] X.env=[(false,eval a X.env)]:=by rfl):PI X tg (.Call (.Name "range" p) [a] [] pos) (iRng1 ta):=by
 intro pins s σ H R I h
 refine Call_ (cS I hg hm boot_range (PyProof.Rows.callWith_type1 (thn (ha pos pins s σ H _ I h) fun us s1 ⟨vs,H1,I1,r1,q1⟩=>?_) hs rfl))
 obtain⟨j,e,q1,q2,q⟩:=q1
 subst e
 cases r1 with
 | cons r rr=>
  cases rr
  obtain⟨t,rfl⟩:=r
  exact call_range_1 (kS I1 (by omega) (by omega) q1 q2 (by simpa using q))
noncomputable def tFor (wi:TI) (g:TG) (tb:TS):TS:=fun D σ H=>wi σ H fun J H1=>∃ W:Nat->Nat->St->Hp->Prop,(∃ m,W 0 m σ H1)/\∀ i m σ H,W i m σ H ->
 (J.stop i H/\D.nx σ H)∨(J.go i H/\∃ N:St->Hp->Prop,(∀ σ' H',N σ' H'->∃ m',m'<m/\W (i+1) m' σ' H')/\∀ x H',J.yld i H x H'->g x σ H' fun σ2 H2=>tb { D with nx:=N,ct:=N,bk:=D.nx } σ2 H2)
noncomputable def dL (fp:List Addr) (h:Heap):List (Addr×Obj):=fp.filterMap fun b=>(h.get? b).map fun o=>(b,o)
theorem bv {fp:List Addr}{b:Addr}{o:Obj} (hb:b ∈ fp) (e:h.get? b=some o):(b,o) ∈ dL fp h:=List.mem_filterMap.mpr ⟨b,hb,by rw[e]; rfl⟩
theorem jS {fp:List Addr}{p:Addr×Obj} (hp:p ∈ dL fp h):p.1 ∈ fp/\h.get? p.1=some p.2:=by
 obtain⟨b,hb,e⟩:=List.mem_filterMap.mp hp
 cases q:h.get? b with
 | none=>rw[q] at e; cases e
 | some o=>
  rw[q] at e
  have e':(b,o)=p:=Option.some.inj e
  subst e'
  exact⟨hb,q⟩
theorem Inv.pinned {fp:List Addr} (I:Inv X pins σ H s) (hf:∀ b ∈ fp,cI X pins H b) (ho:∀ b ∈ fp,∃ o,s.heap.get? b=some o/\∀ v,o.data≠.cell v):Inv X (pins++dL fp s.heap) σ H s :=
 I.pins_of fun p hp=>(sC.mp hp).elim (fun z=>I.pin p (se _ z)) fun z=>by
  obtain⟨hb,e⟩:=jS z
  obtain⟨f0,f1,f2,_⟩:=hf p.1 hb
  obtain⟨o,e',d⟩:=ho p.1 hb
  rw[e] at e'; cases e'
  exact⟨e,f0,f1,f2,d⟩
theorem Inv.unpinned {pins pl:List (Addr×Obj)} (I:Inv X (pins++pl) σ H s):Inv X pins σ H s:=I.pins_of fun p hp=>I.pin p (se _ (sk _ hp))
theorem bi {iter:Expr}{body:List Stmt}{wi:TI}{g:TG} (hp:PassesOwn (model X.prog X.w) X.A X.env X.xe) (hc:X.calm=true) (hi:PI X tg iter wi) (hg:PG X tg g) (hb:PSs X body tb)
  (hs:∀ x,foldedSetIterable iter X.env x=pure x:=by intro _; rfl):PS X (.For tg iter body [] pos) (tFor wi g tb):=by
 intro pins s σ H D I h
 refine wpAny_For (thn (hi pins s σ H _ I h) fun v s1 h1=>thn h1 fun itv s2 h2=>?_) hs
 obtain⟨it,fp,tn,J,H2,e,I2,T,st2,f2,W,⟨m0,w0⟩,turn⟩:=h2
 subst e
 have stat:∀ {H':Hp},(∀ b ∈ fp,H' b=none)->∀ b ∈ fp,cI X pins H' b:=fun hn b hb=>⟨hn b hb,(f2 b hb).2⟩
 refine codeAny_forLoop_any (fun n s'=>∃ i σ' H',Inv X pins σ' H' s'/\tn i s'.heap/\(∀ b ∈ fp,H' b=none)/\W i n σ' H') ?_ m0 ⟨0,σ,H2,I2,st2,fun b hb=>(f2 b hb).1,w0⟩
 rintro n s3 ⟨i,σ3,H3,I3,st3,fr3,w3⟩
 rcases turn i n σ3 H3 w3 with ⟨stop,qn⟩ | ⟨go,N,hN,step⟩
 ·refine wpAny_passesOwn hp (thn (T.done X rfl rfl rfl hc i pins s3 σ3 H3 X.xe I3 (stat fr3) st3 stop) fun r s4 ⟨hr,I4⟩=>?_)
  subst hr
  exact wpAny_execs_nil ⟨σ3,H3,I4,qn⟩
 ·refine wpAny_passesOwn hp (thn (T.item X rfl rfl rfl hc i pins s3 σ3 H3 X.xe I3 (stat fr3) st3 go) fun r s4 ⟨u,hr,h4⟩=>?_)
  subst hr
  refine wpAny_passesOwn hp (thn h4 fun _ s5 ⟨x,H5,I5,r5,y5,st5,fr5⟩=>?_)
  have I5':=I5.pinned (stat fr5) (T.obj _ _ st5)
  refine wpAny_passesOwn hp (thn (hg _ s5 σ3 H5 x u _ I5' r5 (step x H5 y5)) fun _ s6 ⟨σ6,H6,I6,q6⟩=>?_)
  refine wpAny_passesOwn hp (thn (hb _ s6 σ6 H6 _ I6 q6) fun f s7 q7=>?_)
  have again:∀ {σ7:St}{H7:Hp},Inv X (pins++dL fp s5.heap) σ7 H7 s7->N σ7 H7->∃ m,m<n/\∃ i σ' H',Inv X pins σ' H' s7/\tn i s7.heap/\(∀ b ∈ fp,H' b=none)/\W i m σ' H':=fun {σ7 H7} I7 n7=>by
   obtain⟨m',hm,w7⟩:=hN σ7 H7 n7
   refine⟨m',hm,i+1,σ7,H7,I7.unpinned,T.keep _ _ _ st5 fun b hb o e=>(I7.pin (b,o) (se _ (se _ (bv hb e)))).1,fun b hb=>?_,w7⟩
   obtain⟨o,e,d⟩:=T.obj _ _ st5 b hb
   exact(I7.pin (b,o) (se _ (se _ (bv hb e)))).2.1
  cases f with
  | next=>obtain⟨σ7,H7,I7,n7⟩:=q7; exact again I7 n7
  | cont=>obtain⟨σ7,H7,I7,n7⟩:=q7; exact again I7 n7
  | brk=>obtain⟨σ7,H7,I7,q7⟩:=q7; exact⟨σ7,H7,I7.unpinned,q7⟩
  | ret v=>obtain⟨x7,σ7,H7,I7,r7,q7⟩:=q7; exact⟨x7,σ7,H7,I7.unpinned,r7,q7⟩
end
theorem cE {K:PySem.W.Frag}{a:Addr}{xs:List V}{g:TG}{D:Ends} (Pv:Nat->St->Hp->Prop) (h0:Pv 0 σ H) (hl:∀ i σ H,i<=xs.length->Pv i σ H->SqL K H a xs)
  (hs:∀ i x σ H,xs[i]?=some x->Pv i σ H->g x σ H fun σ2 H2=>tb { D with nx:=Pv (i+1),ct:=Pv (i+1),bk:=D.nx } σ2 H2) (hd:∀ σ H,Pv xs.length σ H->D.nx σ H) :
  ∃ W:Nat->Nat->St->Hp->Prop,(∃ m,W 0 m σ H)/\∀ i m σ H,W i m σ H ->
   ((Itl K a).stop i H/\D.nx σ H)∨((Itl K a).go i H/\∃ N:St->Hp->Prop,(∀ σ' H',N σ' H'->∃ m',m'<m/\W (i+1) m' σ' H')/\∀ x H',(Itl K a).yld i H x H'->g x σ H' fun σ2 H2=>tb { D with nx:=N,ct:=N,bk:=D.nx } σ2 H2):=by
 refine⟨fun i m σ H=>m=xs.length - i/\i<=xs.length/\Pv i σ H,⟨xs.length,by simp,Nat.zero_le _,h0⟩,?_⟩
 rintro i m σ H ⟨rfl,hi,p⟩
 have q:=hl i σ H hi p
 by_cases hlt:i<xs.length
 ·refine .inr ⟨⟨xs,xs[i],q,by simp[hlt]⟩,Pv (i+1),fun σ' H' p'=>⟨xs.length - (i+1),by omega,U,hlt,p'⟩,fun x H' y=>?_⟩
  obtain⟨e,y⟩:=y
  subst e
  exact hs i x σ _ (y xs q) p
 ·have e:i=xs.length:=by omega
  subst e
  exact .inl ⟨⟨xs,q,Nat.le_refl _⟩,hd σ H p⟩
theorem m8 {a:Addr}{xs:List V}{g:TG}{D:Ends} (Pv:Nat->St->Hp->Prop) (h0:Pv 0 σ H) (hl:∀ i σ H,i<=xs.length->Pv i σ H->SqT K H a xs)
  (hs:∀ i x σ H,xs[i]?=some x->Pv i σ H->g x σ H fun σ2 H2=>tb { D with nx:=Pv (i+1),ct:=Pv (i+1),bk:=D.nx } σ2 H2) (hd:∀ σ H,Pv xs.length σ H->D.nx σ H) :
  ∃ W:Nat->Nat->St->Hp->Prop,(∃ m,W 0 m σ H)/\∀ i m σ H,W i m σ H ->
   ((Itt K a).stop i H/\D.nx σ H)∨((Itt K a).go i H/\∃ N:St->Hp->Prop,(∀ σ' H',N σ' H'->∃ m',m'<m/\W (i+1) m' σ' H')/\∀ x H',(Itt K a).yld i H x H'->g x σ H' fun σ2 H2=>tb { D with nx:=N,ct:=N,bk:=D.nx } σ2 H2):=by
 refine⟨fun i m σ H=>m=xs.length - i/\i<=xs.length/\Pv i σ H,⟨xs.length,by simp,Nat.zero_le _,h0⟩,?_⟩
 rintro i m σ H ⟨rfl,hi,p⟩
 have q:=hl i σ H hi p
 by_cases hlt:i<xs.length
 ·refine .inr ⟨⟨xs,xs[i],q,by simp[hlt]⟩,Pv (i+1),fun σ' H' p'=>⟨xs.length - (i+1),by omega,U,hlt,p'⟩,fun x H' y=>?_⟩
  obtain⟨e,y⟩:=y
  subst e
  exact hs i x σ _ (y xs q) p
 ·have e:i=xs.length:=by omega
  subst e
  exact .inl ⟨⟨xs,q,Nat.le_refl _⟩,hd σ H p⟩
theorem bw {lo:Int}{n:Nat}{g:TG}{D:Ends} (Pv:Nat->St->Hp->Prop) (h0:Pv 0 σ H)
  (hs:∀ i σ H,i<n->Pv i σ H->g (.int (lo+i)) σ H fun σ2 H2=>tb { D with nx:=Pv (i+1),ct:=Pv (i+1),bk:=D.nx } σ2 H2) (hd:∀ σ H,Pv n σ H->D.nx σ H) :
  ∃ W:Nat->Nat->St->Hp->Prop,(∃ m,W 0 m σ H)/\∀ i m σ H,W i m σ H ->
   ((Itr lo n).stop i H/\D.nx σ H)∨((Itr lo n).go i H/\∃ N:St->Hp->Prop,(∀ σ' H',N σ' H'->∃ m',m'<m/\W (i+1) m' σ' H')/\∀ x H',(Itr lo n).yld i H x H'->g x σ H' fun σ2 H2=>tb { D with nx:=N,ct:=N,bk:=D.nx } σ2 H2):=by
 refine⟨fun i m σ H=>m=n - i/\i<=n/\Pv i σ H,⟨n,by simp,Nat.zero_le _,h0⟩,?_⟩
 rintro i m σ H ⟨rfl,hi,p⟩
 by_cases hlt:i<n
 ·refine .inr ⟨hlt,Pv (i+1),fun σ' H' p'=>⟨n - (i+1),by omega,U,hlt,p'⟩,fun x H' y=>?_⟩
  obtain⟨e,y⟩:=y
  subst e y
  exact hs i σ _ hlt p
 ·have e:i=n:=by omega
  subst e
  exact .inl ⟨Nat.le_refl _,hd σ H p⟩
theorem ku {c:TT}{D:Ends} (Pv:St->Hp->Prop) (μ:St->Hp->Nat) (h0:Pv σ H)
  (hs:∀ σ H,Pv σ H->c σ H fun b H1=>if b=true then tb { D with nx:=fun σ' H'=>Pv σ' H'/\μ σ' H'<μ σ H,ct:=fun σ' H'=>Pv σ' H'/\μ σ' H'<μ σ H,bk:=D.nx } σ H1 else D.nx σ H1)
  (mono:∀ σ H Q Q',(∀ b H1,Q b H1->Q' b H1)->c σ H Q->c σ H Q'):kH c tb D σ H:=by
 refine⟨fun m σ H=>m=μ σ H/\Pv σ H,⟨_,U,h0⟩,?_⟩
 rintro m σ H ⟨rfl,p⟩
 refine mono σ H _ _ (fun b H1 q=>?_) (hs σ H p)
 cases b with
 | true=>exact⟨_,fun σ' H' ⟨p',l⟩=>⟨_,l,U,p'⟩,q⟩
 | false=>exact q
noncomputable abbrev R2:=V->V->Hp->VK->Prop
noncomputable def OpR (X:Cx) (f:Value->Value->Sem Value) (r:R2):Prop :=
 ∀ (pins:List (Addr×Obj)) (s:Shared) (σ:St) (H:Hp) (x y:V) (v u:Value) (Q:VK),Inv X pins σ H s->RelV x v->RelV y u->r x y H Q ->
  wpAny (model X.prog X.w) X.A (f v u) (EP X pins σ Q) X.xe s
noncomputable def UnR (X:Cx) (f:Value->Sem Value) (r:V->Hp->VK->Prop):Prop :=
 ∀ (pins:List (Addr×Obj)) (s:Shared) (σ:St) (H:Hp) (x:V) (v:Value) (Q:VK),Inv X pins σ H s->RelV x v->r x H Q ->
  wpAny (model X.prog X.w) X.A (f v) (EP X pins σ Q) X.xe s
noncomputable def dG (X:Cx) (f:Value) (r:List V->Hp->VK->Prop):Prop :=
 ∀ (pins:List (Addr×Obj)) (s:Shared) (σ:St) (H:Hp) (xs:List V) (us:List Value) (Q:VK),Inv X pins σ H s->Vals xs us->r xs H Q ->
  wpAny (model X.prog X.w) X.A (call f us) (EP X pins σ Q) X.xe s
noncomputable def TruR (X:Cx) (r:V->Hp->(Bool->Hp->Prop)->Prop):Prop :=
 ∀ (pins:List (Addr×Obj)) (s:Shared) (σ:St) (H:Hp) (x:V) (v:Value) (Q:Bool->Hp->Prop),Inv X pins σ H s->RelV x v->r x H Q ->
  wpAny (model X.prog X.w) X.A (truthy v) (TP X pins σ Q) X.xe s
noncomputable def tOp (r:R2) (ta tb:TE):TE:=fun σ H Q=>ta σ H fun x H1=>tb σ H1 fun y H2=>r x y H2 Q
noncomputable def tUn (r:V->Hp->VK->Prop) (ta:TE):TE:=fun σ H Q=>ta σ H fun x H1=>r x H1 Q
inductive RI_ (C:Int->Int->Prop) (g:Int->Int->V) (x y:V) (H:Hp) (Q:VK):Prop
 | mk (i j:Int) (h1:x=.int i) (h2:y=.int j) (c:C i j) (q:Q (g i j) H):RI_ C g x y H Q
noncomputable def rI (C:Int->Int->Prop) (g:Int->Int->V):R2:=fun x y H Q=>RI_ C g x y H Q
inductive RJ_ (g:Int->Int->V) (x y:V) (H:Hp) (Q:VK):Prop
 | mk (i j:Int) (h1:x=.int i) (h2:y=.int j) (q:Q (g i j) H):RJ_ g x y H Q
noncomputable def rI0 (g:Int->Int->V):R2:=fun x y H Q=>RJ_ g x y H Q
noncomputable def rU (g:Int->V):V->Hp->VK->Prop:=fun x H Q=>∃ i,x=.int i/\Q (g i) H
variable{f:Value->Value->Sem Value}
section
variable {X:Cx}{a b c:Expr}{ta tb tc:TE}{pos:Pos}
theorem qv (ha:PE X a ta) (hb:PE X b tb) {R:V->V->Hp->Prop} (I:Inv X pins σ H s)
  (h:ta σ H fun x H1=>tb σ H1 fun y H2=>R x y H2) {Q:Value->Shared->Prop}{f:Value->Value->Sem Value}
  (hf:∀ v u s2 x y H2,Inv X pins σ H2 s2->RelV x v->RelV y u->R x y H2->wpAny (model X.prog X.w) X.A (f v u) Q X.xe s2) :
  wpAny (model X.prog X.w) X.A (eval a X.env) (fun v s₁=>wpAny (model X.prog X.w) X.A (eval b X.env) (fun u s₂=>wpAny (model X.prog X.w) X.A (f v u) Q X.xe s₂) X.xe s₁) X.xe s:=by
 refine thn (ha pins s σ H _ I h) fun v s1 ⟨x,H1,I1,r1,q1⟩=>?_
 refine thn (hb pins s1 σ H1 _ I1 q1) fun u s2 ⟨y,H2,I2,r2,q2⟩=>?_
 exact hf v u s2 x y H2 I2 r1 r2 q2
theorem aQ {op:Operator}{r:R2} (ho:OpR X (binaryOp op) r) (ha:PE X a ta) (hb:PE X b tb):PE X (.BinOp a op b pos) (tOp r ta tb):=by
 intro pins s σ H Q I h
 exact wpAny_BinOp (qv ha hb I h fun v u s2 x y H2 I2 rx ry q=>ho pins s2 σ H2 x y v u Q I2 rx ry q)
theorem pe_un {op:UnaryOp}{r:V->Hp->VK->Prop} (ho:UnR X (unaryOp op) r) (ha:PE X a ta):PE X (.UnaryOp op a pos) (tUn r ta):=by
 intro pins s σ H Q I h
 exact UnaryOp_ (thn (ha pins s σ H _ I h) fun v s1 ⟨x,H1,I1,r1,q1⟩=>ho pins s1 σ H1 x v Q I1 r1 q1)
theorem opI {C:Int->Int->Prop}{g:Int->Int->Int}
  (rule:∀ (i j:Int) (t u:Tok) (s:Shared) (Q:Value->Shared->Prop) (E:Value->Shared->Prop),C i j->Q (.int (g i j) s.toks) { s with toks:=s.toks+1 }->wpAny (model X.prog X.w) X.A (f (.int i t) (.int j u)) Q E s) :
  OpR X f (rI C fun i j=>.int (g i j)):=by
 intro pins s σ H x y v u Q I rx ry h
 obtain⟨i,j,rfl,rfl,hc,q⟩:=h
 obtain⟨t,rfl⟩:=rx
 obtain⟨t',rfl⟩:=ry
 exact rule i j t t' s _ _ hc ⟨.int (g i j),H,I.tok _,⟨_,U⟩,q⟩
theorem rK {g:Int->Int->Int}
  (rule:∀ (i j:Int) (t u:Tok) (s:Shared) (Q:Value->Shared->Prop) (E:Value->Shared->Prop),Q (.int (g i j) s.toks) { s with toks:=s.toks+1 }->wpAny (model X.prog X.w) X.A (f (.int i t) (.int j u)) Q E s) :
  OpR X f (rI0 fun i j=>.int (g i j)):=by
 intro pins s σ H x y v u Q I rx ry h
 obtain⟨i,j,rfl,rfl,q⟩:=h
 obtain⟨t,rfl⟩:=rx
 obtain⟨t',rfl⟩:=ry
 exact rule i j t t' s _ _ ⟨.int (g i j),H,I.tok _,⟨_,U⟩,q⟩
theorem mQ {g:Int->Int->Bool}
  (rule:∀ (i j:Int) (t u:Tok) (s:Shared) (Q:Value->Shared->Prop) (E:Value->Shared->Prop),Q (.bool (g i j)) s->wpAny (model X.prog X.w) X.A (f (.int i t) (.int j u)) Q E s) :
  OpR X f (rI0 fun i j=>.bl (g i j)):=by
 intro pins s σ H x y v u Q I rx ry h
 obtain⟨i,j,rfl,rfl,q⟩:=h
 obtain⟨t,rfl⟩:=rx
 obtain⟨t',rfl⟩:=ry
 exact rule i j t t' s _ _ ⟨.bl (g i j),H,I,U,q⟩
noncomputable def CDiv (i j:Int):Prop:=0<j/\j<1073741824
noncomputable def CPow (i j:Int):Prop:=0<=j/\j<=1000000/\i.natAbs<2 ^ 64
noncomputable def CMul (i j:Int):Prop:=(-(2 ^ 64)<i/\i<2 ^ 64)∨(-(2 ^ 64)<j/\j<2 ^ 64)
theorem CMul.ok {i j:Int} (h:CMul i j):IntMulOk i j:=by
 rcases h with ⟨h1,h2⟩ | ⟨h1,h2⟩
 ·exact .of_left (intBits_le_64 h1 h2)
 ·exact .of_right (intBits_le_64 h1 h2)
theorem bA:OpR X (binaryOp .Add) (rI0 fun i j=>.int (i+j)):=rK fun _ _ _ _ _ _ _ q=>add_int q
theorem cR:OpR X (binaryOp .Sub) (rI0 fun i j=>.int (i - j)):=rK fun _ _ _ _ _ _ _ q=>sub_int q
theorem cz:OpR X (binaryOp .Mult) (rI CMul fun i j=>.int (i*j)):=opI fun _ _ _ _ _ _ _ hc q=>mul_int q hc.ok
theorem jq:OpR X (binaryOp .FloorDiv) (rI CDiv fun i j=>.int (i / j)):=opI fun i j _ _ _ _ _ hc q=>by
 have h1:(0:Int)<j:=hc.1
 have h2:j<1073741824:=hc.2
 exact floordiv_int (by omega) (by rw[Int.fdiv_eq_ediv_of_nonneg i (by omega)]; exact q) (.inl (PyProof.noPylong_small (by omega)))
theorem cf:OpR X (binaryOp .Mod) (rI (fun _ j=>0<j) fun i j=>.int (i % j)):=opI fun i j _ _ _ _ _ hc q=>by
 have h1:(0:Int)<j:=hc
 exact mod_int' (by omega) (by rw[Int.fmod_eq_emod_of_nonneg i (by omega)]; exact q)
theorem pQ:OpR X (binaryOp .Pow) (rI CPow fun i j=>.int (i ^ j.toNat)):=opI fun _ _ _ _ _ _ _ hc q=>pow_int_small hc.1 hc.2.1 hc.2.2 q
theorem unI {f:Value->Sem Value}{g:Int->Int}
  (rule:∀ (i:Int) (t:Tok) (s:Shared) (Q:Value->Shared->Prop) (E:Value->Shared->Prop),Q (.int (g i) s.toks) { s with toks:=s.toks+1 }->wpAny (model X.prog X.w) X.A (f (.int i t)) Q E s) :
  UnR X f (rU fun i=>.int (g i)):=by
 intro pins s σ H x v Q I rx h
 obtain⟨i,rfl,q⟩:=h
 obtain⟨t,rfl⟩:=rx
 exact rule i t s _ _ ⟨.int (g i),H,I.tok _,⟨_,U⟩,q⟩
theorem oZ:UnR X (unaryOp .USub) (rU fun i=>.int (-i)):=unI fun _ _ _ _ _ q=>neg_int q
end
noncomputable def qF:V->V->Bool
 | .non,.non=>true | .non,.int _=>true | .int _,.non=>true | .non,.bl _=>true | .bl _,.non=>true | .non,.str _=>true | .str _,.non=>true
 | .int _,.int _=>true | .bl _,.bl _=>true | .str _,.str _=>true | .byt _,.byt _=>true
 | .int _,.str _=>true | .str _,.int _=>true | .bl _,.str _=>true | .str _,.bl _=>true
 | _,_=>false
inductive RE_ (x y:V) (H:Hp) (Q:VK):Prop
 | mk (h:qF x y=true) (q:Q (.bl (decide (x=y))) H):RE_ x y H Q
inductive RN_ (x y:V) (H:Hp) (Q:VK):Prop
 | mk (h:qF x y=true) (q:Q (.bl (!decide (x=y))) H):RN_ x y H Q
noncomputable def rEq:R2:=fun x y H Q=>RE_ x y H Q
noncomputable def rNe:R2:=fun x y H Q=>RN_ x y H Q
theorem jA {i j:Int}:decide (V.int i=V.int j)=(i == j):=by
 rw[Bool.eq_iff_iff]
 simp
theorem lU {i j:Bool}:decide (V.bl i=V.bl j)=(i == j):=by
 rw[Bool.eq_iff_iff]
 simp
theorem sne (a b:Str) (h:¬ (V.str a=V.str b):=by decide +kernel):decide (V.str a=V.str b)=false:=decide_eq_false h
theorem jz {i j:Str}:decide (V.str i=V.str j)=(i == j):=by
 rw[Bool.eq_iff_iff]
 simp
theorem jB {i j:Array UInt8}:decide (V.byt i=V.byt j)=(i.toList == j.toList):=by
 rw[Bool.eq_iff_iff]
 cases i
 cases j
 simp
section
variable {X:Cx}{a b c:Expr}{ta tb tc:TE}{pos:Pos}
theorem aO {Q:VK}{k k':Bool} (I:Inv X pins σ H s) (q:Q (.bl k) H) (e:k=k'):EP X pins σ Q (.bool k') s:=by
 subst e
 exact⟨.bl k,H,I,U,q⟩
theorem br:OpR X (compareOp .Eq) rEq:=by
 intro pins s σ H x y v u Q I rx ry h
 obtain⟨hs,q⟩:=h
 cases x with
 | non=>
  cases rx
  cases y with
  | non=>cases ry; exact PySem.EqNone.eq_none_none (aO I q (by simp))
  | bl j=>cases ry; exact PySem.EqNone.eq_none_bool (aO I q (by simp))
  | int j=>obtain⟨t',rfl⟩:=ry; exact PySem.EqNone.eq_none_int (aO I q (by simp))
  | str j=>obtain⟨t',rfl⟩:=ry; exact PySem.EqNone.eq_none_str (aO I q (by simp))
  | _=>exact absurd (show false=true from hs) Bool.false_ne_true
 | bl i=>
  cases rx
  cases y with
  | non=>cases ry; exact PySem.EqNone.eq_bool_none (aO I q (by simp))
  | bl j=>cases ry; exact eq_bool (aO I q lU)
  | str j=>obtain⟨t',rfl⟩:=ry; exact PySem.EqMixed.eq_bool_str (aO I q (by simp))
  | _=>exact absurd (show false=true from hs) Bool.false_ne_true
 | int i=>
  obtain⟨t,rfl⟩:=rx
  cases y with
  | non=>cases ry; exact PySem.EqNone.eq_int_none (aO I q (by simp))
  | int j=>obtain⟨t',rfl⟩:=ry; exact eq_int (aO I q jA)
  | str j=>obtain⟨t',rfl⟩:=ry; exact PySem.EqMixed.eq_int_str (aO I q (by simp))
  | _=>exact absurd (show false=true from hs) Bool.false_ne_true
 | str i=>
  obtain⟨t,rfl⟩:=rx
  cases y with
  | non=>cases ry; exact PySem.EqNone.eq_str_none (aO I q (by simp))
  | bl j=>cases ry; exact PySem.EqMixed.eq_str_bool (aO I q (by simp))
  | int j=>obtain⟨t',rfl⟩:=ry; exact PySem.EqMixed.eq_str_int (aO I q (by simp))
  | str j=>obtain⟨t',rfl⟩:=ry; exact eq_str (aO I q jz)
  | _=>exact absurd (show false=true from hs) Bool.false_ne_true
 | byt i=>
  obtain⟨t,rfl⟩:=rx
  cases y with
  | byt j=>obtain⟨t',rfl⟩:=ry; exact PySem.W.eq_bytes (aO I q jB)
  | _=>exact absurd (show false=true from hs) Bool.false_ne_true
 | _=>cases y <;> exact absurd (show false=true from hs) Bool.false_ne_true
theorem jp:OpR X (compareOp .NotEq) rNe:=by
 intro pins s σ H x y v u Q I rx ry h
 obtain⟨hs,q⟩:=h
 cases x with
 | non=>
  cases rx
  cases y with
  | non=>cases ry; exact PySem.EqNone.ne_none_none (aO I q (by simp))
  | bl j=>cases ry; exact PySem.EqNone.ne_none_bool (aO I q (by simp))
  | int j=>obtain⟨t',rfl⟩:=ry; exact PySem.EqNone.ne_none_int (aO I q (by simp))
  | str j=>obtain⟨t',rfl⟩:=ry; exact PySem.EqNone.ne_none_str (aO I q (by simp))
  | _=>exact absurd (show false=true from hs) Bool.false_ne_true
 | bl i=>
  cases rx
  cases y with
  | non=>cases ry; exact PySem.EqNone.ne_bool_none (aO I q (by simp))
  | bl j=>cases ry; exact ne_bool (aO I q (congrArg not lU))
  | str j=>obtain⟨t',rfl⟩:=ry; exact PySem.EqMixed.ne_bool_str (aO I q (by simp))
  | _=>exact absurd (show false=true from hs) Bool.false_ne_true
 | int i=>
  obtain⟨t,rfl⟩:=rx
  cases y with
  | non=>cases ry; exact PySem.EqNone.ne_int_none (aO I q (by simp))
  | int j=>obtain⟨t',rfl⟩:=ry; exact ne_int (aO I q (congrArg not jA))
  | str j=>obtain⟨t',rfl⟩:=ry; exact PySem.EqMixed.ne_int_str (aO I q (by simp))
  | _=>exact absurd (show false=true from hs) Bool.false_ne_true
 | str i=>
  obtain⟨t,rfl⟩:=rx
  cases y with
  | non=>cases ry; exact PySem.EqNone.ne_str_none (aO I q (by simp))
  | bl j=>cases ry; exact PySem.EqMixed.ne_str_bool (aO I q (by simp))
  | int j=>obtain⟨t',rfl⟩:=ry; exact PySem.EqMixed.ne_str_int (aO I q (by simp))
  | str j=>obtain⟨t',rfl⟩:=ry; exact ne_str (aO I q (congrArg not jz))
  | _=>exact absurd (show false=true from hs) Bool.false_ne_true
 | byt i=>
  obtain⟨t,rfl⟩:=rx
  cases y with
  | byt j=>obtain⟨t',rfl⟩:=ry; exact PySem.W.ne_bytes (aO I q (congrArg not jB))
  | _=>exact absurd (show false=true from hs) Bool.false_ne_true
 | _=>cases y <;> exact absurd (show false=true from hs) Bool.false_ne_true
theorem bO:OpR X (compareOp .Lt) (rI0 fun i j=>.bl (decide (i<j))):=mQ fun _ _ _ _ _ _ _ q=>lt_int q
theorem op_le:OpR X (compareOp .LtE) (rI0 fun i j=>.bl (decide (i<=j))):=mQ fun _ _ _ _ _ _ _ q=>le_int q
theorem iu:OpR X (compareOp .Gt) (rI0 fun i j=>.bl (decide (j<i))):=mQ fun _ _ _ _ _ _ _ q=>gt_int q
theorem f8:OpR X (compareOp .GtE) (rI0 fun i j=>.bl (decide (j<=i))):=mQ fun _ _ _ _ _ _ _ q=>ge_int q
theorem fh : OpR X (compareOp .Is) (fun x y H Q=>y=.non/\Q (.bl (decide (x=.non))) H) := by
  intro pins s σ H x y v u Q I rx ry h
  obtain⟨rfl, q⟩ := h
  cases ry
  refine is_none_gen (aO I q ?_)
  cases x <;> first
    | (cases rx; rfl)
    | (obtain ⟨t, rfl⟩ := rx; rfl)
theorem d5 : OpR X (compareOp .IsNot) (fun x y H Q=>y=.non/\Q (.bl (!decide (x=.non))) H) := by
  intro pins s σ H x y v u Q I rx ry h
  obtain⟨rfl, q⟩ := h
  cases ry
  refine isnot_none_gen (aO I q ?_)
  cases x <;> first
    | (cases rx; rfl)
    | (obtain ⟨t, rfl⟩ := rx; rfl)
theorem ar (b:Expr) {op:CmpOp} (h:op≠.In:=by decide) (h2:op≠.NotIn:=by decide):behindInMarks op b=false:=by
 have e1:(op == CmpOp.In)=false:=by cases op <;> first | rfl | exact absurd rfl h
 have e2:(op == CmpOp.NotIn)=false:=by cases op <;> first | rfl | exact absurd rfl h2
 cases b <;> simp[behindInMarks,e1,e2]
theorem gT {op:CmpOp}{r:R2} (ho:OpR X (compareOp op) r) (ha:PE X a ta) (hb:PE X b tb) (hm:behindInMarks op b=false):PE X (.Compare a [op] [b] pos) (tOp r ta tb):=by
 intro pins s σ H Q I h
 exact wpAny_Compare1 (qv ha hb I h fun v u s2 x y H2 I2 rx ry q=>ho pins s2 σ H2 x y v u Q I2 rx ry q) hm
noncomputable def tTest (t:TE):TT:=fun σ H Q=>t σ H (TB_ Q)
theorem ap {op:CmpOp}{r:R2} (ho:OpR X (compareOp op) r) (ha:PE X a ta) (hb:PE X b tb) (hm:behindInMarks op b=false):PT X (.Compare a [op] [b] pos) (tTest (tOp r ta tb)):=by
 intro pins s σ H Q I h
 refine wpAny_isTrue_Compare1 (thn (ha pins s σ H _ I h) fun v s1 ⟨x,H1,I1,r1,q1⟩=>thn (hb pins s1 σ H1 _ I1 q1) fun u s2 ⟨y,H2,I2,r2,q2⟩=>
  thn (ho pins s2 σ H2 x y v u _ I2 r1 r2 q2) fun c s3 ⟨z,H3,I3,r3,k,e,q3⟩=>?_) hm
 subst e
 cases r3
 exact wpAny_truthy_bool ⟨H3,I3,q3⟩
noncomputable def rY (K:PySem.W.Frag) (x:V) (H:Hp) (k:Bool):Prop :=
 match x with
 | .non=>k=false
 | .bl b=>k=b
 | .int i=>k=(i != 0)
 | .str y=>y.length<=sizeLine/\k=((y.length:Int) != 0)
 | .byt y=>y.size<=sizeLine/\k=((y.size:Int) != 0)
 | .ref p=>(∃ xs,SqL K H p xs/\k = !xs.isEmpty)∨(∃ xs,SqT K H p xs/\k = !xs.isEmpty)∨∃ kvs,H p=some (.dK kvs)/\k = !kvs.isEmpty
 | _=>False
theorem i0 {κ:Type}{kvs:List (κ×V)}{vs:List (κ×Value)} (r:KV kvs vs):(!vs.isEmpty) = !kvs.isEmpty:=by
 cases r <;> rfl
theorem fF {xs:List V}{its:List Value} (r:Vals xs its):(!its.toArray.isEmpty) = !xs.isEmpty:=by
 cases r <;> simp
theorem fC:(sizeLine:Nat)<2 ^ 63:=by rw[sizeLine_eq]; decide
theorem o8:TruR X (fun x H Q=>∃ k,rY X.K x H k/\Q k H):=by
 intro pins s σ H x v Q I rx h
 obtain⟨k,e,q⟩:=h
 have hl:=fC
 have hs:sizeLine=16777216:=sizeLine_eq
 cases x with
 | non=>
  cases rx
  have e':k=false:=e
  subst e'
  exact truthy_none ⟨H,I,q⟩
 | bl b=>
  cases rx
  have e':k=b:=e
  subst e'
  exact wpAny_truthy_bool ⟨H,I,q⟩
 | int i=>
  obtain⟨t,rfl⟩:=rx
  have e':k=(i != 0):=e
  subst e'
  exact PySem.P.truthy_int ⟨H,I,q⟩
 | str y=>
  obtain⟨t,rfl⟩:=rx
  obtain⟨hy,e'⟩:y.length<=sizeLine/\k=((y.length:Int) != 0):=e
  subst e'
  exact PySem.P.truthy_str (by omega) ⟨H,I.tok _,q⟩
 | byt y=>
  obtain⟨t,rfl⟩:=rx
  obtain⟨hy,e'⟩:y.size<=sizeLine/\k=((y.size:Int) != 0):=e
  subst e'
  exact PySem.W.truthy_bytes (by omega) ⟨H,I.tok _,q⟩
 | ref p=>
  cases rx
  have e':(∃ xs,SqL X.K H p xs/\k = !xs.isEmpty)∨(∃ xs,SqT X.K H p xs/\k = !xs.isEmpty)∨∃ kvs,H p=some (.dK kvs)/\k = !kvs.isEmpty:=e
  rcases e' with ⟨xs,hx,e'⟩ | ⟨xs,hx,e'⟩ | ⟨kvs,hx,e'⟩
  ·subst e'
   obtain⟨its,r,pl,hz⟩:=I.list hx
   have hlen:=r.length
   exact wpAny_truthy_list pl.isList (by simp only[sI]; omega) ⟨H,I.tok _,by rw[fF r]; exact q⟩
  ·subst e'
   obtain⟨its,r,pl,hz⟩:=I.tuple hx
   have hlen:=r.length
   exact truthy_tuple pl (by simp only[sI]; omega) ⟨H,I.tok _,by rw[fF r]; exact q⟩
  ·subst e'
   obtain⟨hz,hS,vs,r,m⟩:kvs.length<=sizeLine/\(p == sysModules)=false/\∃ vs,KV kvs vs/\s.heap.DictOf (bc X.prog X.w) p vs:=I.hok p _ hx
   have hlen:kvs.length=vs.length:=Paired.length r
   exact wpAny_truthy_dict hS m (by omega) ⟨H,I.tok _,by rw[i0 r]; exact q⟩
 | _=>exact(show False from e).elim
theorem db (ha:PE X a ta) (he:∀ whole,isTrue a X.env whole=(do let v <- whole; standAt a.pos; holding [v] (truthy v))) :
  PT X a (fun σ H Q=>ta σ H fun x H'=>∃ k,rY X.K x H' k/\Q k H'):=by
 intro pins s σ H Q I h
 exact isTrue_plain (thn (ha pins s σ H _ I h) fun v s1 ⟨x,H1,I1,r1,q1⟩=>o8 pins s1 σ H1 x v Q I1 r1 q1) (he _)
theorem eI {x:V} (r:Vals [x] us):∃ u,us=[u]/\RelV x u:=by
 cases r with
 | cons r1 r2=>cases r2; exact⟨_,U,r1⟩
theorem kC {x y:V} (r:Vals [x,y] us):∃ u w',us=[u,w']/\RelV x u/\RelV y w':=by
 cases r with
 | cons r1 r2=>
  cases r2 with
  | cons r3 r4=>cases r4; exact⟨_,_,U,r1,r3⟩
theorem lY:dG X (.builtin "abs") (fun xs H Q=>∃ i,xs=[.int i]/\Q (.int (if i<0 then -i else i)) H):=by
 intro pins s σ H xs us Q I r h
 obtain⟨i,rfl,q⟩:=h
 obtain⟨u,rfl,t,rfl⟩:=eI r
 exact call_abs_int fun u tk=>⟨.int (if i<0 then -i else i),H,I.tok _,⟨_,U⟩,q⟩
theorem kn:dG X (.type "int") (fun xs H Q=>(∃ i,xs=[.int i]/\Q (.int i) H)∨∃ k,xs=[.bl k]/\Q (.int (if k then 1 else 0)) H):=by
 intro pins s σ H xs us Q I r h
 rcases h with ⟨i,rfl,q⟩ | ⟨k,rfl,q⟩
 ·obtain⟨u,rfl,t,rfl⟩:=eI r
  exact call_int_int ⟨.int i,H,I,⟨_,U⟩,q⟩
 ·obtain⟨u,rfl,r1⟩:=eI r
  cases r1
  exact call_int_bool ⟨.int (if k then 1 else 0),H,I.tok _,⟨_,U⟩,q⟩
end
structure ObjM (h:Heap) (x dx C:Addr) (mA:Str->Option Value):Prop where
 obj:h.get? x=some (PySem.W.instObj C dx)
 ns:h.Ns1 dx mA
 ne:dx≠x
theorem jU {dx:Addr}{mA:Str->Option Value} (n:h.Ns1 dx mA):∃ od,h.get? dx=some od/\∀ name,PySem.W.lookIn name od=some (mA name):=by
 obtain⟨o,es,ep,ho,hd,hk,_,hm⟩:=n
 refine⟨o,ho,fun name=>?_⟩
 have e:=hm name
 unfold nsFind findBy at e
 rw[<- Array.find?_toList] at e
 unfold PySem.W.lookIn
 rw[hd]
 dsimp only
 split
 ·rename_i y q
  rw[q] at e
  exact congrArg some e
 ·rename_i q
  rw[q] at e
  have a:es.toList.any (·.refKey)=false:=by
   rw[List.any_eq_false]
   intro y hy
   obtain⟨z,t,hkey⟩:=hk y (Array.mem_toList_iff.mp hy)
   simp[DictEntry.refKey,hkey]
  have a':¬ es.toList.any (·.refKey)=true:=by rw[a]; exact Bool.false_ne_true
  rw[if_neg a']
  exact congrArg some e
theorem ObjM.look {x dx C:Addr}{mA:Str->Option Value} (I:ObjM h x dx C mA):∃ od,PySem.W.InstAt h x (PySem.W.instObj C dx) C (some od)/\∀ name,PySem.W.lookIn name od=some (mA name) :=
 let ⟨od,ho,hl⟩:=jU I.ns
 ⟨od,⟨I.obj,U,U,ho⟩,hl⟩
variable{kw:List (Str×Value)}
section
variable {prog:Program}{w:World}{A:Around}{E:Value->Shared->Prop}{s:Shared}{K:PySem.W.Frag}{x dx C f:Addr}{mA:Str->Option Value}{name:Str}{v:Value}
theorem m7 {expr:Bool} (X:K.In s.heap) (I:ObjM s.heap x dx C mA) (hg:W.plainGet K C name=true) (hh:W.hasDictIn K C=true)
  (ha:W.findIn K (.ref C) name=some none) (hv:mA name=some v) (hv':PySem.W.handedIn v=true) (h:Q v { s with toks:=s.toks+1 }) :
  wpAny (model prog w) A (getAttr (.ref x) name expr) Q E s:=by
 obtain⟨od,J,hl⟩:=I.look
 exact PySem.W.get_value X J (PySem.W.plainGet_of hg).1 (PySem.W.findObj_own hh ha rfl (by rw[hl,hv])) hv' h
theorem lK {pl:Sem Bool}{Q:Value×List Value->Shared->Prop} (X:K.In s.heap) (I:ObjM s.heap x dx C mA) (hg:W.plainGet K C name=true)
  (hf:W.findIn K (.ref C) name=some (some (.ref f))) (ht:W.isFn K (.ref f)=true) (hv:mA name=none) (h:Q (.ref f,[.ref x]) s) :
  wpAny (model prog w) A (getMethod (.ref x) name pl) Q E s:=by
 obtain⟨od,J,hl⟩:=I.look
 exact PySem.W.method_fn X J (PySem.W.plainGet_of hg).1 (PySem.W.plainGet_of hg).2 hf (beq_iff_eq.mp ht) (by show(PySem.W.lookIn name od).map (·.isSome)=some false; rw[hl,hv]; rfl) h
theorem mG {ns:List Str}{Q:Unit->Shared->Prop} (X:K.In s.heap) (I:ObjM s.heap x dx C mA)
  (hs:W.findIn K (.ref C) "__setattr__" = some (some (.builtin "object.__setattr__"))) (hp:W.plainOver K C=true) (ht:PySem.W.takerIn K C name=some none) (hh:W.hasDictIn K C=true)
  (hw:PySem.Within mA ns) (hsz:ns.length<=sizeLine)
  (h:∀ h',ObjM h' x dx C (fun y=>if y=name then some v else mA y)->Heap.SameBut dx s.heap h'->Q () { s with heap:=h',toks:=s.toks+2 }) :
  wpAny (model prog w) A (setAttr (.ref x) name v) Q E s:=by
 obtain⟨od,J,hl⟩:=I.look
 refine PySem.W.set_plain X J hs (PySem.W.osa_open (s:={ s with toks:=s.toks+1 }) (r:=none) X J hp ht fun b=>?_)
 obtain⟨cd,hc,hd'⟩:=PySem.W.any_some hh
 have hx:s.heap.get? x=some ⟨.ref C,some dx,.plain,#[]⟩:=I.obj
 refine wpAny_bind (wpAny_pure (wpAny_bind (wpAny_bind (wpAny_loadPart hx (wpAny_bind (PySem.W.Looks.here (s:={ s with toks:=s.toks+1 }) (PySem.W.looks_clsIn X hc) ?_))))))
 rw[hd']
 refine wpAny_pure (a:=some dx) (wpAny_bind (wpAny_pure (wpAny_bind ?_)))
 refine wpAny_nsSet1 (s:={ s with toks:=s.toks+1 }) I.ns fun h' hn2 hs2=>?_
 obtain⟨oD,esD,epD,hoD,hdD,hcD⟩:=hn2.count (PySem.Within.cons name v hw)
 refine wpAny_bind (wpAny_lookBehind hoD (by rw[hdD]; exact pastItsLine_dict (Nat.le_trans hcD (by rw[sG]; omega))) ?_)
 exact wpAny_pure (h _ ⟨(hs2.2 _ (Ne.symm I.ne)).trans I.obj,hn2,I.ne⟩ hs2)
theorem lC {R:Result->Shared->Prop}{vs:List Value} (X:K.In s.heap) (hm:W.makesIn K C=true)
  (hi:W.findIn K (.ref C) "__init__" = some (some (.ref f))) (hf:PySem.W.typeIn K (.ref f)=some (.type "function"))
  (h:codeAny (model prog w) (A.under (.builtin "type.__call__" ⟨.ref C::vs,kw⟩)) (.call (.ref f) ⟨.ref (s.heap.objs.size+1)::vs,kw⟩) (PySem.W.InitBack (s.heap.objs.size+1) R)
   { s with heap:=(s.heap.push PySem.W.emptyDict).push (PySem.W.instObj C s.heap.objs.size) }) :
  codeAny (model prog w) A (.call (.ref C) ⟨vs,kw⟩) R s:=by
 obtain⟨hh,g,d,t,os⟩:=s
 exact PySem.W.make_core (PySem.W.makes_of X hm) (PySem.W.looks_findIn X hi) (fun self=>PySem.W.bind_fn X self hf) (.inl rfl) h
end
noncomputable def aX (f : Str) (v : V) : List (Str×V)->List (Str×V)
  | []=>[(f, v)]
  | (g, x) :: r => if g = f then (g, v) :: r else (g, x) :: aX f v r
theorem dQ (f g : Str) (v : V) : ∀ fs : List (Str×V), (aX f v fs).lookup g=if g=f then some v else fs.lookup g
  | []=>by
    show List.lookup g [(f, v)]=_
    by_cases h : g=f
    · have hb : (g == f)=true := beq_iff_eq.mpr h
      simp only[List.lookup, hb, if_pos h]
    · have hb : (g == f)=false := beq_eq_false_iff_ne.mpr h
      simp only[List.lookup, hb, if_neg h]
  | (k, x) :: r => by
    have ih := dQ f g v r
    rw[show aX f v ((k, x)::r)=(if k=f then(k, v)::r else(k, x)::aX f v r) from rfl]
    by_cases hk : k=f
    · rw[if_pos hk]
      by_cases h : g=k
      · have hb : (g == k)=true := beq_iff_eq.mpr h
        simp only[List.lookup, hb, if_pos (h.trans hk)]
      · have hb : (g == k)=false := beq_eq_false_iff_ne.mpr h
        simp only[List.lookup, hb, if_neg (fun e : g=f=>h (e.trans hk.symm))]
    · rw[if_neg hk]
      by_cases h : g=k
      · have hb : (g == k)=true := beq_iff_eq.mpr h
        simp only[List.lookup, hb, if_neg (fun e : g=f=>hk (h.symm.trans e))]
      · have hb : (g == k)=false := beq_eq_false_iff_ne.mpr h
        simp only[List.lookup, hb]
        exact ih
theorem dM (f : Str) (v : V) : ∀ fs : List (Str×V), f ∈ (aX f v fs).map (·.1)/\∀ g, g ∈ fs.map (·.1)->g ∈ (aX f v fs).map (·.1)
  | []=>⟨by simp[aX], fun g h=>by simp at h⟩
  | (k, x) :: r => by
    obtain⟨i1, i2⟩ := dM f v r
    rw[show aX f v ((k, x)::r)=(if k=f then(k, v)::r else(k, x)::aX f v r) from rfl]
    by_cases hk : k=f
    · rw[if_pos hk]
      subst hk
      exact⟨by simp, fun g h=>by simpa using h⟩
    · rw[if_neg hk]
      refine⟨?_, fun g h=>?_⟩
      · rw[sH]
        exact r9 _ i1
      · rw[sH] at h ⊢
        rcases sD.mp h with e | e
        · exact sD.mpr (.inl e)
        · exact r9 _ (i2 g e)
theorem dR (f : Str) (v : V) : ∀ fs : List (Str×V), (aX f v fs).length<=fs.length+1
  | []=>by simp[aX]
  | (k, x) :: r => by
    have ih := dR f v r
    rw[show aX f v ((k, x)::r)=(if k=f then(k, v)::r else(k, x)::aX f v r) from rfl]
    by_cases hk : k=f
    · rw[if_pos hk, sG, sG]; omega
    · rw[if_neg hk, sG, sG]; omega
theorem RelO.some_of {v:V}{o:Option Value} (r:RelO (some v) o):∃ u,o=some u/\RelV v u:=by
 cases o with
 | none=>exact(show False from r).elim
 | some u=>exact⟨u,U,r⟩
theorem RelO.none_of {o:Option Value} (r:RelO none o):o=none:=by
 cases o with
 | none=>rfl
 | some u=>exact(show False from r).elim
theorem j8 {v:V}{u:Value} (r:RelV v u):PySem.W.handedIn u=true:=by
 cases v with
 | non=>cases (show u=Value.none from r); rfl
 | bl b=>cases (show u=Value.bool b from r); rfl
 | int i=>obtain⟨t,e⟩:=(show ∃ t,u=Value.int i t from r); cases e; rfl
 | str x=>obtain⟨t,e⟩:=(show ∃ t,u=Value.str x t from r); cases e; rfl
 | byt b=>obtain⟨t,e⟩:=(show ∃ t,u=Value.bytes b t from r); cases e; rfl
 | flt b=>obtain⟨t,e⟩:=(show ∃ t,u=Value.float b t from r); cases e; rfl
 | ref a=>cases (show u=Value.ref a from r); rfl
 | ty n=>cases (show u=Value.type n from r); rfl
section
variable {P:Program}{w:World}{H H':Hp}{h h':Heap}{a C dx:Addr}{fs fs':List (Str×V)}
theorem d9 (hok:HOk P w H h) (e:H a=some (.ins C dx fs)):∃ mA,ObjM h a dx C mA/\(∀ f,RelO (fs.lookup f) (mA f))/\PySem.Within mA (fs.map (·.1))/\fs.length<=1000/\H dx=some (.own a):=by
 obtain⟨d,z,ne,ob,mA,n,r,q⟩:=(show ObjOk P w H h a (.ins C dx fs) from hok a _ e)
 exact⟨mA,⟨ob,n,ne⟩,r,q,z,d⟩
end
structure Cls (K:PySem.W.Frag) (C:Addr):Prop where
 pg:W.plainGet K C Str.empty=true
 hd:W.hasDictIn K C=true
 po:W.plainOver K C=true
 sa:W.findIn K (.ref C) "__setattr__" = some (some (.builtin "object.__setattr__"))
theorem Cls.get {C:Addr} (c:Cls K C) (f:Str):W.plainGet K C f=true:=c.pg
noncomputable def NoAttr (K:PySem.W.Frag) (C:Addr) (f:Str):Prop:=W.findIn K (.ref C) f=some none
theorem NoAttr.taker {C:Addr}{f:Str} (n:NoAttr K C f):PySem.W.takerIn K C f=some none:=by
 unfold PySem.W.takerIn
 rw[show W.findIn K (.ref C) f=some none from n]
 rfl
structure Con (K:PySem.W.Frag) (C:Addr) (f:Str) (v:V) (u:Value):Prop where
 at_:W.findIn K (.ref C) f=some (some u)
 rel:RelV v u
 get:PySem.W.specialIn K u "__get__" = some none
 cp:PySem.W.copiedNames.contains f=false
structure Meth (K:PySem.W.Frag) (C:Addr) (m:Str) (f:Addr):Prop where
 at_:W.findIn K (.ref C) m=some (some (.ref f))
 fn:W.isFn K (.ref f)=true
 kp:W.keepIn K (.ref f)=true
section
variable {X:Cx}{pins:List (Addr×Obj)}{σ:St}{H:Hp}{s:Shared}{a C dx:Addr}{fs:List (Str×V)}{f:Str}{v:V}{A:Around}{E:Value->Shared->Prop}
theorem fH {b:Bool} (I:Inv X pins σ H s) (e:H a=some (.ins C dx fs)) (c:Cls X.K C) (n:NoAttr X.K C f) (l:fs.lookup f=some v)
  (h:∀ u s',Inv X pins σ H s'->RelV v u->Q u s'):wpAny (model X.prog X.w) A (getAttr (.ref a) f b) Q E s:=by
 obtain⟨mA,O,r,_,_,_⟩:=d9 I.hok e
 obtain⟨u,hu,ru⟩:=RelO.some_of (v:=v) (o:=mA f) (by rw[<- l]; exact r f)
 exact m7 I.kIn O (c.get f) c.hd n hu (j8 ru) (h u _ (I.tok _) ru)
theorem cV {m:Str}{g:Addr}{pl:Sem Bool}{Q:Value×List Value->Shared->Prop} (I:Inv X pins σ H s) (e:H a=some (.ins C dx fs)) (c:Cls X.K C) (k:Meth X.K C m g) (l:fs.lookup m=none)
  (h:Q (.ref g,[.ref a]) s):wpAny (model X.prog X.w) A (getMethod (.ref a) m pl) Q E s:=by
 obtain⟨mA,O,r,_,_,_⟩:=d9 I.hok e
 have hn:mA m=none:=RelO.none_of (by rw[<- l]; exact r m)
 exact lK I.kIn O (c.get m) k.at_ k.fn hn h
theorem eQ {y:V}{u:Value}{Q:Unit->Shared->Prop} (I:Inv X pins σ H s) (e:H a=some (.ins C dx fs)) (c:Cls X.K C) (n:NoAttr X.K C f) (hl:fs.length<1000) (ry:RelV y u)
  (h:∀ s',Inv X pins σ (upd H a (.ins C dx (aX f y fs))) s'->Q () s'):wpAny (model X.prog X.w) A (setAttr (.ref a) f u) Q E s:=by
 obtain⟨mA,O,r,wi,_,ho⟩:=d9 I.hok e
 have hz:(fs.map (·.1)).length<=sizeLine:=by rw[su,sizeLine_eq]; omega
 refine mG I.kIn O c.sa c.po n.taker c.hd wi hz fun h' O' sb=>h _ ?_
 have hd:∃ o,h'.get? dx=some o:=let ⟨o,_,_,e',_⟩:=O'.ns; ⟨o,e'⟩
 refine I.write (x:=a) (e:=dx) (by rw[e]; exact True.intro) (.inr ho) (fun b q hb z=>(sb.2 b hb).trans z) hd ?_
 refine⟨by rw[aA O.ne]; exact ho,?_,O.ne,O'.obj,_,O'.ns,fun g=>?_,fun g hg=>?_⟩
 ·have:=dR f y fs; omega
 ·show RelO ((aX f y fs).lookup g) (if g=f then some u else mA g)
  rw[dQ]
  by_cases q:g=f
  ·rw[if_pos q,if_pos q]; exact ry
  ·rw[if_neg q,if_neg q]; exact r g
 ·by_cases q:g=f
  ·rw[q]; exact(dM f y fs).1
  ·refine(dM f y fs).2 g (wi g fun z=>hg ?_)
   show(if g=f then some u else mA g)=none
   rw[if_neg q]; exact z
theorem Inv.made (I:Inv X pins σ H s):Inv X pins σ (upd (upd H s.heap.objs.size (.own (s.heap.objs.size+1))) (s.heap.objs.size+1) (.ins C s.heap.objs.size []))
  { s with heap:=(s.heap.push PySem.W.emptyDict).push (PySem.W.instObj C s.heap.objs.size) }:=by
 have e1:(s.heap.push PySem.W.emptyDict).get? s.heap.objs.size=some PySem.W.emptyDict:=Heap.get?_push_size s.heap rfl
 have e2:((s.heap.push PySem.W.emptyDict).push (PySem.W.instObj C s.heap.objs.size)).get? (s.heap.objs.size+1)=some (PySem.W.instObj C s.heap.objs.size):=by
  have:=Heap.get?_push_size (s.heap.push PySem.W.emptyDict) (o:=PySem.W.instObj C s.heap.objs.size) rfl
  rwa [Heap.size_push] at this
 have e3:(s.heap.push PySem.W.emptyDict).Ns s.heap.objs.size (fun _=>none):=⟨PySem.W.emptyDict,#[],_,e1,U,(fun e he=>absurd he (by simp)),fun _=>rfl⟩
 have I1:=I.laid (a:=s.heap.objs.size) (o:=.own (s.heap.objs.size+1)) (h':=s.heap.push PySem.W.emptyDict) (t':=s.toks) (fun b u q=>Heap.get?_push_of_some _ q) (Nat.le_refl _) ⟨_,e1⟩
 refine I1.laid (a:=s.heap.objs.size+1) (o:=.ins C s.heap.objs.size []) (t':=s.toks) (fun b u q=>Heap.get?_push_of_some _ q) (Nat.le_of_eq (Heap.size_push _ _)) ?_
 have ne:s.heap.objs.size≠s.heap.objs.size+1:=Nat.ne_of_lt (Nat.lt_succ_self _)
 refine⟨by rw[aA ne,bx],Nat.zero_le _,ne,e2,fun _=>none,(Heap.Ns1.of_empty e3).at fun o q=>Heap.get?_push_of_some _ q,fun _=>True.intro,fun y hy=>absurd rfl hy⟩
theorem nD {prog:Program}{w:World}{env:Env}{f:Str}{s:Shared} (hb:attributeBase e f env (eval e env)=eval e env)
  (h:wpAny (model prog w) A (eval e env) (fun o s₁=>wpAny (model prog w) A (getAttr o f true) Q E s₁) E s):wpAny (model prog w) A (eval (.Attribute e f pos) env) Q E s :=
 Attribute_any_ h (by rw[arm_eval_Attribute,hb])
end
inductive TF_ (K:PySem.W.Frag) (f:Str) (Q:VK) (x:V) (H:Hp):Prop
 | mk (a C dx:Addr) (fs:List (Str×V)) (v:V) (h1:x=.ref a) (h2:H a=some (.ins C dx fs)) (h3:Cls K C) (h4:NoAttr K C f) (h5:fs.lookup f=some v) (q:Q v H):TF_ K f Q x H
noncomputable def tFld (K:PySem.W.Frag) (ta:TE) (f:Str):TE:=fun σ H Q=>ta σ H (TF_ K f Q)
noncomputable def sFld (K:PySem.W.Frag) (ta tv:TE) (f:Str):TS:=fun D σ H=>tv σ H fun y H1=>ta σ H1 fun x H2=>∃ a C dx fs,x=.ref a/\H2 a=some (.ins C dx fs)/\Cls K C/\NoAttr K C f/\fs.length<1000 /\
 D.nx σ (upd H2 a (.ins C dx (aX f y fs)))
noncomputable def r8 (X:Cx) (op:Operator) (rd:V->V->Hp->VK->Prop):Prop :=
 ∀ (pins:List (Addr×Obj)) (s:Shared) (σ:St) (H:Hp) (x y:V) (u v:Value) (Q:VK),Inv X pins σ H s->RelV x u->RelV y v->rd x y H Q->wpAny (model X.prog X.w) X.A (inplaceOp op u v) (EP X pins σ Q) X.xe s
noncomputable def mI (K:PySem.W.Frag) (ta tv:TE) (rd:V->V->Hp->VK->Prop) (f:Str):TS:=fun D σ H=>ta σ H fun x H1=>∃ a C dx fs v,x=.ref a/\H1 a=some (.ins C dx fs)/\Cls K C/\NoAttr K C f/\fs.lookup f=some v /\
 tv σ H1 fun y H2=>rd v y H2 fun z H3=>∃ dx' fs',H3 a=some (.ins C dx' fs')/\fs'.length<1000/\D.nx σ (upd H3 a (.ins C dx' (aX f z fs')))
section
variable {X:Cx}{o e value:Expr}{f:Str}{pos pos' tpos:Pos}{ta tv:TE}
theorem aw (he:PE X e ta) (hb:attributeBase e f X.env (eval e X.env)=eval e X.env):PE X (.Attribute e f pos) (tFld X.K ta f):=by
 intro pins s σ H Q I h
 refine nD hb (thn (he pins s σ H _ I h) fun u s1 ⟨x,H1,I1,rx,a,C,dx,fs,v,ex,ea,c,n,l,q⟩=>?_)
 subst ex
 obtain rfl:u=Value.ref a:=rx
 exact fH I1 ea c n l fun u' s2 I2 ru=>⟨v,H1,I2,ru,q⟩
theorem aZ (ha:PE X o ta) (hv:PE X value tv) (hs:swapsWith value (some (.Attribute o f pos')) pos.line X.env=pure false):PS X (.Assign [.Attribute o f pos'] value pos) (sFld X.K ta tv f):=by
 intro pins s σ H D I h
 refine plainObj_wpAny_Assign_Attribute (thn (hv pins s σ H _ I h) fun u s1 ⟨y,H1,I1,ry,q⟩=>thn (ha pins s1 σ H1 _ I1 q) fun ov s2 ⟨x,H2,I2,rx,a,C,dx,fs,ex,ea,c,n,l,q2⟩=>?_) hs
 subst ex
 obtain rfl:ov=Value.ref a:=rx
 exact eQ I2 ea c n l ry fun s3 I3=>⟨σ,_,I3,q2⟩
theorem jO {op:Operator}{rd:V->V->Hp->VK->Prop} (ha:PE X o ta) (hv:PE X value tv) (hop:r8 X op rd):PS X (.AugAssign (.Attribute o f tpos) op value pos) (mI X.K ta tv rd f):=by
 intro pins s σ H D I h
 refine wpAny_AugAssign_AttributeAny (thn (ha pins s σ H _ I h) fun ov s1 ⟨x,H1,I1,rx,a,C,dx,fs,v,ex,ea,c,n,l,q⟩=>?_)
 subst ex
 obtain rfl:ov=Value.ref a:=rx
 refine fH I1 ea c n l fun u s2 I2 ru=>thn (hv pins s2 σ H1 _ I2 q) fun w3 s3 ⟨y,H2,I3,ry,q3⟩=>thn (hop pins s3 σ H2 v y u w3 _ I3 ru ry q3) fun w4 s4 ⟨z,H3,I4,rz,dx',fs',ea',l',q4⟩=>?_
 exact eQ I4 ea' c n l' rz fun s5 I5=>⟨σ,_,I5,q4⟩
noncomputable def rAdd:V->V->Hp->VK->Prop:=fun x y H Q=>∃ i j,x=.int i/\y=.int j/\Q (.int (i+j)) H
theorem qp:r8 X .Add rAdd:=by
 rintro pins s σ H x y u v Q I rx ry ⟨i,j,rfl,rfl,q⟩
 obtain⟨t,rfl⟩:=(show ∃ t,u=Value.int i t from rx)
 obtain⟨t',rfl⟩:=(show ∃ t',v=Value.int j t' from ry)
 exact PyProof.Rows.iadd_int ⟨.int (i+j),H,I.tok _,⟨_,U⟩,q⟩
end
section
variable {X:Cx}{pins:List (Addr×Obj)}{σ:St}{H:Hp}{s:Shared}{A:Around}{E:Value->Shared->Prop}{Q:Value->Shared->Prop}{c:Value}{b:Bool}
inductive TyOf (K:PySem.W.Frag) (H:Hp):V->Value->Prop where
 | non:TyOf K H .non (.type "NoneType")
 | bl (x:Bool):TyOf K H (.bl x) (.type "bool")
 | int (i:Int):TyOf K H (.int i) (.type "int")
 | str (x:Str):TyOf K H (.str x) (.type "str")
 | flt (x:UInt64):TyOf K H (.flt x) (.type "float")
 | lst {a:Addr}{xs:List V} (e:H a=some (.lst xs)):TyOf K H (.ref a) (.type "list")
 | frz {a:Addr}{o:Obj}{xs:List V} (e:H a=some (.frz o (.lst xs))):TyOf K H (.ref a) (.type "list")
 | tup {a:Addr}{xs:List V} (e:H a=some (.tup xs)):TyOf K H (.ref a) (.type "tuple")
 | dK {a:Addr}{kvs:List (Key×V)} (e:H a=some (.dK kvs)):TyOf K H (.ref a) (.type "dict")
 | dT {a:Addr}{kvs:List (List Key×V)} (e:H a=some (.dT kvs)):TyOf K H (.ref a) (.type "dict")
 | ins {a C dx:Addr}{fs:List (Str×V)} (e:H a=some (.ins C dx fs)) (cl:Cls K C) (ha:W.findIn K (.ref C) "__class__" = some (some (.builtin "object.__class__")))
   (hn:PySem.W.specialIn K (.builtin "object.__class__") "__get__" = some (some (.builtin "getset_descriptor.__get__"))) (htk:PySem.W.takesIn K (.builtin "object.__class__")=some true)
   (hm:PySem.W.mroIn K C (.type "object")=some true):TyOf K H (.ref a) (.ref C)
theorem j0 {x:V}{u t:Value} (I:Inv X pins σ H s) (rx:RelV x u) (ty:TyOf X.K H x t) (e:PySem.W.kitOne X.K t c=some b) (h:∀ tk,Q (.bool b) { s with toks:=tk }) :
  wpAny (model X.prog X.w) A (call (.builtin "isinstance") [u,c]) Q E s:=by
 cases ty with
 | non=>cases (show u=Value.none from rx); exact PySem.W.kia_one PySem.W.kitx_none I.kIn True.intro e (fun z=>nomatch z) h
 | bl y=>cases (show u=Value.bool y from rx); exact PySem.W.kia_one PySem.W.kitx_bool I.kIn True.intro e (fun z=>nomatch z) h
 | int i=>obtain⟨t,q⟩:=(show ∃ t,u=Value.int i t from rx); cases q; exact PySem.W.kia_one PySem.W.kitx_int I.kIn True.intro e (fun z=>nomatch z) h
 | str y=>obtain⟨t,q⟩:=(show ∃ t,u=Value.str y t from rx); cases q; exact PySem.W.kia_one PySem.W.kitx_str I.kIn True.intro e (fun z=>nomatch z) h
 | flt y=>obtain⟨t,q⟩:=(show ∃ t,u=Value.float y t from rx); cases q; exact PySem.W.kia_one PySem.W.kitx_float I.kIn True.intro e (fun z=>nomatch z) h
 | @lst a xs ea=>
  cases (show u=Value.ref a from rx)
  obtain⟨_,_,n,_,h1⟩:=(show ObjOk X.prog X.w H s.heap a (.lst xs) from I.hok a _ ea)
  exact PySem.W.kia_one PySem.W.kitx_list I.kIn ⟨_,h1,U⟩ e (fun z=>nomatch z) h
 | @frz a ob xs ea=>
  cases (show u=Value.ref a from rx)
  obtain⟨_,_,_,n,_,h1⟩:=(show ObjOk X.prog X.w H s.heap a (.frz ob (.lst xs)) from I.hok a _ ea)
  exact PySem.W.kia_one PySem.W.kitx_list I.kIn ⟨_,h1,U⟩ e (fun z=>nomatch z) h
 | @tup a xs ea=>
  cases (show u=Value.ref a from rx)
  obtain⟨_,_,_,p⟩:=(show ObjOk X.prog X.w H s.heap a (.tup xs) from I.hok a _ ea)
  obtain⟨o,h1,h2,_⟩:=p
  exact PySem.W.kia_one PySem.W.kitx_tuple I.kIn ⟨o,h1,h2⟩ e (fun z=>nomatch z) h
 | @dK a kvs ea=>
  cases (show u=Value.ref a from rx)
  obtain⟨_,_,vs,_,p⟩:=(show ObjOk X.prog X.w H s.heap a (.dK kvs) from I.hok a _ ea)
  obtain⟨o,es,ep,h1,h2,_⟩:=p
  exact PySem.W.kia_one PySem.W.kitx_dict I.kIn ⟨o,h1,h2.1⟩ e (fun z=>nomatch z) h
 | @dT a kvs ea=>
  cases (show u=Value.ref a from rx)
  obtain⟨_,_,xs,_,o,es,ep,h1,h2,_⟩:=(show ObjOk X.prog X.w H s.heap a (.dT kvs) from I.hok a _ ea)
  exact PySem.W.kia_one PySem.W.kitx_dict I.kIn ⟨o,h1,h2.1⟩ e (fun z=>nomatch z) h
 | @ins a C dx fs ea cl ha hn htk hm=>
  cases (show u=Value.ref a from rx)
  obtain⟨mA,O,_⟩:=d9 I.hok ea
  obtain⟨od,J,_⟩:=O.look
  exact PySem.W.kia_one (PySem.W.kitx_own (cl.get _) cl.hd ha hn htk hm) I.kIn J e (fun z=>nomatch z) h
end
structure Room (k:Nat) (A:Around):Prop where
 hd:A.handled=none
 dp:A.depth+3*k+5<recursionLimit
 un:A.units+16*k+200<cLine
 gd:A.guards=some []
theorem Room.mono {j k:Nat} (r:Room k A) (h:j<=k):Room j A:=⟨r.hd,by have:=r.dp; omega,by have:=r.un; omega,r.gd⟩
theorem Room.deeper {k:Nat} (r:Room (k+1) A) (env:Env):Room k (A.deeper env) :=
 ⟨r.hd,by have:=r.dp; show A.depth+1+3*k+5<_; omega,by have:=r.un; show A.units+3+16*k+200<_; omega,r.gd⟩
theorem iZ {C:Addr}:(A.under (.builtin "type.__call__" ⟨.ref C::us,kw⟩)).depth=A.depth+1:=by
 first | rfl | simp[Around.under,Code.weight,Code.isCreation,Code.isGuard,Code.isCaller,Code.frames,Code.isFrame,guardIds]
theorem iY {C:Addr}:(A.under (.builtin "type.__call__" ⟨.ref C::us,kw⟩)).units=A.units+1:=by
 first | rfl | simp[Around.under,Code.cUnits,Code.frames,Code.isFrame]
theorem iA {C:Addr}:(A.under (.builtin "type.__call__" ⟨.ref C::us,kw⟩)).guards=A.guards:=by
 cases h:A.guards with
 | none=>simp[Around.under,Code.guards,Code.isGuard,guardIds,pushGuards,h]
 | some l=>simp[Around.under,Code.guards,Code.isGuard,guardIds,pushGuards,h]
theorem Room.make {k:Nat} (r:Room (k+1) A) (C:Addr) (us:List Value) (kw:List (Str×Value)):Room k (A.under (.builtin "type.__call__" ⟨.ref C::us,kw⟩)) :=
 ⟨r.hd,by have:=r.dp; rw[iZ]; omega,by have:=r.un; rw[iY]; omega,by rw[iA]; exact r.gd⟩
theorem Room.depth {k:Nat} (r:Room k A):A.depth<recursionLimit:=by have:=r.dp; omega
theorem Room.units {k:Nat} (r:Room k A):A.units+64<cLine:=by have:=r.un; omega
noncomputable def hX:TA:=fun _ H Q=>Q [] H
noncomputable def hZ (ta:TE) (tr:TA):TA:=fun σ H Q=>ta σ H fun x H1=>tr σ H1 fun xs H2=>Q (x::xs) H2
section
variable {X:Cx}{e:Expr}{es:List Expr}{te:TE}{t:TA}{pos:Pos}
theorem ah:PA X [] hX:=fun _ _ _ _ H Q I h=>Calls.spliced_nil ⟨[],H,I,.nil,h⟩
theorem aa (ha:PE X e te) (hr:PA X es t) (hs:starEach (e::es) X.env=(false,eval e X.env)::starEach es X.env:=by rfl):PA X (e::es) (hZ te t):=by
 intro pos pins s σ H Q I h
 rw[hs]
 show wpAny _ _ (spliced ((false,eval e X.env)::backTo pos (starEach es X.env))) _ _ s
 refine Calls.spliced_cons (thn (ha pins s σ H _ I h) fun u s1 ⟨x,H1,I1,r1,q1⟩=>?_)
 exact thn (hr pos pins s1 σ H1 _ I1 q1) fun us s2 ⟨xs,H2,I2,r2,q2⟩=>⟨x::xs,H2,I2,.cons r1 r2,q2⟩
noncomputable def tTup (t:TA):TE:=fun σ H Q=>t σ H fun xs H1=>xs.length<=sizeLine/\∀ p,H1 p=none->Q (.ref p) (upd H1 p (.tup xs))
noncomputable def tLst (t:TA):TE:=fun σ H Q=>t σ H fun xs H1=>xs.length<=sizeLine/\∀ p,H1 p=none->Q (.ref p) (upd H1 p (.lst xs))
theorem aF {x1} (h:PA X es t):PE X (.Tuple es x1 pos) (tTup t):=by
 intro pins s σ H Q I hq
 refine wpAny_Tuple_spliced (thn (h pos pins s σ H _ I hq) fun us s1 ⟨xs,H1,I1,r,z,q⟩=>⟨by rw[<- r.length]; exact z,?_⟩)
 have hf:H1 s1.heap.objs.size=none:=I1.hok.fresh (Nat.le_refl _)
 refine⟨.ref s1.heap.objs.size,upd H1 s1.heap.objs.size (.tup xs),I1.laid (t':=s1.toks) (fun b u e=>Heap.get?_push_of_some _ e) (Nat.le_refl _) ?_,U,q _ hf⟩
 exact⟨z,us,r,⟨_,Heap.get?_push_size _ rfl,U,_,U⟩⟩
theorem aU (h:PA X es t):PE X (.List es pos) (tLst t):=by
 intro pins s σ H Q I hq
 refine wpAny_List_spliced (thn (h pos pins s σ H _ I hq) fun us s1 ⟨xs,H1,I1,r,z,q⟩=>⟨by rw[<- r.length]; exact z,?_⟩)
 have hf:H1 s1.heap.objs.size=none:=I1.hok.fresh (Nat.le_refl _)
 refine⟨.ref s1.heap.objs.size,upd H1 s1.heap.objs.size (.lst xs),I1.laid (t':=s1.toks) (fun b u e=>Heap.get?_push_of_some _ e) (Nat.le_refl _) ?_,U,q _ hf⟩
 exact⟨z,us,0,r,Heap.get?_push_size _ rfl⟩
end
noncomputable abbrev Sp:=List V->Hp->VK->XK->Prop
noncomputable abbrev CXT:=List Env->Hp->Shared->XK->Value->Shared->Prop
structure Env0 (P:Program) (w:World) (K:PySem.W.Frag) (mg:Str->Option Value) (base:Heap) (A:Around) (outer:List Env) (s:Shared) (H:Hp):Prop where
 frames:A.frames=some outer
 mod:Mod K mg base
 bs:∀ b o,base.get? b=some o->s.heap.get? b=some o/\H b=none
 bsz:base.objs.size<=s.heap.objs.size
 funs:s.heap.FunFrames base outer
 frf:∀ b ∈ frs outer,H b=none
 hok:HOk P w H s.heap
 bare:AllBare s.gens
noncomputable def CE (outer:List Env) (P:Program) (w:World) (H:Hp) (s:Shared) (Q:VK) (u:Value) (s':Shared):Prop :=
 ∃ v H',s'.os=s.os/\AllBare s'.gens/\Un (frs outer) [] H H' s.heap s'.heap/\HOk P w H' s'.heap/\RelV v u/\Q v H'
noncomputable def CR (CX:CXT) (outer:List Env) (P:Program) (w:World) (H:Hp) (s:Shared) (Q:VK) (E:XK) (r:Result) (s':Shared):Prop :=
 match r with
 | .ok (.ret u)=>CE outer P w H s Q u s'
 | .ok _=>False
 | .error e=>CX outer H s E e s'
structure FnOk (P:Program) (w:World) (K:PySem.W.Frag) (mg:Str->Option Value) (base:Heap) (CX:CXT) (k:Nat) (f:Addr) (fd:FuncData) (ps:List Str) (sp:Sp):Prop where
 len:∀ vs H Q E,sp vs H Q E->vs.length=ps.length
 run:∀ (A:Around) (outer:List Env) (s:Shared) (H:Hp) (args:Args) (us:List Value) (vs:List V) (Q:VK) (E:XK),Room k A->Env0 P w K mg base A outer s H->BindsTo s fd args (ps.zip us)->Vals vs us->sp vs H Q E ->
  codeAny (model P w) A (.call (.ref f) args) (CR CX outer P w H s Q E) s
variable{mg:Str->Option Value}
theorem Env0.make {w:World}{base:Heap}{outer:List Env} (e:Env0 P w K mg base A outer s H) (C:Addr) (us:List Value) (kw:List (Str×Value)) :
  Env0 P w K mg base (A.under (.builtin "type.__call__" ⟨.ref C :: us,kw⟩)) outer s H:=⟨by first | exact e.frames | (simpa [Around.under,Code.envs,Code.isFrame,pushEnvs] using e.frames),e.mod,e.bs,e.bsz,e.funs,e.frf,e.hok,e.bare⟩
section
variable {X:Cx}{pins:List (Addr×Obj)}{σ:St}{H:Hp}{s s':Shared}
theorem Inv.env0 (I:Inv X pins σ H s):Env0 X.prog X.w X.K X.mg X.base X.A X.stack s H :=
 ⟨I.ok.frames,I.ok.mod,I.bs,Nat.le_trans I.ok.bsz I.sz,I.stack,I.stkFree,I.hok,I.bare⟩
theorem Inv.after {Q:VK}{u:Value} (I:Inv X pins σ H s) (h:CE X.stack X.prog X.w H s Q u s'):EP X pins σ Q u s':=by
 obtain⟨v,H',os,bare,un,hok,r,q⟩:=h
 obtain⟨hh,g,d,t,os'⟩:=s'
 obtain rfl:os'=s.os:=os
 exact⟨v,H',I.call (h':=hh) (g':=g) (d':=d) (t':=t) (ch:=[]) un hok bare (fun b z=>absurd z (by simp)),r,q⟩
end
noncomputable def nQ (sp:Sp) (dvs:List V) (E:XK) (t:TA):TE:=fun σ H Q=>t σ H fun vs H1=>sp (vs++dvs) H1 Q E
inductive TM_ (C:Addr) (m:Str) (x:V) (H:Hp) (R:Prop):Prop
 | mk (a dx:Addr) (fs:List (Str×V)) (h1:x=.ref a) (h2:H a=some (.ins C dx fs)) (h3:fs.lookup m=none) (q:R):TM_ C m x H R
noncomputable def kJ (C:Addr) (m:Str) (sp:Sp) (dvs:List V) (E:XK) (ta:TE) (t:TA):TE:=fun σ H Q=>ta σ H fun x H1=>TM_ C m x H1 (t σ H1 fun vs H2=>sp (x::(vs++dvs)) H2 Q E)
noncomputable def nO (C:Addr) (sp:Sp) (dvs:List V) (E:XK) (t:TA):TE:=fun σ H Q=>t σ H fun vs H1=>∀ x dx,H1 x=none->H1 dx=none->dx≠x ->
 sp (.ref x::(vs++dvs)) (upd (upd H1 dx (.own x)) x (.ins C dx [])) (fun v H2=>v=.non/\Q (.ref x) H2) E
noncomputable def Binds (K:PySem.W.Frag) (fd:FuncData) (ps:List Str) (ds:List Value):Prop :=
 ∀ (s:Shared) (us:List Value),K.In s.heap->(us++ds).length=ps.length->BindsTo s fd ⟨us,[]⟩ (ps.zip (us++ds))
theorem Binds.all {fd:FuncData}{ps:List Str} (h:∀ us:List Value,us.length=ps.length->bindArgs fd ⟨us,[]⟩=pure (ps.zip us)):Binds K fd ps []:=fun s us _ hl=>by
 rw[sR] at hl ⊢
 exact .of_eq (h us hl)
noncomputable def bW (CX:CXT) (X:Cx) (E:XK):Prop:=∀ (pins:List (Addr×Obj)) (σ:St) (H:Hp) (s:Shared) (e:Value) (s':Shared),Inv X pins σ H s->CX X.stack H s E e s'->X.xe e s'
section
variable {X:Cx}{CX:CXT}{k:Nat}{f C:Addr}{fd:FuncData}{ps:List Str}{sp:Sp}{dvs:List V}{ds:List Value}{E:XK}{x m:Str}{p pos apos:Pos}{e o:Expr}{es:List Expr}{ta:TE}{t:TA}
theorem iQ {Q:VK}{us:List Value}{vs:List V} (F:FnOk X.prog X.w X.K X.mg X.base CX k f fd ps sp) (hr:Room k X.A) (hb:Binds X.K fd ps ds) (hd:Vals dvs ds) (hx:bW CX X E)
  (I:Inv X pins σ H s) (r:Vals vs us) (h:sp (vs++dvs) H Q E):wpAny (model X.prog X.w) X.A (call (.ref f) us) (EP X pins σ Q) X.xe s:=by
 have r2:Vals (vs++dvs) (us++ds):=r.append hd
 have hl:(us++ds).length=ps.length:=by rw[<- r2.length]; exact F.len _ _ _ _ h
 refine wpAny_call (codeAny_mono (F.run X.A X.stack s H ⟨us,[]⟩ (us++ds) (vs++dvs) Q E hr I.env0 (hb s us I.kIn hl) r2 h) fun r s' hq=>?_)
 cases r with
 | error e=>exact hx pins σ H s e s' I hq
 | ok fl=>
  cases fl with
  | ret u=>exact I.after hq
  | next=>exact False.elim hq
  | brk=>exact False.elim hq
  | cont=>exact False.elim hq
theorem mP (F:FnOk X.prog X.w X.K X.mg X.base CX k f fd ps sp) (hr:Room k X.A) (hg:Gl X x) (hm:X.mg x=some (.ref f)) (hk:W.keepIn X.K (.ref f)=true) (hb:Binds X.K fd ps ds) (hd:Vals dvs ds) (hx:bW CX X E)
  (ha:PA X (e::es) t) (hdb:(x == ("__debug__" : Str))=false:=by decide) (he:starEach (e::es) X.env=(false,eval e X.env)::starEach es X.env:=by rfl) (hpl:(backTo pos (starEach es X.env)).any (·.1)=false:=by rfl) :
  PE X (.Call (.Name x p) (e::es) [] pos) (nQ sp dvs E t):=by
 intro pins s σ H Q I h
 refine wpAny_Call_Name_kw (d7 I hg hm ?_ hdb)
 refine PySem.W.callWith_K (h₀:=X.base) I.ok.mod.kin hk (thn (ha pos pins s σ H _ I h) fun us s1 ⟨vs,H1,I1,r,q⟩=>⟨I1.kIn,?_⟩) he hpl
 exact iQ F hr hb hd hx I1 r q
theorem ax {pl:Sem Bool}{nr:Nat} (he:PE X o ta) (c:Cls X.K C) (hm:Meth X.K C m f) (F:FnOk X.prog X.w X.K X.mg X.base CX k f fd ps sp) (hr:Room nr X.A) (hb:Binds X.K fd ps ds) (hd:Vals dvs ds) (hx:bW CX X E) (ha:PA X (e::es) t)
  (hst:starEach (e::es) X.env=(false,eval e X.env)::starEach es X.env:=by rfl) (hpl:(backTo pos (starEach es X.env)).any (·.1)=false:=by rfl)
  (ht:eval (.Call (.Attribute o m apos) (e::es) [] pos) X.env=(do
   let ov <- eval o X.env
   standAt apos.atName
   let (f,first) <- holding [ov] (getMethod ov m pl)
   callWith pos f first (backTo pos (starEach (e::es) X.env)) (backToKw pos (keywordEach [] X.env))):=by rfl) (hj:k<=nr:=by decide) :
  PE X (.Call (.Attribute o m apos) (e::es) [] pos) (kJ C m sp dvs E ta t):=by
 intro pins s σ H Q I h
 refine PySem.W.methodCall_KW (pl:=pl) (thn (he pins s σ H _ I h) fun u s1 ⟨x,H1,I1,rx,a,dx,fs,ex,ea,l,q⟩=>?_) ht
 subst ex
 obtain rfl:u=Value.ref a:=rx
 refine cV I1 ea c hm l ?_
 refine PySem.W.callWith_K (first:=[.ref a]) (h₀:=X.base) I.ok.mod.kin hm.kp (thn (ha pos pins s1 σ H1 _ I1 q) fun us s2 ⟨vs,H2,I2,r,q2⟩=>⟨I2.kIn,?_⟩) hst hpl
 exact iQ (us:=.ref a::us) (vs:=.ref a::vs) F (hr.mono hj) hb hd hx I2 (.cons rfl r) q2
theorem aT {pl:Sem Bool}{nr:Nat} (he:PE X o ta) (c:Cls X.K C) (hm:Meth X.K C m f) (F:FnOk X.prog X.w X.K X.mg X.base CX k f fd ps sp) (hr:Room nr X.A) (hb:Binds X.K fd ps ds) (hd:Vals dvs ds) (hx:bW CX X E)
  (ht:eval (.Call (.Attribute o m apos) [] [] pos) X.env=(do
   let ov <- eval o X.env
   standAt apos.atName
   let (f,first) <- holding [ov] (getMethod ov m pl)
   callWith pos f first (backTo pos (starEach [] X.env)) (backToKw pos (keywordEach [] X.env))):=by rfl) (hj:k<=nr:=by decide) :
  PE X (.Call (.Attribute o m apos) [] [] pos) (kJ C m sp dvs E ta hX):=by
 intro pins s σ H Q I h
 refine PySem.W.methodCall_KW (pl:=pl) (thn (he pins s σ H _ I h) fun u s1 ⟨x,H1,I1,rx,a,dx,fs,ex,ea,l,q⟩=>?_) ht
 subst ex
 obtain rfl:u=Value.ref a:=rx
 refine cV I1 ea c hm l ?_
 exact PySem.W.callWith_K0 (first:=[.ref a]) I1.kIn hm.kp (iQ (us:=[.ref a]) (vs:=[.ref a]) F (hr.mono hj) hb hd hx I1 (.cons rfl .nil) q)
structure Mk (K:PySem.W.Frag) (C f:Addr):Prop where
 makes:W.makesIn K C=true
 init:W.findIn K (.ref C) "__init__" = some (some (.ref f))
 fn:W.isFn K (.ref f)=true
 kp:W.keepIn K (.ref C)=true
theorem ij {Q:VK}{us:List Value}{vs:List V} (M:Mk X.K C f) (F:FnOk X.prog X.w X.K X.mg X.base CX k f fd ps sp) (hr:Room (k+1) X.A) (hb:Binds X.K fd ps ds) (hd:Vals dvs ds)
  (hx:bW CX X E) (I:Inv X pins σ H s) (r:Vals vs us)
  (h:∀ x dx,H x=none->H dx=none->dx≠x->sp (.ref x::(vs++dvs)) (upd (upd H dx (.own x)) x (.ins C dx [])) (fun v H2=>v=.non/\Q (.ref x) H2) E) :
  wpAny (model X.prog X.w) X.A (call (.ref C) us) (EP X pins σ Q) X.xe s:=by
 have hq:=h (s.heap.objs.size+1) s.heap.objs.size (I.hok.fresh (Nat.le_succ _)) (I.hok.fresh (Nat.le_refl _)) (Nat.ne_of_lt (Nat.lt_succ_self _))
 have I2:=Inv.made (C:=C) I
 have r2:Vals (V.ref (s.heap.objs.size+1)::(vs++dvs)) (Value.ref (s.heap.objs.size+1)::(us++ds)):=.cons rfl (r.append hd)
 have hl:(Value.ref (s.heap.objs.size+1)::us++ds).length=ps.length:=by
  have e:=r2.length
  rw[F.len _ _ _ _ hq] at e
  exact e.symm
 refine wpAny_call (lC (f:=f) I.kIn M.makes M.init (beq_iff_eq.mp M.fn) (codeAny_mono (F.run _ X.stack _ _ ⟨Value.ref (s.heap.objs.size+1)::us,[]⟩ (Value.ref (s.heap.objs.size+1)::(us++ds)) _ _ E (hr.make C us [])
  (I2.env0.make C us []) (hb _ (Value.ref (s.heap.objs.size+1)::us) I2.kIn hl) r2 hq) fun r s' hq'=>?_))
 cases r with
 | error e=>exact hx pins σ _ _ e s' I2 hq'
 | ok fl=>
  cases fl with
  | ret u=>
   obtain⟨v,H',I3,rv,ev,q3⟩:=I2.after hq'
   subst ev
   exact⟨rv,⟨V.ref (s.heap.objs.size+1),H',I3,U,q3⟩⟩
  | next=>exact False.elim hq'
  | brk=>exact False.elim hq'
  | cont=>exact False.elim hq'
theorem gR (M:Mk X.K C f) (F:FnOk X.prog X.w X.K X.mg X.base CX k f fd ps sp) (hr:Room (k+1) X.A) (hg:Gl X x) (hm:X.mg x=some (.ref C)) (hb:Binds X.K fd ps ds) (hd:Vals dvs ds) (hx:bW CX X E)
  (ha:PA X (e::es) t) (hdb:(x == ("__debug__" : Str))=false:=by decide) (he:starEach (e::es) X.env=(false,eval e X.env)::starEach es X.env:=by rfl) (hpl:(backTo pos (starEach es X.env)).any (·.1)=false:=by rfl) :
  PE X (.Call (.Name x p) (e::es) [] pos) (nO C sp dvs E t):=by
 intro pins s σ H Q I h
 refine wpAny_Call_Name_kw (d7 I hg hm ?_ hdb)
 refine PySem.W.callWith_K (h₀:=X.base) I.ok.mod.kin M.kp (thn (ha pos pins s σ H _ I h) fun us s1 ⟨vs,H1,I1,r,q⟩=>⟨I1.kIn,?_⟩) he hpl
 exact ij M F hr hb hd hx I1 r q
theorem k0 (M:Mk X.K C f) (F:FnOk X.prog X.w X.K X.mg X.base CX k f fd ps sp) (hr:Room (k+1) X.A) (hg:Gl X x) (hm:X.mg x=some (.ref C)) (hb:Binds X.K fd ps ds) (hd:Vals dvs ds) (hx:bW CX X E)
  (hdb:(x == ("__debug__" : Str))=false:=by decide):PE X (.Call (.Name x p) [] [] pos) (nO C sp dvs E hX):=by
 intro pins s σ H Q I h
 refine wpAny_Call_Name_kw (d7 I hg hm ?_ hdb)
 exact PySem.W.callWith_K0 I.kIn M.kp (ij (us:=[]) M F hr hb hd hx I .nil h)
end
noncomputable def PK (X:Cx) (kws:List Keyword) (t:TA):Prop :=
 ∀ (pos:Pos) (pins:List (Addr×Obj)) (s:Shared) (σ:St) (H:Hp) (Q:List V->Hp->Prop),Inv X pins σ H s->t σ H Q->wpAny (model X.prog X.w) X.A (evalAll ((backToKw pos (keywordEach kws X.env)).map (·.2))) (AP X pins σ Q) X.xe s
section
variable {X:Cx}{CX:CXT}{k:Nat}{f C:Addr}{fd:FuncData}{ps ks:List Str}{sp:Sp}{E:XK}{x m:Str}{p pos apos kpos:Pos}{e o:Expr}{es:List Expr}{kws:List Keyword}{te ta:TE}{t tk:TA}{nm:Option Str}
theorem kW:PK X [] hX:=fun _ _ _ _ H Q I h=>wpAny_evalAll_nil ⟨[],H,I,.nil,h⟩
theorem jn (ha:PE X e te) (hr:PK X kws t):PK X (⟨nm,e,kpos⟩::kws) (hZ te t):=by
 intro pos pins s σ H Q I h
 show wpAny _ _ (evalAll ((do let v <- eval e X.env; standAt pos; pure v)::(backToKw pos (keywordEach kws X.env)).map (·.2))) _ _ s
 refine wpAny_evalAll_cons (wpAny_bind (thn (ha pins s σ H _ I h) fun u s1 ⟨x,H1,I1,r1,q1⟩=>wpAny_bind (wpAny_standAt (wpAny_pure ?_))))
 exact thn (hr pos pins s1 σ H1 _ I1 q1) fun us s2 ⟨xs,H2,I2,r2,q2⟩=>⟨x::xs,H2,I2,.cons r1 r2,q2⟩
structure KBinds (K:PySem.W.Frag) (fd:FuncData) (ps ks:List Str) (g:List Value->List Value->List Value) (gV:List V->List V->List V):Prop where
 to:∀ (s:Shared) (us ws:List Value),K.In s.heap->(g us ws).length=ps.length->BindsTo s fd ⟨us,ks.zip ws⟩ (ps.zip (g us ws))
 rel:∀ {vs:List V}{us:List Value}{zs:List V}{ws:List Value},Vals vs us->Vals zs ws->Vals (gV vs zs) (g us ws)
variable {g:List Value->List Value->List Value}{gV:List V->List V->List V}
theorem mK {Q:VK}{us ws:List Value}{vs zs:List V} (F:FnOk X.prog X.w X.K X.mg X.base CX k f fd ps sp) (hr:Room k X.A) (hb:KBinds X.K fd ps ks g gV) (hx:bW CX X E)
  (I:Inv X pins σ H s) (r:Vals vs us) (rz:Vals zs ws) (h:sp (gV vs zs) H Q E):wpAny (model X.prog X.w) X.A (call (.ref f) us (ks.zip ws)) (EP X pins σ Q) X.xe s:=by
 have r2:=hb.rel r rz
 have hl:(g us ws).length=ps.length:=by rw[<- r2.length]; exact F.len _ _ _ _ h
 refine wpAny_call (codeAny_mono (F.run X.A X.stack s H ⟨us,ks.zip ws⟩ (g us ws) (gV vs zs) Q E hr I.env0 (hb.to s us ws I.kIn hl) r2 h) fun r s' hq=>?_)
 cases r with
 | error e=>exact hx pins σ H s e s' I hq
 | ok fl=>
  cases fl with
  | ret u=>exact I.after hq
  | next=>exact False.elim hq
  | brk=>exact False.elim hq
  | cont=>exact False.elim hq
end
structure FnScope (N P:List Str) (sc:Scope):Prop where
 kind:sc.kind=.function:=by rfl
 co:sc.isCoroutine=false:=by rfl
 gen:sc.isGenerator=false:=by rfl
 nd:N.Nodup:=by decide +kernel
 pre:N.take P.length=P:=by rfl
 par:∀ x ∈ P,sc.names.lookup x=some .local∨sc.names.lookup x=some .cell:=by decide +kernel
 nofree:∀ y ∈ sc.names,y.2≠.free:=by decide +kernel
theorem gu {kindOf : Str->Option NameKind}{x : Str} : ∀ {binds : List (Str×Value)}{m : Str->Option Value}, (∀ v, (x, v) ∉ binds)->bindL kindOf binds m x=m x
  | [], _, _=>rfl
  | (n, v) :: r, m, h => by
    unfold bindL
    rw[gu fun w hw=>h w (r9 _ hw)]
    split
    · have : x≠n := by rintro rfl; exact h v sg
      simp[this]
    · rfl
theorem gx {kindOf : Str->Option NameKind}{x : Str} : ∀ {binds : List (Str×Value)}{m : Str->Option Value}, (∀ v, (x, v) ∉ binds)->bindC kindOf binds m x=m x
  | [], _, _=>rfl
  | (n, v) :: r, m, h => by
    unfold bindC
    rw[gx fun w hw=>h w (r9 _ hw)]
    split
    · rfl
    · have : x≠n := by rintro rfl; exact h v sg
      simp[this]
theorem gv {kindOf:Str->Option NameKind}{x:Str}{v:Value}:∀ {P:List Str}{vs:List Value}{i:Nat}{m:Str->Option Value},P.Nodup->P[i]?=some x->vs[i]?=some v->kindOf x=some .local ->
  bindL kindOf (P.zip vs) m x=some v
 | [],_,_,_,_,h,_,_=>by simp at h
 | _::_,[],_,_,_,_,h,_=>by simp at h
 | p::P,w::vs,0,m,nd,h1,h2,hk=>by
  simp at h1 h2; subst h1; subst h2
  show bindL kindOf ((p,w)::P.zip vs) m p=_
  unfold bindL
  rw[gu fun v hv=>(List.nodup_cons.mp nd).1 (List.of_mem_zip hv).1,if_pos hk]
  simp
 | p::P,w::vs,i+1,m,nd,h1,h2,hk=>by
  show bindL kindOf ((p,w)::P.zip vs) m x=_
  unfold bindL
  exact gv (i:=i) (List.nodup_cons.mp nd).2 (by simpa using h1) (by simpa using h2) hk
theorem gD {kindOf:Str->Option NameKind}{x:Str}{v:Value}:∀ {P:List Str}{vs:List Value}{i:Nat}{m:Str->Option Value},P.Nodup->P[i]?=some x->vs[i]?=some v->kindOf x≠some .local ->
  bindC kindOf (P.zip vs) m x=some v
 | [],_,_,_,_,h,_,_=>by simp at h
 | _::_,[],_,_,_,_,h,_=>by simp at h
 | p::P,w::vs,0,m,nd,h1,h2,hk=>by
  simp at h1 h2; subst h1; subst h2
  show bindC kindOf ((p,w)::P.zip vs) m p=_
  unfold bindC
  rw[gx fun v hv=>(List.nodup_cons.mp nd).1 (List.of_mem_zip hv).1,if_neg hk]
  simp
 | p::P,w::vs,i+1,m,nd,h1,h2,hk=>by
  show bindC kindOf ((p,w)::P.zip vs) m x=_
  unfold bindC
  exact gD (i:=i) (List.nodup_cons.mp nd).2 (by simpa using h1) (by simpa using h2) hk
noncomputable def start (N:List Str) (vs:List V):St:=vs.map some++List.replicate (N.length - vs.length) none
noncomputable def ki (CX:CXT) (P:Program) (w:World) (K:PySem.W.Frag) (mg:Str->Option Value) (base:Heap) (N:List Str) (qual:Str) (scope:Scope) (f:Addr) (cd:Value) (A:Around) (outer:List Env) (s:Shared) (H:Hp) (E:XK):Cx where
 prog:=P
 w:=w
 K:=K
 mg:=mg
 base:=base
 A:=A.deeper (envOfC qual scope s.heap.objs.size f cd)
 N:=N
 s₀:=s
 H₀:=H
 env:=envOfC qual scope s.heap.objs.size f cd
 outer:=outer
 stack:=envOfC qual scope s.heap.objs.size f cd::outer
 ex:=[]
 calm:=true
 fn:=fun _=>true
 pn:=[]
 xe:=fun e s'=>wpAny (model P w) (A.deeper (envOfC qual scope s.heap.objs.size f cd)) (leaving (envOfC qual scope s.heap.objs.size f cd) e) (fun _ s''=>CX outer H s E e s'') (fun e' s''=>CX outer H s E e' s'') s'
theorem iI {sc:Scope}{n:Nat}{x:Str} (h:sc.names.lookup x=some .cell):∃ c,(cellsFrom n sc.names []).lookup x=some c:=by
 have q:=PySem.W.cellsFrom_some sc.names n [] (.inl h)
 exact Option.isSome_iff_exists.mp q
theorem j3 {CX:CXT}{w:World}{base:Heap}{N ps:List Str}{qual:Str}{scope:Scope}{f:Addr}{cd:Value}{outer:List Env}{s s1:Shared}{E:XK}{vs:List V}
  (S:FnScope N ps scope) (hd:A.handled=none) (e0:Env0 P w K mg base A outer s H) (hl:vs.length=ps.length) (r:Vals vs us)
  (x:InCallC s s.heap.objs.size (bindL (envOfC qual scope s.heap.objs.size f cd).kindOf (ps.zip us) fun _=>none) (cellsFrom (s.heap.objs.size+1) scope.names []) (bindC (envOfC qual scope s.heap.objs.size f cd).kindOf (ps.zip us) fun _=>none) s1) :
  Inv (ki CX P w K mg base N qual scope f cd A outer s H E) [] (start N vs) H s1:=by
 have hpl:ps.length<=N.length:=by have:=congrArg List.length S.pre; rw[sS] at this; omega
 obtain⟨h1,tk,rfl,hk⟩:=x.done
 have noA:∀ b:Addr,b ∉ (ki CX P w K mg base N qual scope f cd A outer s H E).ex:=fun b z=>absurd (show b ∈ ([]:List Addr) from z) (by simp)
 refine⟨⟨e0.mod,S.kind,U,U,Nat.le_refl _,fun y z c h1 h2=>?_,fun y hy=>?_,fun y c _ h=>?_,fun _=>hd,Around.frames_deeper e0.frames,.inr ⟨U,U⟩,fun b z=>absurd z (noA b),e0.bs,e0.bsz,fun b _ _=>noA b,fun b z=>absurd z (noA b),e0.funs,e0.frf⟩,
  rfl,e0.bare,Un.kept hk,⟨_,x.toInCall.ns,fun i y v h1 h2 h3=>?_⟩,fun y c h=>⟨_,x.cell y c h⟩,e0.hok.fresh (Nat.le_refl _),fun y c h=>?_,fun p hp=>absurd (show p ∈ ([]:List (Addr×Obj)) from hp) (by simp),e0.hok.kept hk,?_⟩
 ·exact name_of_addr x.apart (PySem.mem_of_lookup h1) (PySem.mem_of_lookup h2)
 ·have hy:scope.names.lookup y=some .cell∨scope.names.lookup y=some .free:=hy
  rcases hy with hy | hy
  ·exact iI hy
  ·exact absurd rfl (S.nofree _ (PySem.mem_of_lookup hy))
 ·exact Nat.le_of_lt (x.above y c (PySem.mem_of_lookup h))
 ·have hi:i<vs.length:=by
   unfold start at h2
   by_cases hi:i<vs.length
   ·exact hi
   ·rw[sM (by simpa using hi)] at h2
    rw[List.getElem?_replicate] at h2
    split at h2 <;> cases h2
  have ha:vs[i]?=some v:=by
   unfold start at h2
   rw[sO (by simpa using hi),sx] at h2
   cases e:vs[i]? with
   | none=>rw[e] at h2; cases h2
   | some a=>rw[e] at h2; cases h2; rfl
  obtain⟨u,hu,rv⟩:=r.get ha
  have hp:ps[i]?=some y:=by
   rw[<- S.pre,List.getElem?_take_of_lt (by omega)]; exact h1
  have ndP:ps.Nodup:=by rw[<- S.pre]; exact S.nd.sublist (List.take_sublist _ _)
  refine⟨u,rv,?_⟩
  rcases S.par y (si hp) with k | k
  ·exact .inl ⟨k,gv ndP hp hu k⟩
  ·obtain⟨c,e⟩:=iI (n:=s.heap.objs.size+1) k
   refine .inr ⟨.inl k,c,e,?_⟩
   have q:=x.cell y c e
   rw[gD ndP hp hu (by show scope.names.lookup y≠_; rw[k]; decide)] at q
   exact q
 ·exact e0.hok.fresh (Nat.le_of_lt (x.above y c (PySem.mem_of_lookup h)))
 ·unfold start
  show _=N.length
  rw[sA,su,sJ]
  omega
theorem fn_of {CX:CXT}{w:World}{base:Heap}{k:Nat}{f:Addr}{name qual:Str}{params:Arguments}{body:List Stmt}{scope:Scope}{dV kV doc pm cdv ct oc:Value}{an od:Option Addr}
  {osl:Array (Option Value)}{N ps:List Str}{sp:Sp} (lk:K.lookup f=some ⟨oc,od,.func (W.fnOf name qual params body scope dV kV doc pm an cdv ct),osl⟩) (hcd:W.codeIn K cdv qual=true) (S:FnScope N ps scope)
  (len:∀ vs H Q E,sp vs H Q E->vs.length=ps.length)
  (hbody:∀ (A:Around) (outer:List Env) (s:Shared) (H:Hp) (vs:List V) (Q:VK) (E:XK),Room k (A.deeper (envOfC qual scope s.heap.objs.size f cdv))->sp vs H Q E ->
   ∃ t,PSs (ki CX P w K mg base N qual scope f cdv A outer s H E) body t/\t { nx:=fun _ H'=>Q .non H',rt:=Q } (start N vs) H) :
  FnOk P w K mg base CX (k+1) f (W.fnOf name qual params body scope dV kV doc pm an cdv ct) ps sp:=by
 refine⟨len,fun A outer s H args us vs Q E hr e0 hb r hsp=>?_⟩
 have hl:=len _ _ _ _ hsp
 have KX:K.In s.heap:=e0.mod.kin.keeps fun b o e=>(e0.bs b o e).1
 have lim:s.heap.NoLimit:=e0.mod.nolimit.keeps fun b o e=>(e0.bs b o e).1
 have hkind:∀ y ∈ ps.zip us,scope.names.lookup y.1=some .local∨(scope.names.lookup y.1=some .cell/\((cellsFrom (s.heap.objs.size+1) scope.names []).lookup y.1).isSome=true):=fun⟨n,v⟩ hy=>by
  rcases S.par n (List.of_mem_zip hy).1 with q | q
  ·exact .inl q
  ·exact .inr ⟨q,PySem.W.cellsFrom_some _ _ _ (.inl q)⟩
 refine codeAny_call_function hr.depth (KX _ _ lk) rfl S.co S.gen rfl (PySem.W.codeRec_of KX hcd) (hb _ _ _ _ ?_)
 refine wpAny_newFunctionEnv_cells S.kind hkind fun env he s1 x=>?_
 subst he
 refine⟨lim.keeps x.toInCall.keep,codeAny_func ?_⟩
 obtain⟨t,ht,hq⟩:=hbody A outer s H vs Q E (hr.deeper _) hsp
 have I:Inv (ki CX P w K mg base N qual scope f cdv A outer s H E) [] (start N vs) H s1:=j3 S hr.hd e0 hl r x
 refine wpAny_mono (ht [] s1 (start N vs) H _ I hq) (fun fl s' hs=>?_) fun e s' hs=>hs
 have fin:∀ {σ':St}{H':Hp}{v:V}{u:Value},Inv (ki CX P w K mg base N qual scope f cdv A outer s H E) [] σ' H' s'->RelV v u->Q v H'->CE outer P w H s Q u s' :=
  fun {σ' H' v u} J rv q=>⟨v,H',J.os,J.bare,J.base,J.hok,rv,q⟩
 cases fl with
 | ret u=>
  obtain⟨v,σ',H',J,rv,q⟩:=hs
  exact fin J rv q
 | next=>
  obtain⟨σ',H',J,q⟩:=hs
  exact fin (v:=V.non) (u:=Value.none) J rfl q
 | brk=>
  obtain⟨_,_,_,q⟩:=hs
  exact False.elim q
 | cont=>
  obtain⟨_,_,_,q⟩:=hs
  exact False.elim q
section
variable {X:Cx}{x:Str}{p pos:Pos}{e:Expr}{es:List Expr}{t:TA}{id T:String}{r:List V->Hp->VK->Prop}
noncomputable def tCB (r:List V->Hp->VK->Prop) (t:TA):TE:=fun σ H Q=>t σ H fun vs H1=>r vs H1 Q
theorem aR (hc:dG X (.builtin id) r) (hg:Gl X x) (hm:X.mg x=none) (hv:bootBuiltins x=some (.builtin id)) (ha:PA X (e::es) t) (hn:x ≠ "__name__":=by decide) (hdb:(x == ("__debug__" : Str))=false:=by decide)
  (he:starEach (e::es) X.env=(false,eval e X.env)::starEach es X.env:=by rfl) (hpl:(backTo pos (starEach es X.env)).any (·.1)=false:=by rfl):PE X (.Call (.Name x p) (e::es) [] pos) (tCB r t):=by
 intro pins s σ H Q I h
 refine wpAny_Call_Name_kw (cS I hg hm hv ?_ hn hdb)
 exact PyProof.Rows.callWith_builtin1 (thn (ha pos pins s σ H _ I h) fun us s1 ⟨vs,H1,I1,r1,q1⟩=>hc pins s1 σ H1 vs us Q I1 r1 q1) he hpl
theorem bu (hc:dG X (.type T) r) (hg:Gl X x) (hm:X.mg x=none) (hv:bootBuiltins x=some (.type T)) (ha:PA X (e::es) t) (hn:x ≠ "__name__":=by decide) (hdb:(x == ("__debug__" : Str))=false:=by decide)
  (he:starEach (e::es) X.env=(false,eval e X.env)::starEach es X.env:=by rfl) (hpl:(backTo pos (starEach es X.env)).any (·.1)=false:=by rfl):PE X (.Call (.Name x p) (e::es) [] pos) (tCB r t):=by
 intro pins s σ H Q I h
 refine wpAny_Call_Name_kw (cS I hg hm hv ?_ hn hdb)
 exact PyProof.Rows.callWith_type1 (thn (ha pos pins s σ H _ I h) fun us s1 ⟨vs,H1,I1,r1,q1⟩=>hc pins s1 σ H1 vs us Q I1 r1 q1) he hpl
end
end L2
namespace L2
open PySem PySem.Spec PyProof.Rows
section
variable {κ:Type} [DecidableEq κ]
noncomputable def au (kvs:List (κ×V)) (k:κ):Option V:=(kvs.find? fun kv=>decide (kv.1=k)).map (·.2)
noncomputable def aG (kvs:List (κ×V)) (k:κ) (v:V):List (κ×V) :=
 if (kvs.any fun kv=>decide (kv.1=k))=true then kvs.map (fun kv=>if kv.1=k then(kv.1,v) else kv) else kvs++[(k,v)]
noncomputable def oV (kvs:List (κ×V)) (k:κ):List (κ×V):=kvs.filter fun kv=>decide (kv.1≠k)
theorem bj {p:κ×V}{r:List (κ×V)}{k:κ} (e:p.1=k):au (p::r) k=some p.2:=by simp[au,sT,e]
theorem bo {p:κ×V}{r:List (κ×V)}{k:κ} (e:¬ p.1=k):au (p::r) k=au r k:=by simp[au,sT,e]
theorem cu (k:κ):∀ kvs:List (κ×V),(kvs.any fun kv=>decide (kv.1=k))=(au kvs k).isSome
 | []=>rfl
 | p::r=>by
  rw[List.any_cons]
  by_cases e:p.1=k
  ·simp only[bj e,decide_eq_true e,Bool.true_or,Option.isSome_some]
  ·rw[bo e,decide_eq_false e,Bool.false_or]; exact cu k r
theorem hU (k j:κ) (y:V):∀ kvs:List (κ×V),au (kvs.map fun kv=>if kv.1=k then(kv.1,y) else kv) j=(au kvs j).map fun x=>if j=k then y else x
 | []=>rfl
 | p::r=>by
  have ih:=hU k j y r
  rw[sH]
  by_cases h:p.1=k
  ·rw[if_pos h]
   by_cases e:p.1=j
   ·rw[bj (p:=(p.1,y)) e,bj e,Option.map_some,if_pos (e.symm.trans h)]
   ·rw[bo (p:=(p.1,y)) e,bo e,ih]
  ·rw[if_neg h]
   by_cases e:p.1=j
   ·rw[bj (p:=p) e,bj e,Option.map_some,if_neg (fun z=>h (e.trans z))]
   ·rw[bo (p:=p) e,bo e,ih]
theorem fX (k j:κ) (y:V):∀ kvs:List (κ×V),au kvs k=none->au (kvs++[(k,y)]) j=if j=k then some y else au kvs j
 | [],_=>by
  by_cases e:k=j
  ·rw[if_pos e.symm]; exact bj (p:=(k,y)) e
  ·rw[if_neg (fun z=>e z.symm)]; exact bo (p:=(k,y)) e
 | p::r,hn=>by
  rw[List.cons_append]
  have hk:¬ p.1=k:=fun z=>by rw[bj z] at hn; cases hn
  rw[bo hk] at hn
  have ih:=fX k j y r hn
  by_cases e:p.1=j
  ·rw[bj e,bj e,if_neg (fun z=>hk (e.trans z))]
  ·rw[bo e,bo e,ih]
theorem aD (kvs:List (κ×V)) (k j:κ) (y:V):au (aG kvs k y) j=if j=k then some y else au kvs j:=by
 unfold aG
 by_cases a:(kvs.any fun kv=>decide (kv.1=k))=true
 ·rw[if_pos a,hU]
  rw[cu] at a
  by_cases e:j=k
  ·obtain⟨x,hx⟩:=Option.isSome_iff_exists.mp a
   rw[if_pos e,e,hx,Option.map_some,if_pos rfl]
  ·rw[if_neg e]
   cases au kvs j with
   | none=>rfl
   | some x=>rw[Option.map_some,if_neg e]
 ·rw[if_neg a]
  refine fX k j y kvs ?_
  rw[cu] at a
  cases q:au kvs k with
  | none=>rfl
  | some x=>rw[q] at a; exact(a rfl).elim
theorem bf (kvs:List (κ×V)) (k:κ) (v:V):(aG kvs k v).length<=kvs.length+1:=by
 unfold aG
 split
 ·rw[su]; omega
 ·rw[sA,sG,List.length_nil]; omega
theorem putK_new {kvs:List (κ×V)}{k:κ} (v:V) (h:au kvs k=none):aG kvs k v=kvs++[(k,v)]:=by
 unfold aG
 rw[cu,h]
 exact if_neg (by decide)
theorem RelO.isSome_eq {o:Option V}{u:Option Value} (r:RelO o u):o.isSome=u.isSome:=by
 cases o with
 | none=>cases u with
  | none=>rfl
  | some _=>exact(show False from r).elim
 | some _=>cases u with
  | none=>exact(show False from r).elim
  | some _=>rfl
theorem RelO.getD {o:Option V}{u:Option Value}{d:V}{d':Value} (r:RelO o u) (rd:RelV d d'):RelV (o.getD d) (u.getD d'):=by
 cases o with
 | none=>cases u with
  | none=>exact rd
  | some _=>exact(show False from r).elim
 | some _=>cases u with
  | none=>exact(show False from r).elim
  | some _=>exact r
theorem KV.val {kvs:List (κ×V)}{vs:List (κ×Value)} (r:KV kvs vs) (k:κ):RelO (au kvs k) (valueAt vs k):=by
 unfold KV at r
 induction r with
 | nil=>exact True.intro
 | @cons p q ps qs h t ih=>
  obtain⟨h1,h2⟩:=h
  by_cases e:p.1=k
  ·have e':q.1=k:=h1.symm.trans e
   have b:valueAt (q::qs) k=some q.2:=by simp[valueAt,sT,e']
   rw[bj e,b]; exact h2
  ·have e':¬ q.1=k:=fun z=>e (h1.trans z)
   have b:valueAt (q::qs) k=valueAt qs k:=by simp[valueAt,sT,e']
   rw[bo e,b]; exact ih
theorem KV.any {kvs:List (κ×V)}{vs:List (κ×Value)} (r:KV kvs vs) (k:κ):(kvs.any fun kv=>decide (kv.1=k))=vs.any fun kv=>decide (kv.1=k):=by
 unfold KV at r
 induction r with
 | nil=>rfl
 | cons h t ih=>rw[List.any_cons,List.any_cons,ih,h.1]
theorem KV.repl {kvs:List (κ×V)}{vs:List (κ×Value)} (r:KV kvs vs) (k:κ) {y:V}{u:Value} (ry:RelV y u) :
  KV (kvs.map fun kv=>if kv.1=k then(kv.1,y) else kv) (vs.map fun kv=>if kv.1=k then(kv.1,u) else kv):=by
 unfold KV at r ⊢
 induction r with
 | nil=>exact .nil
 | @cons p q ps qs h t ih=>
  rw[sH,sH]
  refine .cons ?_ ih
  obtain⟨h1,h2⟩:=h
  by_cases e:p.1=k
  ·rw[if_pos e,if_pos (h1.symm.trans e)]; exact⟨h1,ry⟩
  ·rw[if_neg e,if_neg (fun z=>e (h1.trans z))]; exact⟨h1,h2⟩
theorem KV.put {kvs:List (κ×V)}{vs:List (κ×Value)} (r:KV kvs vs) (k:κ) {y:V}{u:Value} (ry:RelV y u):KV (aG kvs k y) (stored vs k u):=by
 unfold aG stored
 rw[r.any k]
 by_cases e:(vs.any fun kv=>decide (kv.1=k))=true
 ·rw[if_pos e,if_pos e]; exact r.repl k ry
 ·rw[if_neg e,if_neg e]; exact Paired.snoc r ⟨U,ry⟩
theorem KV.length {kvs:List (κ×V)}{vs:List (κ×Value)} (r:KV kvs vs):kvs.length=vs.length:=Paired.length r
end
variable{P:Program}
theorem gg {w:World}{k:Key}{u:Value} (r:RelV (kV k) u):(bc P w).is k u=true:=by
 cases k with
 | inl i=>obtain⟨t,e⟩:=(show ∃ t,u=Value.int i t from r); subst e; exact iz P w i t
 | inr x=>obtain⟨t,e⟩:=(show ∃ t,u=Value.str x t from r); subst e; exact iy P w x t
theorem gi {w:World}:∀ {ks:List Key}{us:List Value},Vals (ks.map kV) us->ItemsAre (bc P w) ks us
 | [],_,r=>by rw[List.map_nil] at r; cases r; exact .nil
 | k::ks,_,r=>by
  rw[sH] at r
  cases r with
  | cons h t=>exact .cons (gg h) (gi t)
noncomputable abbrev KT (H:Hp):List (List Key×V)->List (List Key×Addr×Value)->Prop:=Paired fun p q=>p.1=q.1/\H q.2.1=some (.tup (p.1.map kV))/\RelV p.2 q.2.2
variable{kvs:List (List Key×V)}{xs:List (List Key×Addr×Value)}{H:Hp}
theorem KT.val (r:KT H kvs xs) (k:List Key):RelO (au kvs k) ((atKey xs k).map (·.2)):=by
 induction r with
 | nil=>exact True.intro
 | @cons p q ps qs h t ih=>
  obtain⟨h1,_,h2⟩:=h
  by_cases e:p.1=k
  ·have e':q.1=k:=h1.symm.trans e
   have b:atKey (q::qs) k=some q.2:=by simp[atKey,sT,e']
   rw[bj e,b]; exact h2
  ·have e':¬ q.1=k:=fun z=>e (h1.trans z)
   have b:atKey (q::qs) k=atKey qs k:=by simp[atKey,sT,e']
   rw[bo e,b]; exact ih
theorem KT.repl (r:KT H kvs xs) (k:List Key) {y:V}{u:Value} (ry:RelV y u) :
  KT H (kvs.map fun kv=>if kv.1=k then(kv.1,y) else kv) (xs.map (putAt k u)):=by
 induction r with
 | nil=>exact .nil
 | @cons p q ps qs h t ih=>
  rw[sH,sH]
  refine .cons ?_ ih
  obtain⟨h1,h2,h3⟩:=h
  unfold putAt
  by_cases e:p.1=k
  ·rw[if_pos e,if_pos (h1.symm.trans e)]; exact⟨h1,h2,ry⟩
  ·rw[if_neg e,if_neg (fun z=>e (h1.trans z))]; exact⟨h1,h2,h3⟩
theorem KT.put (r:KT H kvs xs) (k:List Key) {b:Addr}{y:V}{u:Value} (hb:H b=some (.tup (k.map kV))) (ry:RelV y u) :
  KT H (aG kvs k y) (storedH xs k b u):=by
 have e:(kvs.any fun kv=>decide (kv.1=k))=(atKey xs k).isSome:=by
  rw[cu,(r.val k).isSome_eq,Option.isSome_map]
 unfold aG storedH
 rw[e]
 by_cases q:(atKey xs k).isSome=true
 ·rw[if_pos q,if_pos q]; exact r.repl k ry
 ·rw[if_neg q,if_neg q]; exact Paired.snoc r ⟨U,hb,ry⟩
theorem KT.keeps {H H':Hp} (r:KT H kvs xs) (ht:∀ b ys,H b=some (.tup ys)->H' b=some (.tup ys)):KT H' kvs xs :=
 Paired.mapP r fun _ _ z=>⟨z.1,ht _ _ z.2.1,z.2.2⟩
section
variable {P:Program}{w:World}{H:Hp}{h:Heap}{a:Addr}
theorem oE {u:HO} (ok:HOk P w H h) (e:Rd H a u):ObjOk P w H h a u:=e.ok ok
theorem fM {kvs:List (Key×V)} (ok:HOk P w H h) (e:Rd H a (.dK kvs)):kvs.length<=sizeLine/\(a == sysModules)=false/\∃ vs,KV kvs vs/\h.DictOf (bc P w) a vs :=
 show ObjOk P w H h a (.dK kvs) from oE ok e
theorem dk_of {kvs:List (Key×V)} (ok:HOk P w H h) (e:H a=some (.dK kvs)):kvs.length<=sizeLine/\(a == sysModules)=false/\∃ vs,KV kvs vs/\h.DictOf (bc P w) a vs:=fM ok (.inl e)
theorem cU {ks:List Key} (ok:HOk P w H h) (e:H a=some (.tup (ks.map kV))):(tupleKind (bc P w)).is h ks a:=by
 obtain⟨_,its,r,o,h1,h2,n,h3⟩:=(show ObjOk P w H h a (.tup (ks.map kV)) from ok a _ e)
 exact⟨o,its.toArray,n,h1,h2,h3,by simpa using gi r⟩
theorem fL (ok:HOk P w H h) (e:Rd H a (.dT kvs)):kvs.length<=sizeLine/\(a == sysModules)=false /\
  ∃ xs,KT H kvs xs/\h.DictOfH (tupleKind (bc P w)) a xs:=by
 obtain⟨z,y,xs,r,o,es,ep,h1,h2,h3,h4,h5⟩:=(show ObjOk P w H h a (.dT kvs) from oE ok e)
 refine⟨z,y,xs,r,o,es,ep,h1,h2,h3,h4,fun x hx=>?_,h5⟩
 have all:∀ {l:List (List Key×V)}{m:List (List Key×Addr×Value)},KT H l m->∀ x ∈ m,(tupleKind (bc P w)).is h x.1 x.2.1:=by
  intro l m q
  induction q with
  | nil=>intro x hx; exact nomatch hx
  | @cons p q ps qs hq t ih=>
   intro x hx
   rcases sD.mp hx with e | hx
   ·subst e
    exact cU ok (by rw[<- hq.1]; exact hq.2.1)
   ·exact ih x hx
 exact all r x hx
theorem oU (ok:HOk P w H h) (e:H a=some (.dT kvs)):kvs.length<=sizeLine/\(a == sysModules)=false /\
  ∃ xs,KT H kvs xs/\h.DictOfH (tupleKind (bc P w)) a xs:=fL ok (.inl e)
end
noncomputable def DGet (H:Hp) (a:Addr) (y:V) (r:Option V):Prop :=
 (∃ kvs k,Rd H a (.dK kvs)/\y=kV k/\r=au kvs k)∨∃ kvs k b,Rd H a (.dT kvs)/\y=.ref b/\H b=some (.tup (k.map kV))/\r=au kvs k
noncomputable def DPut (H:Hp) (a:Addr) (y v:V) (H':Hp):Prop :=
 (∃ kvs k,H a=some (.dK kvs)/\y=kV k/\kvs.length<sizeLine/\H'=upd H a (.dK (aG kvs k v))) ∨
 ∃ kvs k b,H a=some (.dT kvs)/\y=.ref b/\H b=some (.tup (k.map kV))/\kvs.length<sizeLine/\H'=upd H a (.dT (aG kvs k v))
theorem DGet.k {a:Addr}{kvs:List (Key×V)}{k:Key} (e:H a=some (.dK kvs)):DGet H a (kV k) (au kvs k):=.inl ⟨kvs,k,.inl e,U,U⟩
theorem DGet.t {a b:Addr}{k:List Key} (e:H a=some (.dT kvs)) (eb:H b=some (.tup (k.map kV))):DGet H a (.ref b) (au kvs k):=.inr ⟨kvs,k,b,.inl e,U,eb,U⟩
theorem DPut.k {a:Addr}{kvs:List (Key×V)}{k:Key}{v:V} (e:H a=some (.dK kvs)) (hl:kvs.length<sizeLine):DPut H a (kV k) v (upd H a (.dK (aG kvs k v))):=.inl ⟨kvs,k,e,U,hl,U⟩
theorem DPut.t {a b:Addr}{k:List Key}{v:V} (e:H a=some (.dT kvs)) (eb:H b=some (.tup (k.map kV))) (hl:kvs.length<sizeLine) :
  DPut H a (.ref b) v (upd H a (.dT (aG kvs k v))):=.inr ⟨kvs,k,b,e,U,eb,hl,U⟩
variable{Q:Value->Shared->Prop}
section
variable {X:Cx}{pins:List (Addr×Obj)}{σ:St}{H:Hp}{s:Shared}{a:Addr}{y v:V}{u r:Value}{o:Option V}{A:Around}{E:Value->Shared->Prop}
theorem Inv.big (I:Inv X pins σ H s):sysModules<s.heap.objs.size:=by
 have h:mainGlobals<s.heap.objs.size:=(I.mod.glob.keeps I.bk).lt
 exact Nat.lt_trans (by decide) h
theorem kh (hu:A.units+1<cLine) (I:Inv X pins σ H s) (g:DGet H a y (some v)) (ry:RelV y u) (h:∀ w' s',Inv X pins σ H s'->RelV v w'->Q w' s') :
  wpAny (model X.prog X.w) A (getItem (.ref a) u) Q E s:=by
 rcases g with ⟨kvs,k,e,ey,l⟩ | ⟨kvs,k,b,e,ey,eb,l⟩
 ·subst ey
  obtain⟨z,hd,vs,rel,dd⟩:=fM I.hok e
  obtain⟨w',hw,rw'⟩:=RelO.some_of (v:=v) (o:=valueAt vs k) (by rw[l]; exact rel.val k)
  exact wpAny_getItem_of (gg ry) dd.mapOf hw (h w' _ (I.tok _) rw')
 ·subst ey
  cases (show u=Value.ref b from ry)
  obtain⟨z,hd,xs,rel,dd⟩:=fL I.hok e
  obtain⟨w',hw,rw'⟩:=RelO.some_of (v:=v) (o:=(atKey xs k).map (·.2)) (by rw[l]; exact rel.val k)
  obtain⟨p,hp,hp2⟩:=Option.map_eq_some_iff.mp hw
  refine wpAny_getItem_heap (tupleKind_room_in1 hu) (cU I.hok eb) dd hp ?_
  rw[hp2]
  exact h w' _ (I.tok _) rw'
theorem d_in (hu:A.units+1<cLine) (I:Inv X pins σ H s) (g:DGet H a y o) (ry:RelV y u) (h:∀ s',Inv X pins σ H s'->Q (.bool o.isSome) s') :
  wpAny (model X.prog X.w) A (compareOp .In u (.ref a)) Q E s:=by
 rcases g with ⟨kvs,k,e,ey,l⟩ | ⟨kvs,k,b,e,ey,eb,l⟩
 ·subst ey
  obtain⟨z,hd,vs,rel,dd⟩:=fM I.hok e
  refine wpAny_in_of (gg ry) hd dd.mapOf ?_
  rw[<- (rel.val k).isSome_eq,<- l]
  exact h _ (I.tok _)
 ·subst ey
  cases (show u=Value.ref b from ry)
  obtain⟨z,hd,xs,rel,dd⟩:=fL I.hok e
  refine wpAny_in_heap (tupleKind_room_in1 hu) (cU I.hok eb) hd dd ?_
  have q:=(rel.val k).isSome_eq
  rw[Option.isSome_map] at q
  rw[<- q,<- l]
  exact h _ (I.tok _)
theorem ng (hu:A.units+1<cLine) (I:Inv X pins σ H s) (g:DGet H a y o) (ry:RelV y u) (h:∀ s',Inv X pins σ H s'->Q (.bool (!o.isSome)) s') :
  wpAny (model X.prog X.w) A (compareOp .NotIn u (.ref a)) Q E s:=by
 rcases g with ⟨kvs,k,e,ey,l⟩ | ⟨kvs,k,b,e,ey,eb,l⟩
 ·subst ey
  obtain⟨z,hd,vs,rel,dd⟩:=fM I.hok e
  refine wpAny_notIn_of (gg ry) hd dd.mapOf ?_
  rw[<- (rel.val k).isSome_eq,<- l]
  exact h _ (I.tok _)
 ·subst ey
  cases (show u=Value.ref b from ry)
  obtain⟨z,hd,xs,rel,dd⟩:=fL I.hok e
  refine wpAny_notIn_heap (tupleKind_room_in1 hu) (cU I.hok eb) hd dd ?_
  have q:=(rel.val k).isSome_eq
  rw[Option.isSome_map] at q
  rw[<- q,<- l]
  exact h _ (I.tok _)
theorem hG {h':Heap}{t':Nat}{ob:HO} (I:Inv X pins σ H s) (mu:Mut (H a)) (hs:Heap.SameBut a s.heap h') (he:∃ q,h'.get? a=some q) (new:ObjOk X.prog X.w (upd H a ob) h' a ob) :
  Inv X pins σ (upd H a ob) { s with heap:=h',toks:=t' } :=
 I.write (x:=a) (e:=a) mu (.inl rfl) (fun b q hb z=>(hs.2 b hb).trans z) he new
theorem qr {w:World}{H':Hp}{h':Heap}{kvs:List (Key×V)}{vs:List (Key×Value)} (z:kvs.length<=sizeLine) (hd:(a == sysModules)=false) (rel:KV kvs vs) (dd:h'.DictOf (bc P w) a vs) :
  ObjOk P w H' h' a (.dK kvs):=⟨z,hd,vs,rel,dd⟩
theorem kg {H':Hp}{Q:Unit->Shared->Prop} (hu:A.units+1<cLine) (I:Inv X pins σ H s) (g:DPut H a y v H') (ry:RelV y u) (rv:RelV v r) (h:∀ s',Inv X pins σ H' s'->Q () s') :
  wpAny (model X.prog X.w) A (setItem (.ref a) u r) Q E s:=by
 rcases g with ⟨kvs,k,e,ey,l,eH⟩ | ⟨kvs,k,b,e,ey,eb,l,eH⟩
 ·subst ey eH
  obtain⟨z,hd,vs,rel,dd⟩:=dk_of I.hok e
  have hz:vs.length<=sizeLine:=by rw[<- rel.length]; exact z
  have hl:(aG kvs k v).length<=sizeLine:=by have:=bf kvs k v; omega
  refine wpAny_setItem_pairs (hsz:=hz) (gg ry) dd fun h' dd' hs=>h _ ?_
  have he:∃ q,h'.get? a=some q:=let ⟨q,_,_,hq,_⟩:=dd'; ⟨q,hq⟩
  exact hG I (by rw[e]; exact True.intro) hs he (qr hl hd (rel.put k rv) dd')
 ·subst ey eH
  cases (show u=Value.ref b from ry)
  obtain⟨z,hd,xs,rel,dd⟩:=oU I.hok e
  have hz:xs.length<=sizeLine:=by rw[<- Paired.length rel]; exact z
  have hl:(aG kvs k v).length<=sizeLine:=by have:=bf kvs k v; omega
  refine wpAny_setItem_heap (hsz:=hz) (tupleKind_room_in1 hu) (cU I.hok eb) dd fun h' dd' hs=>h _ ?_
  obtain⟨q,es,ep,hq,h2,h3,h4,_,h5⟩:=dd'
  refine hG I (by rw[e]; exact True.intro) hs ⟨q,hq⟩ ⟨hl,hd,_,(rel.put k eb rv).keeps fun c ys ec=>?_,q,es,ep,hq,h2,h3,h4,h5⟩
  rw[aA (lB ec e (fun z=>nomatch z))]
  exact ec
end
noncomputable def qC (i:Expr):Prop:=∀ ov iv,subscripted i false ov iv=operate [ov,iv] (getItem ov iv)
theorem jd {prog:Program}{w:World}{A:Around}{E:Value->Shared->Prop}{s:Shared}{env:Env}{value slice:Expr}{pos:Pos}{T id:String}
  (hl:typeLookup (.type T) "__getitem__" = pure (some (.builtin id))) (hs:qC slice)
  (h:wpAny (model prog w) A (eval value env) (fun o s₁=>wpAny (model prog w) A (eval slice env) (fun i s₂=>s₂.TypeIs o T/\wpAny (model prog w) A (getItem o i) Q E s₂) E s₁) E s) :
  wpAny (model prog w) A (eval (.Subscript value slice pos) env) Q E s:=by
 refine Subscript_ (wpAny_mono h (fun o s₁ h₁=>wpAny_mono h₁ (fun i s₂ h₂=>?_) fun _ _ x=>x) fun _ _ x=>x)
 obtain⟨hT,h₂⟩:=h₂
 unfold subscriptTail
 refine wpAny_bind ?_
 rw[getitemInPython_of_ne hT.not_modules]
 refine wpAny_bind (wpAny_specialOf hT hl ?_)
 have fin:wpAny (model prog w) A (subscripted slice false o i) (fun r s₃=>wpAny (model prog w) A (letTemporaryGo value o r >>= fun _=>pure r) Q E s₃) E s₂:=by
  rw[hs o i]
  exact wpAny_operating (wpAny_mono h₂ (fun r s₃ h₃=>wpAny_bind (wpAny_letTemporaryGo (wpAny_pure h₃))) fun _ _ x=>x)
 first
  | exact wpAny_pure (wpAny_bind fin)
  | exact wpAny_bind (wpAny_pure (wpAny_bind fin))
  | exact wpAny_bind fin
theorem iH {X:Cx}{pins:List (Addr×Obj)}{σ:St}{s:Shared}{a:Addr}{y:V}{o:Option V} (I:Inv X pins σ H s) (g:DGet H a y o):s.TypeIs (.ref a) "dict":=by
 rcases g with ⟨kvs,k,e,_,_⟩ | ⟨kvs,k,b,e,_,_,_⟩
 ·obtain⟨_,_,vs,_,dd⟩:=fM I.hok e
  exact dd.typeIs
 ·obtain⟨_,_,xs,_,dd⟩:=fL I.hok e
  exact dd.typeIs
inductive TD_ (x y:V) (H:Hp) (Q:VK):Prop
 | mk (a:Addr) (v:V) (h1:x=.ref a) (h2:DGet H a y (some v)) (q:Q v H):TD_ x y H Q
noncomputable def tDGet (td ty:TE):TE:=fun σ H Q=>td σ H fun x H1=>ty σ H1 fun y H2=>TD_ x y H2 Q
noncomputable def tDIn (ty td:TE):TE:=fun σ H Q=>ty σ H fun y H1=>td σ H1 fun x H2=>∃ a o,x=.ref a/\DGet H2 a y o/\Q (.bl o.isSome) H2
noncomputable def mE (ty td:TE):TE:=fun σ H Q=>ty σ H fun y H1=>td σ H1 fun x H2=>∃ a o,x=.ref a/\DGet H2 a y o/\Q (.bl (!o.isSome)) H2
noncomputable def sDPut (td ty tv:TE):TS:=fun D σ H=>tv σ H fun v H1=>td σ H1 fun x H2=>ty σ H2 fun y H3=>∃ a H4,x=.ref a/\DPut H3 a y v H4/\D.nx σ H4
section
variable {X:Cx}{o i e value:Expr}{pos pos' tpos:Pos}{td ty tv:TE}
theorem d4 (hu:X.A.units+1<cLine) (ho:PE X o td) (hi:PE X i ty) (hs:qC i:=by exact fun _ _=>rfl):PE X (.Subscript o i pos) (tDGet td ty):=by
 intro pins s σ H Q I h
 refine jd PySem.F.slot_dict_getitem.lookup hs (thn (ho pins s σ H _ I h) fun u s1 ⟨x,H1,I1,rx,q1⟩=>thn (hi pins s1 σ H1 _ I1 q1) fun iv s2 ⟨y,H2,I2,ry,a,v,ex,g,q2⟩=>?_)
 subst ex
 obtain rfl:u=Value.ref a:=rx
 exact⟨iH I2 g,kh hu I2 g ry fun w' s3 I3 rw'=>⟨v,H2,I3,rw',q2⟩⟩
theorem k9 (hu:X.A.units+1<cLine) (hi:PE X i ty) (ho:PE X o td):PC X .In i o (tDIn ty td):=by
 intro pins s σ H Q I h
 refine thn (hi pins s σ H _ I h) fun iv s1 ⟨y,H1,I1,ry,q1⟩=>thn (ho pins s1 σ H1 _ I1 q1) fun u s2 ⟨x,H2,I2,rx,a,ov,ex,g,q2⟩=>?_
 subst ex
 obtain rfl:u=Value.ref a:=rx
 exact d_in hu I2 g ry fun s3 I3=>⟨.bl ov.isSome,H2,I3,U,q2⟩
theorem f6 (hu:X.A.units+1<cLine) (hi:PE X i ty) (ho:PE X o td):PC X .NotIn i o (mE ty td):=by
 intro pins s σ H Q I h
 refine thn (hi pins s σ H _ I h) fun iv s1 ⟨y,H1,I1,ry,q1⟩=>thn (ho pins s1 σ H1 _ I1 q1) fun u s2 ⟨x,H2,I2,rx,a,ov,ex,g,q2⟩=>?_
 subst ex
 obtain rfl:u=Value.ref a:=rx
 exact ng hu I2 g ry fun s3 I3=>⟨.bl (!ov.isSome),H2,I3,U,q2⟩
theorem cJ (hu:X.A.units+1<cLine) (ho:PE X o td) (hi:PE X i ty) (hv:PE X value tv) (hs:swapsWith value (some (.Subscript o i pos')) pos.line X.env=pure false) :
  PS X (.Assign [.Subscript o i pos'] value pos) (sDPut td ty tv):=by
 intro pins s σ H D I h
 refine wpAny_Assign_Subscript (thn (hv pins s σ H _ I h) fun r s1 ⟨v,H1,I1,rv,q1⟩=>thn (ho pins s1 σ H1 _ I1 q1) fun u s2 ⟨x,H2,I2,rx,q2⟩=>thn (hi pins s2 σ H2 _ I2 q2) fun iv s3 ⟨y,H3,I3,ry,a,H4,ex,g,q3⟩=>?_) hs
 subst ex
 obtain rfl:u=Value.ref a:=rx
 exact kg hu I3 g ry rv fun s4 I4=>⟨σ,H4,I4,q3⟩
end
theorem lR {w:World} (h:Heap) (hb:sysModules<h.objs.size):ObjOk P w H (h.push { cls:=.type "dict",data:=.dict #[] }) h.objs.size (.dK []) :=
 ⟨Nat.zero_le _,beq_eq_false_iff_ne.mpr (Ne.symm (Nat.ne_of_lt hb)),[],.nil,Heap.DictOf.new h⟩
theorem lQ {w:World} (h:Heap) (hb:sysModules<h.objs.size):ObjOk P w H (h.push { cls:=.type "dict",data:=.dict #[] }) h.objs.size (.dT []) :=
 ⟨Nat.zero_le _,beq_eq_false_iff_ne.mpr (Ne.symm (Nat.ne_of_lt hb)),[],.nil,_,#[],0,Heap.get?_push_size _ rfl,⟨U,U,U⟩,U,U,List.nodup_nil⟩
noncomputable def pj:TE:=fun _ H Q=>∀ p,H p=none->Q (.ref p) (upd H p (.dK []))
noncomputable def pi:TE:=fun _ H Q=>∀ p,H p=none->Q (.ref p) (upd H p (.dT []))
section
variable {X:Cx}{pos:Pos}
theorem ff:PE X (.Dict [] [] pos) pj:=fun pins s σ H Q I h=>
 wpAny_Dict_empty ⟨.ref s.heap.objs.size,_,I.laid (a:=s.heap.objs.size) (o:=.dK []) (t':=s.toks) (fun _ _ q=>Heap.get?_push_of_some _ q) (Nat.le_refl _) (lR s.heap I.big),U,h _ (I.hok.fresh (Nat.le_refl _))⟩
theorem fc:PE X (.Dict [] [] pos) pi:=fun pins s σ H Q I h=>
 wpAny_Dict_empty ⟨.ref s.heap.objs.size,_,I.laid (a:=s.heap.objs.size) (o:=.dT []) (t':=s.toks) (fun _ _ q=>Heap.get?_push_of_some _ q) (Nat.le_refl _) (lQ s.heap I.big),U,h _ (I.hok.fresh (Nat.le_refl _))⟩
end
noncomputable def mergeK (kvs more:List (Key×V)):List (Key×V):=more.foldl (fun acc kv=>aG acc kv.1 kv.2) kvs
structure M1 (X:Cx) (o:Expr) (m:Str) (apos:Pos) (e:Expr) (cpos:Pos):Prop where
 base:attributeBase o m X.env (eval o X.env)=eval o X.env
 few:((backTo cpos (starEach [e] X.env)).all (fun x=>!x.1) && (backToKw cpos (keywordEach [] X.env)).all (fun x=>x.1.isSome)
  && decide (([e]:List Expr).length+([]:List Keyword).length+(if ([]:List Keyword).isEmpty then 0 else 1)<30))=true
 line:(apos.endLine == cpos.line)=true
 trees:backTo cpos (starEach [e] X.env)=[(false,eval e X.env)]
structure M2 (X:Cx) (o:Expr) (m:Str) (apos:Pos) (e f:Expr) (cpos:Pos):Prop where
 base:attributeBase o m X.env (eval o X.env)=eval o X.env
 few:((backTo cpos (starEach [e,f] X.env)).all (fun x=>!x.1) && (backToKw cpos (keywordEach [] X.env)).all (fun x=>x.1.isSome)
  && decide (([e,f]:List Expr).length+([]:List Keyword).length+(if ([]:List Keyword).isEmpty then 0 else 1)<30))=true
 line:(apos.endLine == cpos.line)=true
 trees:backTo cpos (starEach [e,f] X.env)=[(false,eval e X.env),(false,eval f X.env)]
noncomputable def IsD (H:Hp) (a:Addr):Prop:=(∃ kvs,Rd H a (.dK kvs))∨∃ kvs,Rd H a (.dT kvs)
theorem i5 {X:Cx}{pins:List (Addr×Obj)}{σ:St}{s:Shared}{a:Addr} (I:Inv X pins σ H s) (d:IsD H a) :
  s.TypeIs (.ref a) "dict" /\ (∀ b,Value.ref a=.ref b->∃ ob,s.heap.get? b=some ob/\ob.dict=none)/\(a == sysModules)=false:=by
 rcases d with ⟨kvs,e⟩ | ⟨kvs,e⟩
 ·obtain⟨_,hd,vs,_,dd⟩:=fM I.hok e
  refine⟨dd.typeIs,fun b q=>?_,hd⟩
  cases q
  obtain⟨ob,_,_,h1,h2,_⟩:=dd
  exact⟨ob,h1,h2.2.1⟩
 ·obtain⟨_,hd,xs,_,dd⟩:=fL I.hok e
  refine⟨dd.typeIs,fun b q=>?_,hd⟩
  cases q
  obtain⟨ob,_,_,h1,h2,_⟩:=dd
  exact⟨ob,h1,h2.2.1⟩
section
variable {X:Cx}{pins:List (Addr×Obj)}{σ:St}{H:Hp}{s:Shared}{a:Addr}{y d:V}{u r:Value}{o:Option V}{A:Around}{E:Value->Shared->Prop}
theorem qt (hu:A.units+1<cLine) (I:Inv X pins σ H s) (g:DGet H a y o) (ry:RelV y u) (h:∀ w' s',Inv X pins σ H s'->RelV (o.getD .non) w'->Q w' s') :
  wpAny (model X.prog X.w) A (call (.builtin "dict.get") [.ref a,u]) Q E s:=by
 rcases g with ⟨kvs,k,e,ey,l⟩ | ⟨kvs,k,b,e,ey,eb,l⟩
 ·subst ey
  obtain⟨z,hd,vs,rel,dd⟩:=fM I.hok e
  refine call_meetsIn PySem.F.slot_dict_get dd.typeIs PySem.F.entry_dict_get (PySem.F.args_dict_get_2 _ _) (meets_dict_get (bc X.prog X.w) a (gg ry) hd) ⟨_,dd.mapOf,h _ _ (I.tok _) ?_⟩
  rw[l]
  exact(rel.val k).getD rfl
 ·subst ey
  cases (show u=Value.ref b from ry)
  obtain⟨z,hd,xs,rel,dd⟩:=fL I.hok e
  refine call_meetsIn PySem.F.slot_dict_get dd.typeIs PySem.F.entry_dict_get (PySem.F.args_dict_get_2 _ _) (meetsH_dict_get (tupleKind (bc X.prog X.w)) a b hd) ⟨tupleKind_room_in1 hu,k,xs,cU I.hok eb,dd,h _ _ (I.tok _) ?_⟩
  rw[l]
  exact(rel.val k).getD rfl
end
noncomputable def pq (td ty:TE):TE:=fun σ H Q=>td σ H fun x H1=>∃ a,x=.ref a/\IsD H1 a/\ty σ H1 fun y H2=>∃ o,DGet H2 a y o/\Q (o.getD .non) H2
section
variable {X:Cx}{o e f:Expr}{apos cpos:Pos}{td ty tx:TE}
theorem fg (hu:X.A.units+1<cLine) (ho:PE X o td) (he:PE X e ty) (m:M1 X o "get" apos e cpos):PE X (.Call (.Attribute o "get" apos) [e] [] cpos) (pq td ty):=by
 intro pins s σ H Q I h
 refine wpAny_Call_method m.base m.few m.line PySem.F.plainAttrs_dict PySem.F.slot_dict_get PySem.F.type_dict_get (thn (ho pins s σ H _ I h) fun u s1 ⟨x,H1,I1,rx,a,ex,d,q1⟩=>?_)
 subst ex
 obtain rfl:u=Value.ref a:=rx
 obtain⟨t1,t2,_⟩:=i5 I1 d
 refine⟨t1,t2,?_⟩
 rw[m.trees]
 refine Calls.callWith_builtin rfl (Calls.evalArgs_plain (Calls.spliced_cons (thn (he pins s1 σ H1 _ I1 q1) fun iv s2 ⟨y,H2,I2,ry,ov,g,q2⟩=>Calls.spliced_nil ?_)))
 exact qt hu I2 g ry fun w' s3 I3 rw'=>⟨_,H2,I3,rw',q2⟩
end
end L2
namespace HT
open PySem PyProof.Rows
section
open PySem.SeqAt
open PySem.AutoSeq1 (wpAny_loadPart')
open PySem.MeetsSeq PySem.MeetsSeq2 PySem.MeetsSeq3
end
section
variable {prog:Program}{w:World}{A:Around}{E:Value->Shared->Prop}{s:Shared}
noncomputable def sIx (n d:Nat):Option Int->Nat
 | none=>d
 | some v=>if v<0 then(v+(n:Int)).toNat else min v.toNat n
theorem pE (n d:Nat) (hd:d<=n) (o:Option Int):sIx n d o<=n:=by
 cases o with
 | none=>exact hd
 | some v=>
  show(if v<0 then(v+(n:Int)).toNat else min v.toNat n)<=n
  by_cases hv:v<0
  ·rw[if_pos hv]; omega
  ·rw[if_neg hv]; exact Nat.min_le_right _ _
theorem jC (v:Int) (n d:Nat):(if v<0 then max (v+(n:Int)) 0 else min v (n:Int))=((sIx n d (some v):Nat):Int):=by
 show(if v<0 then max (v+(n:Int)) 0 else min v (n:Int))=(((if v<0 then(v+(n:Int)).toNat else min v.toNat n):Nat):Int)
 by_cases hv:v<0
 ·simp only[if_pos hv]; omega
 ·simp only[if_neg hv]; omega
theorem jb (lo hi:Option Int) (n:Nat):Builtin.Slice.sliceAdjust lo hi 1 (n:Int)=(((sIx n 0 lo:Nat):Int),((sIx n n hi:Nat):Int)):=by
 have h1:¬ ((1:Int)<0):=by omega
 unfold Builtin.Slice.sliceAdjust
 simp only[h1,if_false]
 refine Prod.ext ?_ ?_
 ·cases lo with
  | none=>rfl
  | some v=>exact jC v n 0
 ·cases hi with
  | none=>rfl
  | some v=>exact jC v n n
theorem iS (i j:Nat):Builtin.Slice.slicePlaces (i:Int) (j:Int) 1=j - i:=by
 unfold Builtin.Slice.slicePlaces
 have h1:(1:Int) > 0:=by omega
 simp only[h1,if_true,Int.ediv_one]
 split <;> omega
theorem eL {v:Value}{o:Option Int}{Q:Option Int->Shared->Prop} (p:IsPart v o) (h:Q o s):wpAny (model prog w) A (Builtin.Slice.slicePartIndex v) Q E s:=by
 cases p with
 | none=>exact slicePart_none h
 | int i t=>exact slicePart_int h
theorem dI {sl:Addr}{vl vu:Value}{lo hi:Option Int}{n:Nat}{Q:Int×Int×Nat->Shared->Prop} (hs:s.heap.IsSliceOf sl vl vu .none) (pl:IsPart vl lo) (pu:IsPart vu hi)
  (h:Q (((sIx n 0 lo:Nat):Int),1,sIx n n hi - sIx n 0 lo) s):wpAny (model prog w) A (Builtin.Slice.sliceApplied (.ref sl) (pure (n:Int))) Q E s:=by
 obtain⟨os,hos,hcs,hds⟩:=id hs
 unfold Builtin.Slice.sliceApplied Builtin.Slice.sliceFields
 refine wpAny_bind (wpAny_bind (wpAny_field hos hds (x:=vl) rfl (wpAny_bind (wpAny_field hos hds (x:=vu) rfl (wpAny_bind (wpAny_field hos hds (x:=.none) rfl (wpAny_pure ?_)))))))
 refine wpAny_bind (slicePart_none ?_)
 show wpAny _ _ (if ((1:Int) == 0)=true then _ else _) _ _ s
 rw[if_neg (by decide)]
 refine wpAny_bind (eL pl (wpAny_bind (eL pu (wpAny_bind (wpAny_pure ?_)))))
 show wpAny _ _ (match Builtin.Slice.sliceAdjust lo hi 1 (n:Int) with | (lo,hi) => pure (lo,(1:Int),Builtin.Slice.slicePlaces lo hi 1)) _ _ s
 rw[jb lo hi n]
 show wpAny _ _ (pure (((sIx n 0 lo:Nat):Int),(1:Int),Builtin.Slice.slicePlaces ((sIx n 0 lo:Nat):Int) ((sIx n n hi:Nat):Int) 1)) _ _ s
 rw[iS]
 exact wpAny_pure h
theorem kX (xs:Array Value) (i k:Nat):((List.range k).filterMap fun(m:Nat)=>xs[((i:Int)+(m:Int)*1).toNat]?).toArray=((xs.toList.drop i).take k).toArray:=by
 have e:(fun(m:Nat)=>xs[((i:Int)+(m:Int)*1).toNat]?)=fun m=>xs[i+m]?:=by
  funext m
  have:((i:Int)+(m:Int)*1).toNat=i+m:=by omega
  rw[this]
 rw[e]
 have:=pick_run xs i k
 rw[List.filterMap_map] at this
 have e2:((fun x=>xs[x]?) ∘ fun x=>i+x)=fun m=>xs[i+m]?:=rfl
 rw[e2] at this
 rw[this]
theorem getItem_tuple_cut {t sl:Addr}{items:Array Value}{vl vu:Value}{lo hi:Option Int}{Q:Value->Shared->Prop} (ht:IsTup s.heap t items) (hs:s.heap.IsSliceOf sl vl vu .none) (pl:IsPart vl lo) (pu:IsPart vu hi)
  (hw:¬ (sIx items.size 0 lo=0/\sIx items.size items.size hi=items.size))
  (h:Q (.ref s.heap.objs.size) { s with heap:=s.heap.push { cls:=.type "tuple",data:=.seq ((items.toList.drop (sIx items.size 0 lo)).take (sIx items.size items.size hi - sIx items.size 0 lo)).toArray } })
  (hsz:items.size<=sizeLine):wpAny (model prog w) A (getItem (.ref t) (.ref sl)) Q E s:=by
 have htake:sizeOk (.seq ((items.toList.drop (sIx items.size 0 lo)).take (sIx items.size items.size hi - sIx items.size 0 lo)).toArray):=by
  show((items.toList.drop (sIx items.size 0 lo)).take (sIx items.size items.size hi - sIx items.size 0 lo)).toArray.size<=sizeLine
  rw[sI,sS,List.length_drop,Array.length_toList]
  omega
 have hj:sIx items.size items.size hi<=items.size:=pE _ _ (Nat.le_refl _) hi
 obtain⟨os,hos,hcs,hds⟩:=id hs
 have hTs:s.TypeIs (.ref sl) "slice":=⟨os,hos,hcs⟩
 unfold getItem
 try with_reducible refine wpAny_holding ?_
 first | refine wpAny_bind (wpAny_pure ?_) | skip
 refine wpAny_bind (wpAny_sequenceKey ht.typeIs (by decide) ?_)
 refine wpAny_bind (wpAny_callSpecial?_slot (name:=Str.ofString "__getitem__") ht.typeIs PyProof.Rows.slot_tuple_getitem
  (wpAny_call_entry PyProof.Rows.slot_tuple_getitem ht.typeIs entry_tuple_getitem ?_ (args_tuple_getitem _ _)))
 show wpAny _ _ (Builtin.Tuple.tupleItemsOf (.ref t) >>= _) _ _ s
 refine wpAny_bind (tupleItemsOf_ ht ?_)
 refine wpAny_bind (wpAny_typeOf hTs ?_)
 rw[if_pos (by decide)]
 refine wpAny_bind (dI hs pl pu ?_)
 have hno:¬ ((((sIx items.size 0 lo:Nat):Int) == 0 && (1:Int) == 1 && (sIx items.size items.size hi - sIx items.size 0 lo) == items.size)=true):=by
  intro q
  rw[Bool.and_eq_true,Bool.and_eq_true] at q
  have q1:((sIx items.size 0 lo:Nat):Int)=0:=eq_of_beq q.1.1
  have q2:sIx items.size items.size hi - sIx items.size 0 lo=items.size:=eq_of_beq q.2
  exact hw ⟨by omega,by omega⟩
 show wpAny _ _ (if (((sIx items.size 0 lo:Nat):Int) == 0 && (1:Int) == 1 && (sIx items.size items.size hi - sIx items.size 0 lo) == items.size)=true then _ else _) _ _ s
 rw[if_neg hno,kX]
 first
  | exact wpAny_bind (m:=Builtin.Tuple.tupleExact _) (wpAny_newObj_type (wpAny_pure ⟨_,rfl,wpAny_pure h⟩) htake)
  | exact wpAny_bind (m:=Builtin.Tuple.tupleExact _) (wpAny_newObj_type (wpAny_bind (wpAny_pure (wpAny_pure ⟨_,rfl,wpAny_pure h⟩))) htake)
  | exact wpAny_bind (wpAny_bind (m:=Builtin.Tuple.tupleExact _) (wpAny_newObj_type (wpAny_pure (wpAny_pure ⟨_,rfl,wpAny_pure h⟩)) htake))
  | exact wpAny_bind (wpAny_bind (m:=Builtin.Tuple.tupleExact _) (wpAny_newObj_type (wpAny_pure ⟨_,rfl,wpAny_pure h⟩) htake))
end
end HT
namespace L2
open PySem PySem.Spec PyProof.Rows
noncomputable abbrev TO:=St->Hp->(Option Int->Hp->Prop)->Prop
noncomputable def PO (X:Cx) (e:Option Expr) (t:TO):Prop :=
 ∀ (pins:List (Addr×Obj)) (s:Shared) (σ:St) (H:Hp) (Q:Option Int->Hp->Prop),Inv X pins σ H s->t σ H Q ->
  wpAny (model X.prog X.w) X.A (evalPart e X.env) (fun u s'=>∃ o H',Inv X pins σ H' s'/\IsPart u o/\Q o H') X.xe s
noncomputable def mD:TO:=fun _ H Q=>Q none H
noncomputable def tPart (t:TE):TO:=fun σ H Q=>t σ H fun x H1=>∃ i,x=.int i/\Q (some i) H1
section
variable {X:Cx}{e:Expr}{te:TE}{lo hi:Option Expr}{tl th:TO}{pos p2:Pos}
theorem dh:PO X none mD:=by
 intro pins s σ H Q I h
 rw[evalPart_none]
 exact wpAny_pure ⟨none,H,I,.none,h⟩
theorem dg (h:PE X e te):PO X (some e) (tPart te):=by
 intro pins s σ H Q I hw
 rw[evalPart_some]
 refine thn (h pins s σ H _ I hw) fun u s1 ⟨x,H1,I1,r1,q1⟩=>?_
 obtain⟨i,rfl,q⟩:=q1
 obtain⟨t,rfl⟩:=r1
 exact⟨some i,H1,I1,.int i t,q⟩
noncomputable def SlR (X:Cx) (r:V->Option Int->Option Int->Hp->VK->Prop):Prop :=
 ∀ (pins:List (Addr×Obj)) (s:Shared) (σ:St) (H:Hp) (x:V) (v vl vu:Value) (lo hi:Option Int) (sl:Addr) (Q:VK),Inv X pins σ H s->RelV x v->s.heap.IsSliceOf sl vl vu .none->IsPart vl lo->IsPart vu hi->r x lo hi H Q ->
  ∃ T id,typeLookup (.type T) "__getitem__" = pure (some (.builtin id))/\s.TypeIs v T/\wpAny (model X.prog X.w) X.A (getItem v (.ref sl)) (EP X pins σ Q) X.xe s
noncomputable def tSl (r:V->Option Int->Option Int->Hp->VK->Prop) (te:TE) (tl th:TO):TE:=fun σ H Q=>te σ H fun x H1=>tl σ H1 fun l H2=>th σ H2 fun u H3=>r x l u H3 Q
theorem cx {r:V->Option Int->Option Int->Hp->VK->Prop} (hr:SlR X r) (he:PE X e te) (hl:PO X lo tl) (hu:PO X hi th):PE X (.Subscript e (.Slice lo hi none p2) pos) (tSl r te tl th):=by
 intro pins s σ H Q I h
 refine Subscript_ (thn (he pins s σ H _ I h) fun v s1 ⟨x,H1,I1,r1,q1⟩=>?_)
 refine wpAny_Slice (thn (hl pins s1 σ H1 _ I1 q1) fun vl s2 ⟨l,H2,I2,pl,q2⟩=>thn (hu pins s2 σ H2 _ I2 q2) fun vu s3 ⟨u,H3,I3,pu,q3⟩=>?_)
 rw[evalPart_none]
 refine wpAny_pure ?_
 have I4:Inv X pins σ H3 { s3 with heap:=s3.heap.push { cls:=.type "slice",data:=.fields #[vl,vu,.none] } }:=I3.kept (t':=s3.toks) fun b ob q=>Heap.get?_push_of_some _ q
 obtain⟨T,id,hT,ht,hg⟩:=hr pins { s3 with heap:=s3.heap.push { cls:=.type "slice",data:=.fields #[vl,vu,.none] } } σ H3 x v vl vu l u s3.heap.objs.size Q I4 r1 (Heap.IsSliceOf.new ..) pl pu q3
 show wpAny (model X.prog X.w) X.A (subscriptTail e (.Slice lo hi none p2) v (.ref s3.heap.objs.size)) (EP X pins σ Q) X.xe { s3 with heap:=s3.heap.push { cls:=.type "slice",data:=.fields #[vl,vu,.none] } }
 exact tail_any (ops:=[.ref s3.heap.objs.size,v]) ht hT hg (by with_unfolding_all rfl)
noncomputable def bV (xs:List V) (lo hi:Option Int):List V:=(xs.drop (HT.sIx xs.length 0 lo)).take (HT.sIx xs.length xs.length hi - HT.sIx xs.length 0 lo)
theorem dU (xs:List V) (lo hi:Option Int):(bV xs lo hi).length<=xs.length:=by
 unfold bV
 rw[sS,List.length_drop]
 omega
noncomputable def rSlT (K:PySem.W.Frag):V->Option Int->Option Int->Hp->VK->Prop:=fun x lo hi H Q=>∃ a xs,x=.ref a/\SqT K H a xs /\
 ¬ (HT.sIx xs.length 0 lo=0/\HT.sIx xs.length xs.length hi=xs.length)/\∀ p,H p=none->Q (.ref p) (upd H p (.tup (bV xs lo hi)))
theorem pC:SlR X (rSlT X.K):=by
 intro pins s σ H x v vl vu lo hi sl Q I rx hs pl pu h
 obtain⟨a,xs,rfl,hx,hw,q⟩:=h
 cases rx
 obtain⟨its,r,ht,hz⟩:=I.tuple hx
 have hlen:its.toArray.size=xs.length:=by rw[sI]; exact r.length.symm
 refine⟨"tuple",_,PyProof.Rows.slot_tuple_getitem.lookup,ht.typeIs,?_⟩
 refine HT.getItem_tuple_cut ht hs pl pu (by rw[hlen]; exact hw) ?_ (by rw[hlen]; exact hz)
 rw[hlen]
 refine⟨.ref s.heap.objs.size,_,I.laid (t':=s.toks) (o:=.tup (bV xs lo hi)) (fun b ob q=>Heap.get?_push_of_some _ q) (Nat.le_refl _) ?_,U,q _ (I.hok.fresh (Nat.le_refl _))⟩
 exact⟨Nat.le_trans (dU xs lo hi) hz,_,(r.drop (HT.sIx xs.length 0 lo)).take (HT.sIx xs.length xs.length hi - HT.sIx xs.length 0 lo),IsTup.new _ _⟩
end
noncomputable def ixN (n:Nat) (i:Int):Option Nat:=if 0<=i then(if i<n then some i.toNat else none) else if -(n:Int)<=i then some (i+n).toNat else none
noncomputable def atI {α:Type} (xs:List α) (i:Int):Option α:=(ixN xs.length i).bind fun j=>xs[j]?
theorem jw {n:Nat}{i:Int}{j:Nat} (h:ixN n i=some j):seqIndex? i n=some j/\j<n/\-(n:Int)<=i/\i<n:=by
 unfold ixN at h
 by_cases h0:0<=i
 ·rw[if_pos h0] at h
  by_cases h1:i<n
  ·rw[if_pos h1] at h
   have e:i.toNat=j:=Option.some.inj h
   exact⟨by rw[seqIndex_of h0 h1,e],by omega,by omega,h1⟩
  ·rw[if_neg h1] at h; cases h
 ·rw[if_neg h0] at h
  by_cases h1:-(n:Int)<=i
  ·rw[if_pos h1] at h
   have e:(i+n).toNat=j:=Option.some.inj h
   exact⟨by rw[seqIndex_neg (by omega) h1,e],by omega,h1,by omega⟩
  ·rw[if_neg h1] at h; cases h
theorem jE {α:Type}{xs:List α}{i:Int}{v:α} (h:atI xs i=some v):∃ j,seqIndex? i xs.length=some j/\xs[j]?=some v/\j<xs.length/\-(xs.length:Int)<=i/\i<xs.length:=by
 unfold atI at h
 cases e:ixN xs.length i with
 | none=>rw[e] at h; cases h
 | some j=>
  rw[e] at h
  obtain⟨h1,h2,h3,h4⟩:=jw e
  exact⟨j,h1,h,h2,h3,h4⟩
theorem aC {α:Type}{xs:List α}{j:Nat}{v:α} (h:xs[j]?=some v):atI xs (j:Int)=some v:=by
 have hj:j<xs.length:=(List.getElem?_eq_some_iff.mp h).1
 have e:ixN xs.length (j:Int)=some j:=by
  unfold ixN
  rw[if_pos (by omega),if_pos (by omega)]; simp
 unfold atI; rw[e]; exact h
theorem l7 {α:Type} (xs:List α) (v:α):atI (xs++[v]) (-1)=some v:=by
 have hl:(xs++[v]).length=xs.length+1:=by simp
 have e:ixN (xs++[v]).length (-1)=some xs.length:=by
  unfold ixN
  rw[hl,if_neg (by decide),if_pos (by omega)]
  congr 1
  omega
 unfold atI
 rw[e]
 show(xs++[v])[xs.length]?=some v
 simp
noncomputable def nG (b:Expr):Prop:=∀ o i,subscripted b false o i=operate [o,i] (getItem o i)
noncomputable def IxR (X:Cx) (r:R2):Prop :=
 ∀ (value slice:Expr) (pins:List (Addr×Obj)) (s:Shared) (σ:St) (H:Hp) (x y:V) (v u:Value) (Q:VK),Inv X pins σ H s->RelV x v->RelV y u->r x y H Q ->
  subscripted slice false v u=operate [v,u] (getItem v u)->wpAny (model X.prog X.w) X.A (subscriptTail value slice v u) (EP X pins σ Q) X.xe s
noncomputable def MtR (X:Cx) (id:String) (r:V->List V->Hp->VK->Prop):Prop :=
 ∀ (pins:List (Addr×Obj)) (s:Shared) (σ:St) (H:Hp) (x:V) (xs:List V) (v:Value) (us:List Value) (Q:VK),Inv X pins σ H s->RelV x v->Vals xs us->r x xs H Q ->
  wpAny (model X.prog X.w) X.A (call (.builtin id) (v::us)) (EP X pins σ Q) X.xe s
section
variable {X:Cx}{a b:Expr}{ta tb:TE}{pos:Pos}
theorem aM {r:R2} (hr:IxR X r) (ha:PE X a ta) (hb:PE X b tb) (hs:nG b:=by exact fun _ _=>rfl):PE X (.Subscript a b pos) (tOp r ta tb):=by
 intro pins s σ H Q I h
 exact Subscript_ (qv ha hb I h fun v u s2 x y H2 I2 rx ry q=>hr a b pins s2 σ H2 x y v u Q I2 rx ry q (hs _ _))
inductive RL_ (K:PySem.W.Frag) (x y:V) (H:Hp) (Q:VK):Prop
 | mk (p:Addr) (xs:List V) (i:Int) (v:V) (h1:x=.ref p) (h2:y=.int i) (h3:SqL K H p xs) (h4:atI xs i=some v) (q:Q v H):RL_ K x y H Q
noncomputable def rIxL (K:PySem.W.Frag):R2:=fun x y H Q=>RL_ K x y H Q
inductive RT_ (K:PySem.W.Frag) (x y:V) (H:Hp) (Q:VK):Prop
 | mk (p:Addr) (xs:List V) (i:Int) (v:V) (h1:x=.ref p) (h2:y=.int i) (h3:SqT K H p xs) (h4:atI xs i=some v) (q:Q v H):RT_ K x y H Q
noncomputable def rIxT (K:PySem.W.Frag):R2:=fun x y H Q=>RT_ K x y H Q
theorem aN:IxR X (rIxL X.K):=by
 intro value slice pins s σ H x y v u Q I rx ry h hs
 obtain⟨p,xs,i,z,rfl,rfl,hq,he,q⟩:=h
 cases rx
 obtain⟨t,rfl⟩:=ry
 obtain⟨its,r,pl,hz⟩:=I.list hq
 obtain⟨j,h1,h2,h3,h4,h5⟩:=jE he
 obtain⟨w,ew,rw'⟩:=r.get h2
 have hl:=r.length
 have hn:=fC
 have fin:EP X pins σ Q w s:=⟨z,H,I,rw',q⟩
 by_cases h0:0<=i
 ·have hj:i.toNat=j:=by
   rw[seqIndex_of h0 h5] at h1
   exact Option.some.inj h1
  exact item_listR pl.isList h0 (by omega) (by rw[hj]; simpa using ew) fin hs
 ·have hj:(i+(its.toArray.size:Int)).toNat=j:=by
   rw[seqIndex_neg (by omega) h4] at h1
   rw[sI,<- hl]
   exact Option.some.inj h1
  exact subscriptTail_builtinR (x:=w) pl.isList.typeIs slot_list_getitem.lookup
   (wpAny_getItem_list_neg (Q:=fun r s'=>r=w/\EP X pins σ Q r s') pl.isList (by omega) (by rw[sI] <;> omega) (by omega) (by rw[hj]; simpa using ew) ⟨U,fin⟩) hs
theorem aY:IxR X (rIxT X.K):=by
 intro value slice pins s σ H x y v u Q I rx ry h hs
 obtain⟨p,xs,i,z,rfl,rfl,hq,he,q⟩:=h
 cases rx
 obtain⟨t,rfl⟩:=ry
 obtain⟨its,r,pl,hz⟩:=I.tuple hq
 obtain⟨j,h1,h2,h3,h4,h5⟩:=jE he
 obtain⟨w,ew,rw'⟩:=r.get h2
 have hl:=r.length
 have hn:=fC
 have fin:EP X pins σ Q w s:=⟨z,H,I,rw',q⟩
 exact subscriptTail_builtinR (x:=w) pl.typeIs slot_tuple_getitem.lookup
  (getItem_tuple (j:=j) (Q:=fun r s'=>r=w/\EP X pins σ Q r s') pl (by omega) (by omega) (by rw[sI,<- hl]; exact h1) (by simpa using ew) ⟨U,fin⟩) hs
theorem iX (its:List Value) (n j:Nat) (u:Value):Obj.mapSeq (·.setIfInBounds j u) { cls:=.type "list",data:=.seq its.toArray n }={ cls:=.type "list",data:=.seq (its.set j u).toArray n }:=by
 simp[Obj.mapSeq]
theorem Inv.lst {pins:List (Addr×Obj)}{σ:St}{H:Hp}{s:Shared}{p:Addr}{xs:List V} (I:Inv X pins σ H s) (h:H p=some (.lst xs)) :
  ∃ (its:List Value) (n:Nat),Vals xs its/\s.heap.get? p=some { cls:=.type "list",data:=.seq its.toArray n }/\xs.length<=sizeLine:=by
 obtain⟨z,its,n,r,e⟩:=I.hok p _ h
 exact⟨its,n,r,e,z⟩
theorem Inv.lstUpd {pins:List (Addr×Obj)}{σ:St}{H:Hp}{s:Shared}{p:Addr}{xs ys:List V}{its its':List Value}{n n':Nat}{f:Obj->Obj} (I:Inv X pins σ H s) (h:H p=some (.lst xs))
  (ho:s.heap.get? p=some { cls:=.type "list",data:=.seq its.toArray n }) (hf:f { cls:=.type "list",data:=.seq its.toArray n }={ cls:=.type "list",data:=.seq its'.toArray n' }) (r:Vals ys its') (hz:ys.length<=sizeLine) (t:Nat) :
  Inv X pins σ (upd H p (.lst ys)) { s with heap:=s.heap.update p f,toks:=t }:=by
 have e:(s.heap.update p f).get? p=some { cls:=.type "list",data:=.seq its'.toArray n' }:=by
  rw[Heap.get?_update_self f ho (by rw[hf] <;> rfl),hf]
 refine I.write (x:=p) (e:=p) (by rw[h]; trivial) (.inl rfl) (fun b u hb q=>(Heap.get?_update_other _ _ (Ne.symm hb)).trans q) ⟨_,e⟩ ?_
 exact⟨hz,its',n',r,e⟩
noncomputable def rSetL:V->V->V->Hp->(Hp->Prop)->Prop:=fun o i v H Q=>∃ p xs k j,o=.ref p/\i=.int k/\H p=some (.lst xs)/\ixN xs.length k=some j/\Q (upd H p (.lst (xs.set j v)))
theorem kL:rZ X rSetL:=by
 intro pins s σ H o i v ov iv u Q I ro ri rv h
 obtain⟨p,xs,k,j,rfl,rfl,hp,hj,q⟩:=h
 cases ro
 obtain⟨t,rfl⟩:=ri
 obtain⟨its,n,r,ho,hz⟩:=I.lst hp
 obtain⟨h1,h2,h3,h4⟩:=jw hj
 have hl:=r.length
 have hn:=fC
 have I':Inv X pins σ (upd H p (.lst (xs.set j v))) { s with heap:=s.heap.update p (Obj.mapSeq (·.setIfInBounds j u)) } :=
  I.lstUpd hp ho (iX its n j u) (r.set rv j) (by rw[List.length_set]; exact hz) s.toks
 by_cases h0:0<=k
 ·have hk:k.toNat=j:=by
   rw[seqIndex_of h0 h4] at h1
   exact Option.some.inj h1
  exact PySem.W.ki_setAt ho h0 (by omega) (by rw[sI,<- hl]; exact h4) (by rw[hk]; exact⟨_,I',q⟩)
 ·have hk:(k+(its.toArray.size:Int)).toNat=j:=by
   rw[seqIndex_neg (by omega) h3] at h1
   rw[sI,<- hl]
   exact Option.some.inj h1
  exact PySem.W.ki_setBack ho (by omega) (by rw[sI,<- hl]; exact h3) (by omega) (by rw[hk]; exact⟨_,I',q⟩)
theorem gK (lo hi:Option Int) (n:Nat):(sliceBounds lo hi none n).1=((HT.sIx n 0 lo:Nat):Int)/\(sliceBounds lo hi none n).2.1=((HT.sIx n n hi:Nat):Int)/\(sliceBounds lo hi none n).2.2=1:=by
 refine⟨?_,?_,U⟩
 ·cases lo with
  | none=>simp[sliceBounds,HT.sIx]
  | some i=>
   simp only[sliceBounds,HT.sIx,Option.getD_none,show(1:Int) > 0 by decide,if_true]
   by_cases h:i<0
   ·simp only[h,if_true] <;> omega
   ·simp only[h,if_false] <;> omega
 ·cases hi with
  | none=>simp[sliceBounds,HT.sIx]
  | some i=>
   simp only[sliceBounds,HT.sIx,Option.getD_none,show(1:Int) > 0 by decide,if_true]
   by_cases h:i<0
   ·simp only[h,if_true] <;> omega
   ·simp only[h,if_false] <;> omega
theorem fT (its:List Value) (lo hi:Option Int):slicePick its.toArray lo hi none=((its.drop (HT.sIx its.length 0 lo)).take (HT.sIx its.length its.length hi - HT.sIx its.length 0 lo)).toArray:=by
 obtain⟨h1,h2,h3⟩:=gK lo hi its.toArray.size
 unfold slicePick
 rw[h1,h2,h3]
 simp only[sliceRange_one,pick_run,sI] <;> rfl
noncomputable def rSlL (K:PySem.W.Frag):V->Option Int->Option Int->Hp->VK->Prop:=fun x lo hi H Q=>∃ a xs,x=.ref a/\SqL K H a xs/\∀ p,H p=none->Q (.ref p) (upd H p (.lst (bV xs lo hi)))
theorem d0:SlR X (rSlL X.K):=by
 intro pins s σ H x v vl vu lo hi sl Q I rx hs pl pu h
 obtain⟨a,xs,rfl,hx,q⟩:=h
 cases rx
 obtain⟨its,r,ht,hz⟩:=I.list hx
 have hlen:=r.length
 refine⟨"list",_,slot_list_getitem.lookup,ht.isList.typeIs,?_⟩
 refine wpAny_getItem_list_slice ht.isList hs pl pu .none (by simp) ?_ (by rw[sI] <;> omega)
 rw[fT,<- hlen]
 refine⟨.ref s.heap.objs.size,_,I.laid (t':=s.toks) (o:=.lst (bV xs lo hi)) (fun b ob q=>Heap.get?_push_of_some _ q) (Nat.le_refl _) ?_,U,q _ (I.hok.fresh (Nat.le_refl _))⟩
 exact⟨Nat.le_trans (dU xs lo hi) hz,_,0,(r.drop (HT.sIx xs.length 0 lo)).take (HT.sIx xs.length xs.length hi - HT.sIx xs.length 0 lo),Heap.get?_push_size _ rfl⟩
noncomputable def dS:V->Bool
 | .non=>true
 | .bl _=>true
 | .int _=>true
 | .str _=>true
 | _=>false
noncomputable def eqV:V->V->Bool
 | .non,.non=>true
 | .bl a,.bl b=>a == b
 | .bl a,.int b=>(if a then 1 else 0) == b
 | .int a,.bl b=>a == (if b then 1 else 0)
 | .int a,.int b=>a == b
 | .str a,.str b=>a == b
 | _,_=>false
theorem qq {A:Around}{s:Shared}{y x:V}{u v:Value} (ry:RelV y u) (rx:RelV x v) (fy:dS y=true) (fx:dS x=true):SeqAt.EqAt A s u v (eqV y x):=by
 cases y with
 | non=>
  cases ry
  cases x with
  | non=>cases rx; exact SeqAt.EqAt.same _
  | bl b=>cases rx; exact SeqAt.EqAt.none_bool b
  | int b=>obtain⟨t,rfl⟩:=rx; exact SeqAt.EqAt.none_int b t
  | str b=>obtain⟨t,rfl⟩:=rx; exact SeqAt.EqAt.none_str b t
  | _=>exact absurd (show false=true from fx) Bool.false_ne_true
 | bl a=>
  cases ry
  cases x with
  | non=>cases rx; exact SeqAt.EqAt.bool_none a
  | bl b=>cases rx; exact SeqAt.EqAt.bool_bool a b
  | int b=>obtain⟨t,rfl⟩:=rx; exact SeqAt.EqAt.bool_int a b t
  | str b=>obtain⟨t,rfl⟩:=rx; exact SeqAt.EqAt.bool_str a b t
  | _=>exact absurd (show false=true from fx) Bool.false_ne_true
 | int a=>
  obtain⟨t',rfl⟩:=ry
  cases x with
  | non=>cases rx; exact SeqAt.EqAt.int_none a t'
  | bl b=>cases rx; exact SeqAt.EqAt.int_bool a t' b
  | int b=>obtain⟨t,rfl⟩:=rx; exact SeqAt.EqAt.int_int a t' b t
  | str b=>obtain⟨t,rfl⟩:=rx; exact SeqAt.EqAt.int_str a t' b t
  | _=>exact absurd (show false=true from fx) Bool.false_ne_true
 | str a=>
  obtain⟨t',rfl⟩:=ry
  cases x with
  | non=>cases rx; exact SeqAt.EqAt.str_none a t'
  | bl b=>cases rx; exact SeqAt.EqAt.str_bool a t' b
  | int b=>obtain⟨t,rfl⟩:=rx; exact SeqAt.EqAt.str_int a t' b t
  | str b=>obtain⟨t,rfl⟩:=rx; exact SeqAt.EqAt.str_str a t' b t
  | _=>exact absurd (show false=true from fx) Bool.false_ne_true
 | _=>exact absurd (show false=true from fy) Bool.false_ne_true
noncomputable def eqU (x:V) (u:Value):Bool:=match u with
 | .none=>eqV .non x
 | .bool b=>eqV (.bl b) x
 | .int i _=>eqV (.int i) x
 | .str z _=>eqV (.str z) x
 | _=>false
theorem lN {x y:V}{u:Value} (r:RelV y u) (f:dS y=true):eqU x u=eqV y x:=by
 cases y with
 | non=>cases r; rfl
 | bl b=>cases r; rfl
 | int i=>obtain⟨t,rfl⟩:=r; rfl
 | str z=>obtain⟨t,rfl⟩:=r; rfl
 | _=>exact absurd (show false=true from f) Bool.false_ne_true
theorem dD {x:V}:∀ {xs:List V}{us:List Value},Vals xs us->xs.all dS=true->us.any (eqU x)=xs.any fun y=>eqV y x
 | _,_,.nil,_=>rfl
 | y::xs,u::us,.cons r t,f=>by
  rw[List.all_cons,Bool.and_eq_true] at f
  rw[List.any_cons,List.any_cons,lN r f.1,dD t f.2]
theorem cA {A:Around}{s:Shared}{x:V}{v:Value} (rx:RelV x v) (fx:dS x=true):∀ {xs:List V}{us:List Value},Vals xs us->xs.all dS=true->∀ u ∈ us,SeqAt.EqAt A s u v (eqU x u)
 | _,_,.nil,_=>fun u hu=>by cases hu
 | y::xs,u::us,.cons r t,f=>fun u' hu=>by
  rw[List.all_cons,Bool.and_eq_true] at f
  rcases sD.mp hu with rfl | hu
  ·rw[lN r f.1]; exact qq r rx f.1 fx
  ·exact cA rx fx t f.2 u' hu
noncomputable def inV (x:V) (xs:List V):Bool:=xs.any fun y=>eqV y x
noncomputable def rIn (K:PySem.W.Frag) (neg:Bool):R2:=fun x y H Q=>∃ p xs,y=.ref p/\(SqL K H p xs∨SqT K H p xs)/\dS x=true/\xs.all dS=true/\Q (.bl (if neg then !inV x xs else inV x xs)) H
theorem jR:OpR X (compareOp .In) (rIn X.K false):=by
 intro pins s σ H x y v u Q I rx ry h
 obtain⟨p,xs,rfl,hq,fx,fs,q⟩:=h
 cases ry
 rcases hq with hq | hq
 ·obtain⟨its,r,pl,hz⟩:=I.list hq
  refine SeqAt.in_listAt (eqU x) pl.isList (fun w hw=>cA rx fx r fs w (by simpa using hw)) ⟨.bl _,H,I,U,?_⟩
  rw[show its.toArray.any (eqU x)=its.any (eqU x) by simp,dD r fs]
  exact q
 ·obtain⟨its,r,pl,hz⟩:=I.tuple hq
  refine SeqAt.in_tupleAt (eqU x) pl (fun w hw=>cA rx fx r fs w (by simpa using hw)) ⟨.bl _,H,I,U,?_⟩
  rw[show its.toArray.any (eqU x)=its.any (eqU x) by simp,dD r fs]
  exact q
theorem gX:OpR X (compareOp .NotIn) (rIn X.K true):=by
 intro pins s σ H x y v u Q I rx ry h
 obtain⟨p,xs,rfl,hq,fx,fs,q⟩:=h
 cases ry
 rcases hq with hq | hq
 ·obtain⟨its,r,pl,hz⟩:=I.list hq
  refine SeqAt.notIn_listAt (eqU x) pl.isList (fun w hw=>cA rx fx r fs w (by simpa using hw)) ⟨.bl _,H,I,U,?_⟩
  rw[show its.toArray.any (eqU x)=its.any (eqU x) by simp,dD r fs]
  exact q
 ·obtain⟨its,r,pl,hz⟩:=I.tuple hq
  refine SeqAt.notIn_tupleAt (eqU x) pl (fun w hw=>cA rx fx r fs w (by simpa using hw)) ⟨.bl _,H,I,U,?_⟩
  rw[show its.toArray.any (eqU x)=its.any (eqU x) by simp,dD r fs]
  exact q
theorem aJ:dG X (.builtin "len") (fun xs H Q=>∃ p ys,xs=[.ref p]/\(SqL X.K H p ys∨SqT X.K H p ys)/\Q (.int ys.length) H):=by
 intro pins s σ H xs us Q I r h
 obtain⟨p,ys,rfl,hq,q⟩:=h
 obtain⟨u,rfl,rx⟩:=eI r
 cases rx
 have hn:=fC
 rcases hq with hq | hq
 ·obtain⟨its,r',pl,hz⟩:=I.list hq
  have hlen:=r'.length
  exact Calls.call_len_list pl.isList (by simp only[sI] <;> omega) ⟨.int ys.length,H,I.tok _,⟨s.toks+1,by rw[sI,hlen]⟩,q⟩
 ·obtain⟨its,r',pl,hz⟩:=I.tuple hq
  have hlen:=r'.length
  exact len_tuple pl (by simp only[sI] <;> omega) ⟨.int ys.length,H,I.tok _,⟨s.toks+1,by rw[sI,hlen]⟩,q⟩
theorem bh:dG X (.type "list") (fun xs H Q=>∃ p ys,xs=[.ref p]/\(SqL X.K H p ys∨SqT X.K H p ys)/\∀ l,H l=none->Q (.ref l) (upd H l (.lst ys))):=by
 intro pins s σ H xs us Q I r h
 obtain⟨p,ys,rfl,hq,q⟩:=h
 obtain⟨u,rfl,rx⟩:=eI r
 cases rx
 have fin:∀ (its:List Value),Vals ys its->ys.length<=sizeLine->∀ (h':Heap) (c':Nat),(∀ b o',s.heap.get? b=some o'->h'.get? b=some o') ->
   h'.get? s.heap.objs.size=some { cls:=.type "list",dict:=none,data:=.seq its.toArray c',slots:=#[] }->EP X pins σ Q (.ref s.heap.objs.size) { s with heap:=h' }:=fun its r' hz h' c' kp e=>
  ⟨.ref s.heap.objs.size,_,I.laid (t':=s.toks) kp (Nat.le_refl _) (show ObjOk X.prog X.w _ h' _ (.lst ys) from⟨hz,its,c',r',e⟩),U,q _ (I.hok.fresh (Nat.le_refl _))⟩
 rcases hq with hq | hq
 ·obtain⟨its,r',pl,hz⟩:=I.list hq
  have hlen:=r'.length
  obtain⟨o,ho,hc,n,hd⟩:=pl.isList
  exact call_list_seq p (.inl rfl) ho hc hd (fun h' c' kp e=>fin its r' hz h' c' kp e) (by simp only[sI] <;> omega)
 ·obtain⟨its,r',pl,hz⟩:=I.tuple hq
  have hlen:=r'.length
  obtain⟨o,ho,hc,n,hd⟩:=pl
  exact call_list_seq p (.inr rfl) ho hc hd (fun h' c' kp e=>fin its r' hz h' c' kp e) (by simp only[sI] <;> omega)
noncomputable def tyV (K:PySem.W.Frag) (T:String) (x:V) (H:Hp):Prop:=match x with
 | .str _=>T = "str"
 | .int _=>T = "int"
 | .ref p=>(T = "list" /\ ∃ xs,SqL K H p xs)∨(T = "tuple" /\ ∃ o,K.lookup p=some o/\o.cls=.type "tuple" /\ o.dict=none) ∨
   (T = "dict" /\ ((∃ kvs,H p=some (.dK kvs))∨∃ kvs,H p=some (.dT kvs)))∨(T = "set" /\ ∃ S n,H p=some (.set S n))
 | _=>False
theorem o0 {pins:List (Addr×Obj)}{σ:St}{H:Hp}{s:Shared}{T:String}{x:V}{v:Value} (I:Inv X pins σ H s) (r:RelV x v) (ty:tyV X.K T x H) :
  s.TypeIs v T/\∀ a,v=.ref a->∃ ob,s.heap.get? a=some ob/\ob.dict=none:=by
 cases x with
 | str z=>
  obtain⟨t,rfl⟩:=r
  cases (show T = "str" from ty)
  exact⟨typeIs_str s z t,fun _ e=>nomatch e⟩
 | int i=>
  obtain⟨t,rfl⟩:=r
  cases (show T = "int" from ty)
  exact⟨typeIs_int s i t,fun _ e=>nomatch e⟩
 | ref p=>
  cases r
  rcases ty with ⟨rfl,xs,hq⟩ | ⟨rfl,o,hk,hc,hd⟩ | ⟨rfl,hk⟩ | ⟨rfl,S,n,hk⟩
  ·obtain⟨its,_,pl,_⟩:=I.list hq
   refine⟨pl.isList.typeIs,fun a e=>?_⟩
   cases e
   obtain⟨o,n,e,c,hd,_⟩:=pl
   exact⟨o,e,hd⟩
  ·refine⟨⟨o,I.kIn p o hk,hc⟩,fun a e=>?_⟩
   cases e
   exact⟨o,I.kIn _ o hk,hd⟩
  ·have z:∃ o,s.heap.get? p=some o/\o.ExactDict:=by
    rcases hk with ⟨kvs,hk⟩ | ⟨kvs,hk⟩
    ·obtain⟨_,_,_,_,o,_,_,e,ex,_⟩:=I.hok p _ hk
     exact⟨o,e,ex⟩
    ·obtain⟨_,_,_,_,o,_,_,e,ex,_⟩:=I.hok p _ hk
     exact⟨o,e,ex⟩
   obtain⟨o,e,ex⟩:=z
   refine⟨⟨o,e,ex.1⟩,fun a e2=>?_⟩
   cases e2
   exact⟨o,e,ex.2.1⟩
  ·obtain⟨o,_,_,_,e,ex,_⟩:=I.hok p _ hk
   refine⟨⟨o,e,ex.1⟩,fun a e2=>?_⟩
   cases e2
   exact⟨o,e,ex.2.1⟩
 | _=>exact False.elim ty
noncomputable def tBM (K:PySem.W.Frag) (T:String) (r:V->List V->Hp->VK->Prop) (to:TE) (t:TA):TE:=fun σ H Q=>to σ H fun x H1=>tyV K T x H1/\t σ H1 fun xs H2=>r x xs H2 Q
variable {o e:Expr}{es:List Expr}{to:TE}{t:TA}{name:Str}{apos cpos:Pos}{T id:String}{r:V->List V->Hp->VK->Prop}
theorem bL (pa:PlainAttrs T) (slot:Slot T name id) (hty:typeOf (.builtin id)=pure (.type "method_descriptor")) (hm:MtR X id r) (ho:PE X o to) (ha:PA X (e::es) t)
  (hbase:attributeBase o name X.env (eval o X.env)=eval o X.env:=by rfl)
  (hfew:((backTo cpos (starEach (e::es) X.env)).all (fun x=>!x.1) && (backToKw cpos (keywordEach [] X.env)).all (fun x=>x.1.isSome)
   && decide ((e::es).length+([]:List Keyword).length+(if ([]:List Keyword).isEmpty then 0 else 1)<30))=true:=by rfl)
  (hline:(apos.endLine == cpos.line)=true:=by rfl) (hs:starEach (e::es) X.env=(false,eval e X.env)::starEach es X.env:=by rfl) (hplain:(backTo cpos (starEach es X.env)).any (·.1)=false:=by rfl) :
  PE X (.Call (.Attribute o name apos) (e::es) [] cpos) (tBM X.K T r to t):=by
 intro pins s σ H Q I h
 refine wpAny_Call_method_late hbase hfew hline rfl (thn (ho pins s σ H _ I h) fun v s1 ⟨x,H1,I1,r1,ty,q1⟩=>?_)
 obtain⟨h1,h2⟩:=o0 I1 r1 ty
 refine⟨T,id,pa,slot,hty,h1,h2,?_⟩
 have hA:=ha cpos pins s1 σ H1 _ I1 q1
 rw[hs] at hA ⊢
 refine Calls.callWith_builtin (by show (false || (backTo cpos (starEach es X.env)).any (·.1)) = false; rw [hplain] <;> rfl) (Calls.evalArgs_plain ?_)
 exact thn hA fun us s2 ⟨vs,H2,I2,r2,q2⟩=>hm pins s2 σ H2 x vs v us Q I2 r1 r2 q2
/- xs.append(e),list.index on a module's tuple .. are MtR facts of 06m -/
end
end L2
namespace L2
open PySem PySem.Spec PyProof.Rows
noncomputable def MtM (X:Cx) (id:String) (r:V->List V->Hp->VK->Prop):Prop :=
 ∀ (pins:List (Addr×Obj)) (s:Shared) (σ:St) (H:Hp) (x:V) (xs:List V) (v:Value) (us:List Value) (Q:VK),Inv X pins σ H s->RelV x v->Vals xs us->r x xs H Q ->
  wpAny (model X.prog X.w) X.A (call (.builtin id) (v::us)) (EP X pins σ Q) X.xe s
theorem Vals.one {x:V}{us:List Value} (h:Vals [x] us):∃ u,us=[u]/\RelV x u:=by
 cases h with
 | cons r s=>cases s; exact⟨_,U,r⟩
section
variable {X:Cx}{pins:List (Addr×Obj)}{σ:St}{H:Hp}{s:Shared}{l b:Addr}{xs ys zs:List V}
theorem Inv.lset {its its':List Value}{n:Nat}{f:Array Value->Array Value}{t':Nat} (I:Inv X pins σ H s) (hH:H l=some (.lst xs))
  (e:s.heap.get? l=some { cls:=.type "list",data:=.seq its.toArray n }) (hf:f its.toArray=its'.toArray) (hv:Vals ys its') (hz:ys.length<=sizeLine) :
  Inv X pins σ (upd H l (.lst ys)) { s with heap:=s.heap.update l (Obj.mapSeq f),toks:=t' }:=by
 have q:=PySem.IsL.update e f
 rw[hf] at q
 refine I.write (x:=l) (e:=l) (by rw[hH]; exact trivial) (.inl rfl) (fun b' u hb hu=>(Heap.get?_update_other s.heap (Obj.mapSeq f) (Ne.symm hb)).trans hu) ⟨_,q⟩ ?_
 exact⟨hz,its',_,hv,q⟩
theorem Inv.lstM (I:Inv X pins σ H s) (hH:H l=some (.lst xs)):xs.length<=sizeLine/\∃ (its:List Value) (n:Nat),Vals xs its/\xs.length=its.length/\s.heap.get? l=some { cls:=.type "list",data:=.seq its.toArray n }:=by
 obtain⟨z,its,n,r,e⟩:=I.hok l _ hH
 exact⟨z,its,n,r,r.length,e⟩
theorem lA {n:Nat} (h:n<=sizeLine):Builtin.List.listTooLong n=false:=by
 unfold Builtin.List.listTooLong
 exact decide_eq_false (by omega)
end
section
variable {X:Cx}
noncomputable def mM:V->List V->Hp->VK->Prop:=fun x vs H Q=>∃ l xs y,x=.ref l/\vs=[y]/\H l=some (.lst xs)/\xs.length<sizeLine/\Q .non (upd H l (.lst (xs++[y])))
theorem aV:MtM X "list.append" mM:=by
 intro pins s σ H x vs v us Q I rx rv h
 obtain⟨l,xs,y,rfl,rfl,hH,hz,q⟩:=h
 cases rx
 obtain⟨u,rfl,ru⟩:=rv.one
 obtain⟨z,its,n,r,hl,e⟩:=I.lstM hH
 refine call_meets F.slot_list_append ⟨_,e,U⟩ F.entry_list_append (F.args_list_append_2 _ _) (PySem.list_append l its.toArray n u (by rw[sI]; omega)) ⟨e,?_⟩
 refine⟨.non,_,I.lset (its':=its++[u]) hH e (by simp) (r.append (.cons ru .nil)) ?_,U,q⟩
 rw[sA,sK]
 omega
noncomputable def mL:V->List V->Hp->VK->Prop:=fun x vs H Q=>∃ l b xs zs,x=.ref l/\vs=[.ref b]/\H l=some (.lst xs)/\H b=some (.lst zs)/\xs.length+zs.length<=sizeLine/\Q .non (upd H l (.lst (xs++zs)))
theorem jT:MtM X "list.extend" mL:=by
 intro pins s σ H x vs v us Q I rx rv h
 obtain⟨l,b,xs,zs,rfl,rfl,hH,hB,hz,q⟩:=h
 cases rx
 obtain⟨u,rfl,ru⟩:=rv.one
 cases ru
 obtain⟨z,its,n,r,hl,e⟩:=I.lstM hH
 obtain⟨z2,its2,n2,r2,hl2,e2⟩:=I.lstM hB
 have hsz:its.toArray.size+its2.toArray.size<=sizeLine:=by rw[sI,sI]; omega
 have hlong:¬ (!its.toArray.isEmpty && Builtin.List.listTooLong (its.toArray.size+its2.toArray.size))=true:=by
  rw[lA hsz,Bool.and_false]
  exact Bool.false_ne_true
 refine call_meets F.slot_list_extend ⟨_,e,U⟩ F.entry_list_extend (F.args_list_extend_2 _ _)
  (AutoSeq1.list_extend_list_list_0 l its.toArray n b its2.toArray n2 hlong (by rw[sI]; omega) (by omega)) ⟨e,e2,?_⟩
 refine⟨.non,_,I.lset (its':=its++its2) hH e (by simp) (r.append r2) ?_,U,q⟩
 rw[sA]
 omega
end
end L2
namespace Att
open PySem PySem.W PySem.Calls PyProof.Rows
theorem dZ {P:Params}{h:Heap}:∀ (ns:List Int) (vs:List Value),WellAll P h vs (ns.map WData.int)->IntsAre vs ns:=by
 intro ns
 induction ns with
 | nil=>
  intro vs w
  rw[List.map_nil] at w
  cases w
  exact .nil
 | cons n ns ih=>
  intro vs w
  rw[sH] at w
  cases w with
  | cons a b=>
   cases a
   exact .cons _ _ (ih _ b)
theorem jL {l : OpenLaw}{n : Nat} (hn : l.most=some n) {P : Params}{h : Heap}{args : List WData}{vals : List Value}
    (hpre : l.row.toRowW.claim.pre args=true) (hwl : WellAll P h vals args) :
    ∃ a vs ns, vals=[Value.ref a]/\args=[WData.list (ns.map WData.int)]/\h.get? a=some { cls := .type "list", data := .seq vs.toArray }/\IntsAre vs ns/\ns.length<=n := by
  have hsh : WShape.hasAll [] args [.list .int]=true := (pre_splitW hpre).1
  have hc : l.pre.holds [] { args := args }=true := (pre_splitW hpre).2
  obtain⟨d, r, rfl, h1, h2⟩ := hasAllW_cons hsh
  obtain rfl := hasAllW_nil h2
  obtain⟨xs, rfl, h3⟩ := hasW_list h1
  obtain⟨ns, rfl⟩ := items_int h3
  have hlen : ns.length<=n := by
    unfold OpenLaw.pre at hc
    have h4 : (WTm.not (.lt (.lit (.int (n : Int))) (.len (.arg 0)))).holds [] { args := [.list (ns.map .int)] }=true := by
      have h4 := (holds_andW hc).1
      rw[hn] at h4
      exact h4
    have h5 := condW_of h4 (w_not (w_lt w_lit (w_len_list (w_arg rfl))))
    rw[su] at h5
    refine Nat.le_of_not_lt fun q=>?_
    have q' : (n : Int)<((ns.length : Nat) : Int) := by omega
    first
      | (rw [decide_eq_true q'] at h5; exact absurd h5 (by decide))
      | (simp at h5; omega)
  cases hwl with
  | cons w1 w2=>
    cases w2
    cases w1 with
    | list ho hall=>exact⟨_, _, ns, rfl, rfl, ho, dZ ns _ hall, hlen⟩
theorem jP (l:OpenLaw) (args:List WData):l.row.toRowW.claim.post args (.bool true) args=true :=
 postW_of (r:=l.row.toRowW) (X:=(true == true))
  (show WShape.has [] (.bool true) .bool=true by first | rfl | decide | simp[WShape.has,WShape.arms,WShape.armsAll])
  (show(WTm.eq .res (.lit (.bool true))).value [] { args:=args,res:=some (.bool true),after:=args }=some (.bool (true == true)) from w_eq_bool (w_res rfl) w_lit) rfl
theorem attach_call {l:OpenLaw}{n:Nat}{q:Program}{loose:List Str}{XP:(Str->Option Value)->Heap->Prop}{YP:World->Heap->Prop}{d:DefRec}
  (hn:l.most=some n) (hdf:d.params.defaults=[])
  (call:∀ (w:World) (s₀ s₁:Shared) (mg mb:Str->Option Value) (fa:Addr) (o:Obj) (pm cd doc:Value) (a:Addr) (vs:List Value) (ns:List Int),
   Ground q loose [] XP w s₀ mg mb s₁.heap->YP w s₁.heap ->
   s₁.heap.get? fa=some o->o.data=.func (docDef d.name d.params d.body d.scope pm cd doc)->s₁.heap.CodeRec cd d.name->mg d.name=some (.ref fa) ->
   s₁.heap.get? a=some { cls:=.type "list",data:=.seq vs.toArray }->IntsAre vs ns->ns.length<=n->s₁.gens = #[] ->
   codeAny (model l.prog w) callerA (.call (.ref fa) ⟨[.ref a],[]⟩) (fun r s'=>r=.ok (.ret (.bool true))/\OldK s₁.heap s'.heap/\s'.os=s₁.os/\AllBare s'.gens) s₁) :
  WalkO q loose XP YP l.row.toRowW d [] (fun f vs=>PySem.call f vs):=by
 intro w s₀ s₁ mg mb G Y fa o pm cd doc dV kV ho hd hcd hD hmg hg args vals as hpre hlay hrd hwl hlo
 obtain rfl:dV=.none:=Dflts.none hD hdf
 obtain rfl:kV=.none:=Dflts.noKw hD
 obtain⟨a,vs,ns,rfl,rfl,hobj,hints,hlen⟩:=jL hn hpre hwl
 refine enter_call (codeAny_mono (call w s₀ s₁ mg mb fa o pm cd doc a vs ns G Y ho (fd_plain hd) hcd hmg hobj hints hlen hg) fun r s' hq=>?_)
 obtain⟨rfl,h2,h3,h4⟩:=hq
 exact⟨.inl ⟨.bool true,.bool true,[],rfl,fun _=>rfl,.bool true,jP l _,fun _=>⟨List.Pairwise.nil,fun _ hm=>(nomatch hm)⟩⟩,h2,h3,h4⟩
section
variable {prog:Program}{w:World}{A:Around}{E:Value->Shared->Prop}{s:Shared}{K:Frag}
noncomputable def ledger (h:Heap) (L d:Addr):List (Addr×Obj):=(List.range h.objs.size).filterMap fun a=>if a=L∨a=d then none else(h.get? a).map fun o=>(a,o)
end
end Att
namespace L2
open PySem PySem.Spec PyProof.Rows
theorem fW:∀ {vs:List Value}{ns:List Int},IntsAre vs ns->Vals (ns.map V.int) vs
 | _,_,.nil=>.nil
 | _,_,.cons n t h=>.cons ⟨t,U⟩ (fW h)
noncomputable def nH (H:Hp):Prop:=∀ b,H b=none∨∃ o xs,H b=some (.frz o (.lst xs))
theorem lH {P:Program}{w:World}{K:PySem.W.Frag}{mg mb:Str->Option Value}{CX:CXT}{k:Nat}{fa a:Addr}{fd:FuncData}{x:Str}{sp:Sp}{s₁:Shared}{vs:List Value}{ns:List Int}
  (KX:K.In s₁.heap) (hns:s₁.heap.Ns mainGlobals mg) (hb:s₁.heap.Ns builtinsNs mb) (hbb:∀ x:Str,x ≠ "__name__" -> mb x=bootBuiltins x) (hlim:s₁.heap.NoLimit) (hg:s₁.gens = #[])
  (ha:s₁.heap.get? a=some { cls:=.type "list",data:=.seq vs.toArray }) (hi:IntsAre vs ns) (hl:ns.length<=sizeLine) (hr:Room k callerA)
  (F:∀ base:Heap,K.In base->base.Ns mainGlobals mg->FnOk P w K mg base CX k fa fd [x] sp) (hbind:∀ (s:Shared) (u:Value),BindsTo s fd ⟨[u],[]⟩ [(x,u)])
  (hsp:∀ H:Hp,nH H->SqL K H a (ns.map V.int)->sp [.ref a] H (fun v _=>v=.bl true) fun _ _ _=>False)
  (hCX:∀ H e s',CX [] H s₁ (fun _ _ _=>False) e s'->False) :
  codeAny (model P w) callerA (.call (.ref fa) ⟨[.ref a],[]⟩) (fun r s'=>r=.ok (.ret (.bool true))/\OldK s₁.heap s'.heap/\s'.os=s₁.os/\AllBare s'.gens) s₁:=by
 have rv:=fW hi
 have lenV:=hi.length
 have core:∀ H:Hp,nH H->SqL K H a (ns.map V.int)->HOk P w H s₁.heap->(∀ b,H b≠none->b=a)->(H a≠none->K.lookup a=none) ->
   codeAny (model P w) callerA (.call (.ref fa) ⟨[.ref a],[]⟩) (fun r s'=>r=.ok (.ret (.bool true))/\OldK s₁.heap s'.heap/\s'.os=s₁.os/\AllBare s'.gens) s₁:=by
  intro H hO hS hok hA hK
  have base_of:∀ {b:Addr}{o:Obj},s₁.heap.get? b=some o->H b=none->(gZ s₁.heap H).get? b=some o:=fun e n=>lI e n
  have noA:∀ {b:Addr}{o:Obj}{es:Array DictEntry}{ep:Nat},s₁.heap.get? b=some o->o.data=.dict es ep->H b=none:=fun {b o es ep} e d=>by
   cases q:H b with
   | none=>rfl
   | some u=>
    have e':b=a:=hA b (by rw[q]; simp)
    subst e'
    rw[ha] at e; cases e
    have d':Data.seq vs.toArray _=Data.dict es ep:=d
    cases d'
  have nsK:∀ {b:Addr}{m:Str->Option Value},s₁.heap.Ns b m->(gZ s₁.heap H).Ns b m:=fun {b m} ⟨o,es,ep,e,d,r⟩=>⟨o,es,ep,base_of e (noA e d),d,r⟩
  have hKb:K.In (gZ s₁.heap H):=fun b o e=>base_of (KX b o e) (by
   cases q:H b with
   | none=>rfl
   | some u=>
    have e':b=a:=hA b (by rw[q]; simp)
    subst e'
    rw[hK (by rw[q]; simp)] at e; cases e)
  have hM:Mod K mg (gZ s₁.heap H):=⟨hKb,nsK hns,⟨mb,nsK hb,hbb⟩,let ⟨mc,h1,h2⟩:=hlim; ⟨mc,nsK h1,h2⟩⟩
  have e0:Env0 P w K mg (gZ s₁.heap H) callerA [] s₁ H:=⟨U,hM,fun b o e=>mU e,Nat.le_of_eq (j7 _ _),trivial,fun b hb=>absurd (show b ∈ ([]:List Addr) from hb) (by simp),hok,.of_eq hg⟩
  refine codeAny_mono ((F _ hKb (nsK hns)).run callerA [] s₁ H ⟨[.ref a],[]⟩ [.ref a] [.ref a] _ _ hr e0 (hbind s₁ (.ref a)) (.cons rfl .nil) (hsp H hO hS)) fun r s' h=>?_
  cases r with
  | error e=>exact(hCX H e s' h).elim
  | ok fl=>
   cases fl with
   | next=>exact False.elim h
   | brk=>exact False.elim h
   | cont=>exact False.elim h
   | ret u=>
    obtain⟨v,H',os,bare,un,hok',r',q⟩:=h
    have q':v=.bl true:=q
    subst q'
    obtain rfl:u=Value.bool true:=r'
    refine⟨U,OldK.of_keep fun b o e=>?_,os,bare⟩
    cases q:H b with
    | none=>exact un.keep b o e q (by intro z; exact absurd (show b ∈ ([]:List Addr) from z) (by simp)) (by simp)
    | some u=>
     rcases hO b with z | ⟨ob,xs,z⟩
     ·rw[q] at z; cases z
     ·have z2:=un.frzs b ob _ z
      obtain⟨e1,_⟩:=hok b _ z
      obtain⟨e2,_⟩:=hok' b _ z2
      rw[e] at e1; cases e1
      exact e2
 cases hk:K.lookup a with
 | some o=>
  have e:=KX a o hk
  rw[ha] at e
  cases e
  refine core (fun _=>none) (fun _=>.inl rfl) (.inr ⟨_,vs.toArray,_,hk,U,U,U,by rw[sI,lenV]; exact hl,by simpa using rv⟩) (fun b u z=>by have z':(none:Option HO)=some u:=z; cases z') (fun b z=>absurd rfl z) fun z=>absurd rfl z
 | none=>
  refine core (fun b=>if b=a then some (.frz { cls:=.type "list",data:=.seq vs.toArray } (.lst (ns.map V.int))) else none) (fun b=>?_) (.inl (.inr ⟨{ cls:=.type "list",data:=.seq vs.toArray },if_pos rfl⟩)) (fun b u z=>?_) (fun b z=>?_) fun _=>hk
  ·by_cases hb:b=a
   ·exact .inr ⟨_,_,if_pos hb⟩
   ·exact .inl (if_neg hb)
  ·by_cases hb:b=a
   ·have z':=(if_pos hb).symm.trans z
    cases z'
    subst hb
    exact⟨ha,by rw[su]; exact hl,vs,_,rv,ha⟩
   ·have z':=(if_neg hb).symm.trans z
    cases z'
  ·by_cases hb:b=a
   ·exact hb
   ·exact absurd (if_neg hb) z
noncomputable abbrev KOf {K:PySem.W.Frag}{h:Heap} (_:K.In h):PySem.W.Frag:=K
variable{XP:(Str->Option Value)->Heap->Prop}
theorem mn {l:PySem.W.OpenLaw}{n k:Nat}{q:Program}{loose:List Str}{YP:World->Heap->Prop}{d:DefRec}{K:Params->PySem.W.Frag}{CX:World->CXT}{sp:World->Sp}{x:Str}
  (hn:l.most=some n) (hn2:n<=sizeLine) (hdf:d.params.defaults=[]) (hr:Room k callerA)
  (hY:∀ (w:World) (h:Heap),YP w h->(K w.params).In h)
  (F:∀ (w:World) (mg:Str->Option Value) (fa:Addr) (h:Heap),(K w.params).In h->h.Ns mainGlobals mg->mg d.name=some (.ref fa) ->
   ∃ fd:FuncData,(∀ (s:Shared) (u:Value),BindsTo s fd ⟨[u],[]⟩ [(x,u)]) /\
    ∀ base:Heap,(K w.params).In base->base.Ns mainGlobals mg->FnOk l.prog w (K w.params) mg base (CX w) k fa fd [x] (sp w))
  (hsp:∀ (w:World) (H:Hp) (a:Addr) (ns:List Int),ns.length<=n->nH H->SqL (K w.params) H a (ns.map V.int)->sp w [.ref a] H (fun v _=>v=.bl true) fun _ _ _=>False)
  (hCX:∀ (w:World) (H:Hp) (s:Shared) (e:Value) (s':Shared),CX w [] H s (fun _ _ _=>False) e s'->False) :
  PySem.W.WalkO q loose XP YP l.row.toRowW d [] (fun f vs=>PySem.call f vs):=by
 refine Att.attach_call hn hdf fun w s₀ s₁ mg mb fa o pm cd doc a vs ns G Y ho hd hcd hmg hobj hints hlen hg=>?_
 have KX:=hY w _ Y
 obtain⟨fd,hb,hF⟩:=F w mg fa _ KX G.T.g hmg
 exact lH KX G.T.g G.T.b G.T.builtins G.T.nolimit hg hobj hints (Nat.le_trans hlen hn2) hr hF hb (fun H hO hS=>hsp w H a ns hlen hO hS) fun H e s'=>hCX w H s₁ e s'
theorem walk_ofK {l:PySem.W.OpenLaw}{n k:Nat}{q:Program}{loose:List Str}{YP:World->Heap->Prop}{d:DefRec}{K:Params->PySem.W.Frag}{CX:CXT}{sp:PySem.W.Frag->Sp}{x:Str}
  (hn:l.most=some n) (hn2:n<=sizeLine) (hdf:d.params.defaults=[]) (hr:Room k callerA)
  (hY:∀ (w:World) (h:Heap),YP w h->(K w.params).In h)
  (F:∀ (w:World) (mg:Str->Option Value) (fa:Addr) (h:Heap),(K w.params).In h->h.Ns mainGlobals mg->mg d.name=some (.ref fa) ->
   ∃ fd:FuncData,(∀ (s:Shared) (u:Value),BindsTo s fd ⟨[u],[]⟩ [(x,u)]) /\
    ∀ base:Heap,(K w.params).In base->base.Ns mainGlobals mg->FnOk l.prog w (K w.params) mg base CX k fa fd [x] (sp (K w.params)))
  (hsp:∀ (K:PySem.W.Frag) (H:Hp) (a:Addr) (ns:List Int),ns.length<=n->nH H->SqL K H a (ns.map V.int)->sp K [.ref a] H (fun v _=>v=.bl true) fun _ _ _=>False)
  (hCX:∀ (H:Hp) (s:Shared) (e:Value) (s':Shared),CX [] H s (fun _ _ _=>False) e s'->False) :
  PySem.W.WalkO q loose XP YP l.row.toRowW d [] (fun f vs=>PySem.call f vs) :=
 mn (K:=K) (CX:=fun _=>CX) (sp:=fun w=>sp (K w.params)) hn hn2 hdf hr hY F (fun w H a ns h1 h2 h3=>hsp (K w.params) H a ns h1 h2 h3) fun _ H s e s'=>hCX H s e s'
noncomputable def aK (s:Stmt) (j:Nat):Stmt:=match s with
 | .ClassDef _ _ _ body _ _ _ _ _ _ _=>body.getD j (.Pass ⟨0,0,0,0⟩)
 | _=>.Pass ⟨0,0,0,0⟩
noncomputable def bH (s:Stmt):Arguments:=match s with
 | .FunctionDef _ a _ _ _ _ _ _ _ _=>a
 | _=>{ posonlyargs:=[],args:=[],vararg:=none,kwonlyargs:=[],kw_defaults:=[],kwarg:=none,defaults:=[] }
noncomputable def bC (s:Stmt):List Stmt:=match s with
 | .FunctionDef _ _ b _ _ _ _ _ _ _=>b
 | _=>[]
noncomputable def aj (s:Stmt):Scope:=match s with
 | .FunctionDef _ _ _ _ _ _ sc _ _ _=>sc
 | _=>{ kind:=.function,names:=[],isGenerator:=false,isCoroutine:=false }
noncomputable abbrev CX0:CXT:=fun _ _ _ _ _ _=>False
noncomputable abbrev E0:XK:=fun _ _ _=>False
theorem az {X:Cx}:bW CX0 X E0:=fun _ _ _ _ _ _ _ h=>h.elim
theorem pcl {X:Cx}{k n:Nat}{f:Addr}{fd:FuncData}{ps:List Str}{sp:Sp}{x:Str}{p pos:Pos}{e:Expr}{es:List Expr}{t:TA} (F:FnOk X.prog X.w X.K X.mg X.base CX0 k f fd ps sp) (hr:Room n X.A) (hm:X.mg x=some (.ref f)) (hk:PySem.W.keepIn X.K (.ref f)=true) (hb:Binds X.K fd ps []) (ha:PA X (e::es) t) (hg:Gl X x:=by rfl) (hj:k<=n:=by decide) (hdb:(x==("__debug__":Str))=false:=by decide) (he:starEach (e::es) X.env=(false,eval e X.env)::starEach es X.env:=by rfl) (hpl:(backTo pos (starEach es X.env)).any (·.1)=false:=by rfl):PE X (.Call (.Name x p) (e::es) [] pos) (nQ sp [] E0 t):=mP F (hr.mono hj) hg hm hk hb .nil az ha hdb he hpl
structure Fun (K:PySem.W.Frag) (x qual:Str) (st:Stmt) (f:Addr) (fd:FuncData):Prop where
 ex:∃ (oc:Value) (od:Option Addr) (kV doc pm:Value) (an:Option Addr) (cdv ct:Value) (osl:Array (Option Value)),
  fd=W.fnOf x qual (bH st) (bC st) (aj st) .none kV doc pm an cdv ct/\K.lookup f=some ⟨oc,od,.func fd,osl⟩/\W.codeIn K cdv qual=true
 kp:W.keepIn K (.ref f)=true
theorem cD {A:Around}{k:Nat} (hr:Room k A):A.units+1<cLine:=Nat.lt_of_le_of_lt (Nat.add_le_add_left (by decide:1<=64) _) hr.units
section
variable {X:Cx}
theorem pv (i:Nat) {x:Str}{pos:Pos} (hN:X.N[i]?=some x:=by rfl) (hv:Vis X.env.scope x:=by first | exact Or.inl rfl | exact Or.inr (Or.inl rfl) | exact Or.inr (Or.inr rfl)) (hd:(x == ("__debug__" : Str))=false:=by decide)
  (hcd:(x == ("__classdict__" : Str))=false:=by decide):PE X (.Name x pos) (mC i):=pN hN hv hd hcd
end
theorem dq {A B:Prop} (h:B):if false=true then A else B:=by
 rw[if_neg Bool.false_ne_true]
 exact h
theorem fE {A B:Prop} (h:A):if true=true then A else B:=by
 rw[if_pos rfl]
 exact h
theorem iD {c A B:Prop} [Decidable c] (h1:c->A) (h2:¬ c->B):if c then A else B:=by
 by_cases h:c
 ·rw[if_pos h]
  exact h1 h
 ·rw[if_neg h]
  exact h2 h
noncomputable def Same (H H':Hp):Prop:=∀ b o,H b=some o->H' b=some o
theorem Same.trans {H H1 H2:Hp} (a:Same H H1) (b:Same H1 H2):Same H H2:=fun c o h=>b c o (a c o h)
theorem Same.seq {K:PySem.W.Frag}{H H':Hp}{a:Addr}{xs:List V} (e:Same H H') (h:SqL K H a xs):SqL K H' a xs:=by
 rcases h with (h | ⟨o,h⟩) | h
 ·exact .inl (.inl (e _ _ h))
 ·exact .inl (.inr ⟨o,e _ _ h⟩)
 ·exact .inr h
noncomputable abbrev Kn:=List (Addr×HO)
structure Has (H:Hp) (L:Kn):Prop where
 nd:(L.map (·.1)).Nodup
 at_:∀ x ∈ L,H x.1=some x.2
namespace Has
variable {H H':Hp}{L L' X Y R:Kn}{a p:Addr}{o o':HO}{x y:Addr×HO}
theorem nil:Has H []:=⟨List.nodup_nil,fun _ h=>nomatch h⟩
theorem get (h:Has H L) (i:Nat) (e:L[i]?=some (a,o)):H a=some o:=h.at_ (a,o) (si e)
theorem alloc (h:Has H L) (hp:H p=none) (o:HO):Has (upd H p o) ((p,o)::L):=by
 have ne:∀ x ∈ L,x.1≠p:=fun x hx e=>by
  have:=h.at_ x hx
  rw[e,hp] at this; cases this
 refine⟨?_,fun x hx=>?_⟩
 ·rw[sH,List.nodup_cons]
  refine⟨fun m=>?_,h.nd⟩
  obtain⟨x,hx,e⟩:=sQ.mp m
  exact ne x hx e
 ·rcases sD.mp hx with rfl | hx
  ·exact bx
  ·rw[aA (ne x hx)]; exact h.at_ x hx
theorem sub (h:Has H L) (s:L'.Sublist L):Has H L':=⟨h.nd.sublist (s.map _),fun x hx=>h.at_ x (s.subset hx)⟩
theorem perm (h:Has H L) (s:L.Perm L'):Has H L':=⟨(s.map _).nodup_iff.mp h.nd,fun x hx=>h.at_ x (s.mem_iff.mpr hx)⟩
theorem tail (h:Has H (x::L)):Has H L:=h.sub (List.sublist_cons_self _ _)
theorem swap2 (h:Has H (x::y::L)):Has H (y::x::L):=h.perm (List.Perm.swap _ _ _)
theorem comm (h:Has H (X++(Y++R))):Has H (Y++(X++R)):=h.perm (by rw[<- sr,<- sr]; exact List.perm_append_comm.append_right R)
theorem dP:∀ (L:Kn) (i:Nat),L[i]?=some (a,o)->(L.set i (a,o')).map (·.1)=L.map (·.1)
 | [],i,e=>by simp at e
 | x::L,0,e=>by simp at e; subst e; rfl
 | x::L,i+1,e=>by
  simp only[List.set_cons_succ,sH]
  rw[dP L i (by simpa using e)]
theorem puti (h:Has H L) (i:Nat) (e:L[i]?=some (a,o)) (o':HO):Has (upd H a o') (L.set i (a,o')):=by
 have hi:i<L.length:=(List.getElem?_eq_some_iff.mp e).1
 refine⟨by rw[dP (o':=o') L i e]; exact h.nd,fun x hx=>?_⟩
 obtain⟨j,hj⟩:=List.getElem?_of_mem hx
 by_cases hij:j=i
 ·subst hij
  rw[List.getElem?_set_self hi] at hj
  cases hj
  exact bx
 ·rw[List.getElem?_set_ne (Ne.symm hij)] at hj
  have hx':x ∈ L:=si hj
  have:x.1≠a:=fun z=>by
   have e1:(L.map (·.1))[i]?=some a:=by rw[sx,e]; rfl
   have e2:(L.map (·.1))[j]?=some a:=by rw[sx,hj,<- z]; rfl
   obtain⟨l1,q1⟩:=List.getElem?_eq_some_iff.mp e1
   obtain⟨l2,q2⟩:=List.getElem?_eq_some_iff.mp e2
   exact hij ((List.getElem_inj h.nd).mp (q2.trans q1.symm))
  rw[aA this]
  exact h.at_ x hx'
end Has
section
variable {X:Cx}
theorem fQ:dG X (.builtin "isinstance") (fun xs H Q=>∃ x T t b,xs=[x,.ty T]/\TyOf X.K H x t/\PySem.W.kitOne X.K t (.type T)=some b/\Q (.bl b) H):=by
 intro pins s σ H xs us Q I r h
 obtain⟨x,T,t,b,rfl,ty,e,q⟩:=h
 obtain⟨u1,u2,rfl,r1,r2⟩:=kC r
 cases (show u2=Value.type T from r2)
 exact j0 I r1 ty e fun tk=>⟨.bl b,H,I.tok _,U,q⟩
end
theorem SqL.alloc {K:PySem.W.Frag}{H:Hp}{a p:Addr}{xs:List V}{o:HO} (h:SqL K H a xs) (hp:H p=none):SqL K (upd H p o) a xs :=
 Same.seq (fun b u e=>by rw[aA (a9 e hp)]; exact e) h
theorem dy (xs:List V) (n:Int) (h0:0<=n):bV xs none (some n)=xs.take n.toNat:=by
 show((xs.drop 0).take ((if n<0 then(n+(xs.length:Int)).toNat else min n.toNat xs.length) - 0))=_
 rw[if_neg (by omega),List.drop_zero,Nat.sub_zero]
 by_cases hl:n.toNat<=xs.length
 ·rw[Nat.min_eq_left hl]
 ·rw[Nat.min_eq_right (by omega),List.take_of_length_le (Nat.le_refl _),List.take_of_length_le (by omega)]
theorem sizeOk {n:Nat} (h:n<=1000000):n<sizeLine:=Nat.lt_of_le_of_lt h (by decide)
end L2
namespace L2
theorem ifF {b:Bool}{A B:Prop} (e:b=false) (h:B):if b=true then A else B:=by subst e; exact dq h
theorem ifT {b:Bool}{A B:Prop} (e:b=true) (h:A):if b=true then A else B:=by subst e; exact fE h
theorem if2 {b:Bool}{A B:Prop} (h1:b=true->A) (h2:b=false->B):if b=true then A else B:=by
 cases b
 ·exact dq (h2 rfl)
 ·exact fE (h1 rfl)
theorem ifd {c:Prop} [Decidable c] {A B:Prop} (h1:c->A) (h2:¬ c->B):if decide c=true then A else B:=by
 by_cases h:c
 ·exact ifT (decide_eq_true h) (h1 h)
 ·exact ifF (decide_eq_false h) (h2 h)
theorem rL {c:Prop} [Decidable c] {A B:Prop} (h1:¬ c->A) (h2:c->B):if (!decide c)=true then A else B:=by
 by_cases h:c
 ·exact ifF (by simp[h]) (h2 h)
 ·exact ifT (by simp[h]) (h1 h)
end L2
namespace L2
open PySem PySem.Spec PyProof.Rows
noncomputable def cH (cells : List (Str×Addr)) : List (Str×NameKind)->List (Str×Addr)->List (Str×Addr)
  | [], acc=>acc
  | (n, k) :: r, acc => if k == .free then cH cells r ((n, (cells.lookup n).getD 0) :: acc) else cH cells r acc
theorem fN (scope : Scope) (env : Env) (h : ∀ y ∈ scope.names, y.2=.free->∃ c, env.cells.lookup y.1=some c) : closureFor scope env=pure (cH env.cells scope.names []) := by
  unfold closureFor
  have all : ∀ (l : List (Str×NameKind)) (acc : List (Str×Addr)), (∀ y ∈ l, y.2=.free->∃ c, env.cells.lookup y.1=some c) ->
      (forIn l acc fun x r=>match x with
        | (name, kind) => if (kind == .free) = true then do let a <- cellOf env name; pure (ForInStep.yield ((name, a) :: r)) else pure (ForInStep.yield r)) = (pure (cH env.cells l acc) : Sem _) := by
    intro l
    induction l with
    | nil=>intro acc _; rfl
    | cons y l ih=>
      obtain⟨n, k⟩ := y
      intro acc hl
      rw[List.forIn_cons]
      by_cases hk : (k == NameKind.free)=true
      · obtain⟨c, hc⟩ := hl (n, k) sg (by simpa using hk)
        have e : cellOf env n=pure c := by unfold cellOf; rw[hc]
        simp only[hk, if_true, e, pure_bind, cH, hc, Option.getD_some]
        exact ih _ fun y hy=>hl y (r9 _ hy)
      · simp only[hk, if_false, pure_bind, cH]
        exact ih _ fun y hy=>hl y (r9 _ hy)
  have := all scope.names [] h
  simp only[this, pure_bind]
theorem dA {cells : List (Str×Addr)}{x : Str}{c : Addr} : ∀ (l : List (Str×NameKind)) (acc : List (Str×Addr)), (∀ y ∈ l, y.2=.free->∃ c, cells.lookup y.1=some c) ->
    (∀ y d, acc.lookup y=some d->cells.lookup y=some d)->(cH cells l acc).lookup x=some c->cells.lookup x=some c
  | [], acc, _, ha, h=>ha x c h
  | (n, k) :: r, acc, hl, ha, h => by
    unfold cH at h
    split at h
    · rename_i hk
      obtain⟨d, hd⟩ := hl (n, k) sg (by simpa using hk)
      refine dA r _ (fun y hy=>hl y (r9 _ hy)) (fun y e he=>?_) h
      rw[sP] at he
      split at he
      · rename_i hyn
        have : y=n := by simpa using hyn
        subst this
        cases he
        rw[hd]; rfl
      · exact ha y e he
    · exact dA r _ (fun y hy=>hl y (r9 _ hy)) ha h
theorem fO {cells : List (Str×Addr)}{x : Str} : ∀ (l : List (Str×NameKind)) (acc : List (Str×Addr)), (∃ c, acc.lookup x=some c)->∃ c, (cH cells l acc).lookup x=some c
  | [], acc, h=>h
  | (n, k) :: r, acc, h => by
    unfold cH
    split
    · refine fO r _ ?_
      rw[sP]
      split
      · exact⟨_, rfl⟩
      · exact h
    · exact fO r _ h
theorem b8 {cells : List (Str×Addr)}{x : Str} : ∀ (l : List (Str×NameKind)) (acc : List (Str×Addr)), (x, NameKind.free) ∈ l->∃ c, (cH cells l acc).lookup x=some c
  | [], _, h=>nomatch h
  | (n, k) :: r, acc, h => by
    unfold cH
    rcases sD.mp h with e | h
    · cases e
      rw[if_pos (by rfl)]
      exact fO r _ ⟨(cells.lookup x).getD 0, by rw[sP]; simp⟩
    · split
      · exact b8 r _ h
      · exact b8 r _ h
theorem bK {env : Env}{x : Str} : ∀ (l : List (Str×NameKind)), (∀ y ∈ l, y.2≠.cell) ->
    ((l.map fun(n, k)=>if (k == NameKind.free && env.scope.kind == .function && env.kindOf n == some .cell) then(n, NameKind.cell) else(n, k)).lookup x=some .cell ∨
     (l.map fun(n, k)=>if (k == NameKind.free && env.scope.kind == .function && env.kindOf n == some .cell) then(n, NameKind.cell) else(n, k)).lookup x=some .free)->(x, NameKind.free) ∈ l
  | [], _, h=>by simp at h
  | (n, k) :: r, hl, h => by
    have ih := bK (env := env) (x := x) r fun y hy=>hl y (r9 _ hy)
    by_cases hc : (k == NameKind.free && env.scope.kind == .function && env.kindOf n == some .cell)=true
    · have hkf : k=.free := by
        rw[Bool.and_eq_true, Bool.and_eq_true] at hc
        simpa using hc.1.1
      subst hkf
      simp only[sH, hc, if_true, sP] at h
      cases hx : x == n with
      | true=>
        have : x=n := by simpa using hx
        subst this
        exact sg
      | false=>
        simp only[hx] at h
        exact r9 _ (ih h)
    · simp only[sH, if_neg hc, sP] at h
      cases hx : x == n with
      | true=>
        have : x=n := by simpa using hx
        subst this
        simp only[hx] at h
        rcases h with h | h
        · cases h
          exact absurd rfl (hl (x, .cell) sg)
        · cases h
          exact sg
      | false=>
        simp only[hx] at h
        exact r9 _ (ih h)
noncomputable def PTs (X:Cx) (ifs:List Expr) (t:TT):Prop :=
 ∀ (pins:List (Addr×Obj)) (s:Shared) (σ:St) (H:Hp) (Q:Bool->Hp->Prop),Inv X pins σ H s->t σ H Q ->
  wpAny (model X.prog X.w) X.A (forIn ifs true fun c r=>if r=true then do let ok <- isTrue c X.env (eval c X.env); pure (ForInStep.yield ok) else pure (ForInStep.yield r)) (TP X pins σ Q) X.xe s
noncomputable def nN:TT:=fun _ H Q=>Q true H
theorem bI {X:Cx}:PTs X [] nN:=fun _ _ _ H _ I h=>wpAny_tests_nil ⟨H,I,h⟩
variable{pos:Pos}
theorem dW {prog:Program}{w:World}{A:Around}{R:Result->Shared->Prop}{s:Shared}{elt target iter:Expr}{ifs:List Expr}{scope:Scope}{it acc:Value}{env:Env} (I:Nat->Shared->Prop)
  (turn:∀ n s,I n s->wpAny (model prog w) A (pyNext it) (fun r s₁=>match r with
   | none=>R (.ok .next) s₁
   | some v=>wpAny (model prog w) A (letOwnedTupleGo target it v) (fun _ s₀=>wpAny (model prog w) A (assign target env v) (fun _ s₂=>
     wpAny (model prog w) A (forIn ifs true fun c r=>if r=true then do let ok <- isTrue c env (eval c env); pure (ForInStep.yield ok) else pure (ForInStep.yield r)) (fun ok s₃=>
      if ok=true then wpAny (model prog w) A (eval elt env) (fun x s₄=>
       wpAny (model prog w) A (call (.builtin "list.append") [acc,x]) (fun _ s₅=>∃ m,m<n/\I m s₅) (fun _ _=>False) s₄) (fun _ _=>False) s₃
      else ∃ m,m<n/\I m s₃) (fun _ _=>False) s₂) (fun _ _=>False) s₀) (fun _ _=>False) s₁) (fun _ _=>False) s)
  (n:Nat) (h:I n s) :
  codeAny (model prog w) A (.compLoop (.ListComp elt [⟨target,iter,ifs,0⟩] scope pos) 0 it acc env) R s:=by
 have no:∀ {α:Type}{t:Sem α}{Q:α->Shared->Prop}{s:Shared}{E:Value->Shared->Prop},wpAny (model prog w) A t Q (fun _ _=>False) s->wpAny (model prog w) A t Q E s:=fun h=>wpAny_mono h (fun _ _ q=>q) fun _ _ z=>False.elim z
 refine codeAny_loop rfl I (fun n s hI=>?_) n h
 show wpAny _ A ((compTurn (.ListComp elt [⟨target,iter,ifs,0⟩] scope pos) 0 it acc env).onRaise (fun x=>do noteFrame x env; theTreesLotGoes x)) _ _ s
 refine wpAny_noted ?_
 rw[compTurn_list]
 refine wpAny_bind (wpAny_standAt (wpAny_bind (wpAny_mono (no (turn n s hI)) (fun r s₁ h₁=>?_) fun _ _ h'=>h')))
 cases r with
 | none=>exact wpAny_pure h₁
 | some v=>
  refine wpAny_bind (wpAny_mono (no h₁) (fun _ s₀ h₀=>?_) fun _ _ h'=>h')
  refine wpAny_bind (wpAny_mono (no h₀) (fun _ s₂ h₂=>wpAny_bind (wpAny_mono (no h₂) (fun ok s₃ h₃=>?_) fun _ _ h'=>h')) fun _ _ h'=>h')
  cases ok with
  | false=>exact wpAny_pure ⟨U,h₃⟩
  | true=>
   exact wpAny_bind (wpAny_bind (wpAny_mono (no h₃) (fun x s₄ h₄=>wpAny_bind (wpAny_mono (no h₄) (fun _ s₅ h₅=>wpAny_pure (wpAny_pure ⟨U,h₅⟩)) fun _ _ h'=>h')) fun _ _ h'=>h'))
noncomputable abbrev blk (X:Cx) (scope:Scope) (N':List Str) (C:Addr) (s₀:Shared) (H₀:Hp) (fp:List Addr) (pins:List (Addr×Obj)):Cx :=
 { X with N:=N',s₀:=s₀,H₀:=H₀,env:=compEnvC scope (cH X.env.cells scope.names []) C X.env,outer:=X.stack,stack:=X.stack,ex:=fp,fn:=fun _=>false,pn:=X.pn++pins,xe:=fun _ _=>False }
noncomputable def tLC (wi:TI) (k:Nat) (g:TG) (tc:TT) (te:TE):TE:=fun σ H Q=>wi σ H fun J H1=>∀ D,H1 D=none->∃ W:Nat->Nat->List V->Hp->Prop,(∃ m,W 0 m [] (upd H1 D (.lst [])))/\∀ i m ys H,W i m ys H->H D=some (.lst ys) /\
 ((J.stop i H/\Q (.ref D) H)∨(J.go i H/\∀ x H',J.yld i H x H'->g x (List.replicate k none++σ) H' fun σ2 H2=>σ2.drop k=σ/\tc σ2 H2 fun b H3=>
  if b=true then te σ2 H3 fun y H4=>ys.length<sizeLine/\H4 D=some (.lst ys)/\∃ m',m'<m/\W (i+1) m' (ys++[y]) (upd H4 D (.lst (ys++[y]))) else ∃ m',m'<m/\W (i+1) m' ys H3))
section
variable {X:Cx}
theorem fZ {elt tg iter:Expr}{ifs:List Expr}{scope:Scope}{wi:TI}{k:Nat}{g:TG}{tc:TT}{te:TE} (N':List Str) (hc:X.calm=true) (hi:PI X tg iter wi)
  (hg:∀ C s₀ H₀ fp pins,PG (blk X scope N' C s₀ H₀ fp pins) tg g) (ht:∀ C s₀ H₀ fp pins,PTs (blk X scope N' C s₀ H₀ fp pins) ifs tc) (he:∀ C s₀ H₀ fp pins,PE (blk X scope N' C s₀ H₀ fp pins) elt te)
  (hk:scope.kind=.function) (hcell:∀ y ∈ scope.names,y.2≠.cell) (hnames:∀ y ∈ scope.names,y.2=.local->scope.names.lookup y.1=some .local)
  {esc:Scope} (hsc:X.env.scope=esc) (hfr':∀ y ∈ scope.names,y.2=.free->esc.names.lookup y.1=some .cell∨esc.names.lookup y.1=some .free)
  (hlen:N'.length=k+X.N.length)
  (hN:∀ (i:Nat) (x:Str),N'[i+k]?=some x->(x,NameKind.free) ∈ scope.names->X.N[i]?=some x)
  (hN2:∀ x ∈ N'.drop k,scope.names.lookup x≠some .local)
  (hs:∀ x,foldedSetIterable iter X.env x=pure x:=by intro _; rfl) :
  PE X (.ListComp elt [⟨tg,iter,ifs,0⟩] scope pos) (tLC wi k g tc te):=by
 intro pins s σ H Q I h
 have hfr:∀ y ∈ scope.names,y.2=.free->X.env.kindOf y.1=some .cell∨X.env.kindOf y.1=some .free:=fun y hy hf=>by
  show X.env.scope.names.lookup y.1=_∨X.env.scope.names.lookup y.1=_
  rw[hsc]; exact hfr' y hy hf
 have hcells:∀ y ∈ scope.names,y.2=.free->∃ c,X.env.cells.lookup y.1=some c:=fun y hy hf=>I.ok.has y.1 (hfr y hy hf)
 have hclos:=fN scope X.env hcells
 rw[eval_ListComp]
 refine wpAny_comprehension_free (use:=none) rfl hs hclos hk hnames (thn (hi pins s σ H _ I h) fun v s1 h1=>thn h1 fun itv s2 h2=>?_)
 obtain⟨it,fp,tn,J,H2,e,I2,T,st2,f2,R⟩:=h2
 subst e
 refine wpAny_newObj_type ?_
 have hD:H2 s2.heap.objs.size=none:=I2.hok.fresh (Nat.le_refl _)
 obtain⟨W,⟨m0,w0⟩,turn⟩:=R _ hD
 generalize eD:s2.heap.objs.size=D at *
 have I3:Inv X pins σ (upd H2 D (.lst [])) { s2 with heap:=s2.heap.push { cls:=.type "list",dict:=none,data:=.seq ([]:List Value).toArray } } :=
  I2.laid (a:=D) (o:=.lst []) (t':=s2.toks) (fun b u e=>Heap.get?_push_of_some _ e) (Nat.le_of_eq eD) ⟨Nat.zero_le _,[],0,.nil,by rw[<- eD]; exact Heap.get?_push_size _ rfl⟩
 generalize e3:({ s2 with heap:=s2.heap.push { cls:=.type "list",dict:=none,data:=.seq ([]:List Value).toArray } }:Shared)=s3 at *
 have st3:tn 0 s3.heap:=T.keep _ _ _ st2 fun b _ o e=>by rw[<- e3]; exact Heap.get?_push_of_some _ e
 have lt2:∀ b ∈ fp,b<s2.heap.objs.size:=fun b hb=>by
  obtain⟨o,e,_⟩:=T.obj _ _ st2 b hb
  exact Heap.lt_size e
 have neD:∀ b ∈ fp,b≠D:=fun b hb=>by
  have:=lt2 b hb
  rw[eD] at this
  exact Nat.ne_of_lt this
 have f3:∀ b ∈ fp,cI X pins (upd H2 D (.lst [])) b:=fun b hb=>⟨by rw[aA (neD b hb)]; exact(f2 b hb).1,(f2 b hb).2⟩
 generalize upd H2 D (.lst [])=H3 at *
 refine wpAny_newFunctionEnv hcell (by intro y hy; simp at hy) (fun h₁ hns₁ hsb₁=>?_) hk
 try dsimp only at hns₁ hsb₁ ⊢
 have lt3:∀ b ∈ fp,b<s3.heap.objs.size:=fun b hb=>by
  obtain⟨o,e,_⟩:=T.obj _ _ st3 b hb
  exact Heap.lt_size e
 generalize eC:s3.heap.objs.size=C at *
 have kp:∀ b o,s3.heap.get? b=some o->h₁.get? b=some o:=fun b o e=>(hsb₁.2 b (by rw[<- eC]; exact Nat.ne_of_lt (Heap.lt_size e))).trans (Heap.get?_push_of_some _ e)
 have subC:∀ x c,(cH X.env.cells scope.names []).lookup x=some c->X.env.cells.lookup x=some c:=fun x c e=>dA scope.names [] hcells (fun y d z=>by simp at z) e
 have hCnone:H3 C=none:=I3.hok.fresh (Nat.le_of_eq eC)
 have ok':(blk X scope N' C s3 H3 fp pins).Ok:={
  mod:=I3.ok.mod
  kind:=hk
  glob:=I3.ok.glob
  blt:=I3.ok.blt
  above:=Nat.le_of_eq eC
  inj:=fun x y c a b=>I3.ok.inj x y c (subC x c a) (subC y c b)
  has:=fun x hx=>b8 scope.names [] (bK scope.names hcell hx)
  cab:=fun x c a _=>absurd a Bool.false_ne_true
  hd:=I3.ok.hd
  frames:=I3.ok.frames
  stk:=.inl rfl
  exf:=fun b hb=>⟨by have:=lt3 b hb; exact Nat.ne_of_lt this,fun x c e=>(f3 b hb).2.2.2.2.1 x c (subC x c e)⟩
  bs:=I3.bs
  bsz:=Nat.le_trans I3.ok.bsz I3.sz
  noex:=fun b o e hb=>by
   rcases (f3 b hb).2.2.2.1 with z | z
   ·exact I3.ok.noex b o e z
   ·exact absurd (Nat.lt_of_lt_of_le (Heap.lt_size e) (Nat.le_trans I3.ok.bsz z)) (Nat.lt_irrefl _)
  exfs:=fun b hb z=>by
   rcases sD.mp (I3.stkSub b z) with e | e
   ·exact(f3 b hb).2.1 e
   ·exact(f3 b hb).2.2.1 e
  funs:=I3.stack
  frf:=I3.stkFree }
 have s4os:({ s3 with heap:=h₁,toks:=s3.toks+([]:List (Str×Value)).length }:Shared).os=s3.os:=rfl
 generalize e4:({ s3 with heap:=h₁,toks:=s3.toks+([]:List (Str×Value)).length }:Shared)=s4 at *
 have h4:s4.heap=h₁:=by rw[<- e4]
 have J4:Inv (blk X scope N' C s3 H3 fp pins) [] (List.replicate k none++σ) H3 s4:=by
  refine⟨ok',s4os,by rw[<- e4]; exact I3.bare,?_,⟨_,by rw[h4]; exact hns₁,fun i x v e1 e2 e5=>?_⟩,fun x c e=>?_,hCnone,fun x c e=>I3.freeC x c (subC x c e),fun p hp=>?_,?_,?_⟩
  ·rw[h4]; exact Un.kept kp
  ·have hik:¬ i<k:=fun hlt=>by
    rw[sO (by rw[sJ]; exact hlt),List.getElem?_replicate] at e2
    split at e2 <;> cases e2
   obtain⟨j,rfl⟩:∃ j,i=j+k:=⟨i - k,by omega⟩
   have e2':σ[j]?=some (some v):=by
    rw[sM (by rw[sJ]; omega),sJ] at e2
    have:j+k - k=j:=by omega
    rw[this] at e2; exact e2
   have nl:(relabel scope X.env).names.lookup x≠some .local:=fun z=>by
    have q:∀ (l:List (Str×NameKind)),(l.map fun(n,k)=>if (k == NameKind.free && X.env.scope.kind == .function && X.env.kindOf n == some .cell) then(n,NameKind.cell) else(n,k)).lookup x=some .local->l.lookup x=some .local:=by
     intro l
     induction l with
     | nil=>intro z; simp at z
     | cons y l ih=>
      obtain⟨n,kk⟩:=y
      intro z
      by_cases hcc:(kk == NameKind.free && X.env.scope.kind == .function && X.env.kindOf n == some .cell)=true
      ·simp only[sH,if_pos hcc,sP] at z ⊢
       cases hx:x == n with
       | true=>simp only[hx] at z; cases z
       | false=>simp only[hx] at z ⊢; exact ih z
      ·simp only[sH,if_neg hcc,sP] at z ⊢
       cases hx:x == n with
       | true=>simp only[hx] at z ⊢; exact z
       | false=>simp only[hx] at z ⊢; exact ih z
    exact hN2 x (si (i:=j) (by rw[List.getElem?_drop,Nat.add_comm]; exact e1)) (q _ z)
   have hcf:(relabel scope X.env).names.lookup x=some .cell∨(relabel scope X.env).names.lookup x=some .free:=by
    rcases e5 with z | z | z
    ·exact absurd z nl
    ·exact .inl z
    ·exact .inr z
   have hmem:(x,NameKind.free) ∈ scope.names:=bK scope.names hcell hcf
   have hx:=hN j x e1 hmem
   obtain⟨mo,_,hl⟩:=I3.loc
   have hkx:=hfr (x,.free) hmem rfl
   obtain⟨u,ru,lk⟩:=hl j x v hx e2' (by
    rcases hkx with z | z
    ·exact .inr (.inl z)
    ·exact .inr (.inr z))
   refine⟨u,ru,.inr ⟨hcf,?_⟩⟩
   rcases lk with ⟨z,_⟩ | ⟨_,c,hc1,hc2⟩
   ·rcases hkx with q | q
    ·rw[q] at z; cases z
    ·rw[q] at z; cases z
   ·obtain⟨c',hc'⟩:=b8 (cells:=X.env.cells) scope.names [] hmem
    have:=subC x c' hc'
    rw[hc1] at this; cases this
    obtain⟨oc,h5,h6⟩:=hc2
    exact⟨c,hc',oc,by rw[h4]; exact kp _ _ h5,h6⟩
  ·obtain⟨v,oc,h5,h6⟩:=I3.cell x c (subC x c e)
   exact⟨v,oc,by rw[h4]; exact kp _ _ h5,h6⟩
  ·have hp':p ∈ X.pn++pins:=by simpa using hp
   obtain⟨a1,a2,a3,a4,a5⟩:=I3.pin p hp'
   refine⟨by rw[h4]; exact kp _ _ a1,a2,?_,fun z=>?_,a5⟩
   ·have:=Heap.lt_size a1
    rw[eC] at this
    exact Nat.ne_of_lt this
   ·rcases sD.mp (I3.stkSub p.1 z) with q | q
    ·exact a3 q
    ·exact a4 q
  ·rw[h4]; exact I3.hok.kept kp
  ·rw[sA,sJ,I3.len]; exact hlen.symm
 have stat:∀ {H':Hp},(∀ b ∈ fp,H' b=none)->∀ b ∈ fp,cI (blk X scope N' C s3 H3 fp pins) [] H' b:=fun hn b hb=>
  ⟨hn b hb,(ok'.exf b hb).1,ok'.exfs b hb,.inl hb,fun x c e=>(ok'.exf b hb).2 x c e,fun p hp=>(f3 b hb).2.2.2.2.2 p (by simpa using hp)⟩
 have fr4:∀ b ∈ fp,H3 b=none:=fun b hb=>(f3 b hb).1
 have st4:tn 0 s4.heap:=T.keep _ _ _ st3 fun b _ o e=>by rw[h4]; exact kp _ _ e
 have loop:codeAny (model X.prog X.w) X.A (.compLoop (.ListComp elt [⟨tg,iter,ifs,0⟩] scope pos) 0 (.ref it) (.ref D) (compEnvC scope (cH X.env.cells scope.names []) C X.env))
   (compPost (model X.prog X.w) X.A X.xe none (EP X pins σ Q) (.ref D) C) s4:=by
  refine dW (fun n s'=>∃ i ys H',Inv (blk X scope N' C s3 H3 fp pins) [] (List.replicate k none++σ) H' s'/\tn i s'.heap/\(∀ b ∈ fp,H' b=none)/\W i n ys H') ?_ m0 ⟨0,[],H3,J4,st4,fr4,w0⟩
  rintro n s5 ⟨i,ys,H5,I5,st5,fr5,w5⟩
  obtain⟨hDl,stp⟩:=turn i n ys H5 w5
  rcases stp with ⟨stop,qn⟩ | ⟨go,step⟩
  ·refine thn (T.done (blk X scope N' C s3 H3 fp pins) rfl rfl rfl hc i [] s5 _ H5 (fun _ _=>False) I5 (stat fr5) st5 stop) fun r s6 ⟨hr,I6⟩=>?_
   subst hr
   obtain⟨m6,ns6,_⟩:=id I6.loc
   refine⟨m6,ns6,fun h' hsb=>⟨.ref D,H5,?_,U,qn⟩⟩
   have hC5:H5 C=none:=I6.free
   have un6:Un (frs X.stack) fp H3 H5 s3.heap s6.heap:=I6.base
   have neC:∀ b o,s3.heap.get? b=some o->b≠C:=fun b o e=>by
    have:=Heap.lt_size e
    rw[eC] at this
    exact Nat.ne_of_lt this
   refine I3.call' (s':={ s6 with heap:=h' }) (ch:=fp) I6.os ⟨fun b o e a1 a2 a3=>?_,fun b o e a1 a2 a3=>?_,un6.free,fun b o e a3=>?_,un6.tups,un6.frzs,un6.tbls⟩ ?_ I6.bare (fun b hb=>?_)
   ·exact(hsb.2 b (neC b o e)).trans (un6.keep b o e a1 a2 a3)
   ·obtain⟨sl,z⟩:=un6.slot b o e a1 a2 a3
    exact⟨sl,(hsb.2 b (neC b o e)).trans z⟩
   ·obtain⟨o',z⟩:=un6.there b o e a3
    exact⟨o',(hsb.2 b (neC b o e)).trans z⟩
   ·intro b u e
    refine(I6.hok b u e).stay (fun c w' hcc q=>(hsb.2 c ?_).trans q) (fun _ q=>q) fun _ _ q=>q
    rintro rfl
    rcases hcc with z | z
    ·rw[z,e] at hC5; cases hC5
    ·rw[z] at hC5; cases hC5
   ·exact⟨(f3 b hb).2.2.2.1,(f3 b hb).2.1,(f3 b hb).2.2.2.2.1,(f3 b hb).2.2.2.2.2⟩
  ·refine thn (T.item (blk X scope N' C s3 H3 fp pins) rfl rfl rfl hc i [] s5 _ H5 (fun _ _=>False) I5 (stat fr5) st5 go) fun r s6 ⟨u,hr,h6⟩=>?_
   subst hr
   refine thn h6 fun _ s7 ⟨x,H7,I7,r7,y7,st7,fr7⟩=>?_
   have I7':=I7.pinned (stat fr7) (T.obj _ _ st7)
   refine thn (hg C s3 H3 fp pins _ s7 _ H7 x u _ I7' r7 (step x H7 y7)) fun _ s8 ⟨σ8,H8,I8,d8,q8⟩=>?_
   refine thn (ht C s3 H3 fp pins _ s8 σ8 H8 _ I8 q8) fun b s9 ⟨H9,I9,q9⟩=>?_
   have kz:∀ (j:Nat) v,(List.replicate k none++σ)[j]?=some (some v)->σ8[j]?=some (some v):=fun j v e=>by
    have hik:¬ j<k:=fun hlt=>by
     rw[sO (by rw[sJ]; exact hlt),List.getElem?_replicate] at e
     split at e <;> cases e
    rw[sM (by rw[sJ]; omega),sJ,<- d8,List.getElem?_drop] at e
    have:k+(j - k)=j:=by omega
    rw[this] at e; exact e
   have again:∀ {Hz:Hp}{sz:Shared}{zs:List V}{m':Nat},Inv (blk X scope N' C s3 H3 fp pins) ([]++dL fp s7.heap) σ8 Hz sz->m'<n->W (i+1) m' zs Hz ->
     ∃ m,m<n/\∃ i ys H',Inv (blk X scope N' C s3 H3 fp pins) [] (List.replicate k none++σ) H' sz/\tn i sz.heap/\(∀ b ∈ fp,H' b=none)/\W i m ys H':=fun {Hz sz zs m'} Iz hm wz=>by
    refine⟨m',hm,i+1,zs,Hz,(Iz.unpinned).weak ?_ kz,T.keep _ _ _ st7 fun b hb o e=>(Iz.pin (b,o) (se _ (se _ (bv hb e)))).1,fun b hb=>?_,wz⟩
    ·rw[Iz.len]; exact I5.len
    ·obtain⟨o,e,d⟩:=T.obj _ _ st7 b hb
     exact(Iz.pin (b,o) (se _ (se _ (bv hb e)))).2.1
   cases b with
   | false=>
    obtain⟨m',hm,w9⟩:=(show ∃ m',m'<n/\W (i+1) m' ys H9 by simpa using q9)
    rw[if_neg Bool.false_ne_true]
    exact again I9 hm w9
   | true=>
    rw[if_pos rfl] at q9 ⊢
    refine thn (he C s3 H3 fp pins _ s9 σ8 H9 _ I9 q9) fun u9 s10 ⟨y,H10,I10,r10,hz,hD10,m',hm,w10⟩=>?_
    refine thn (aV (X:=blk X scope N' C s3 H3 fp pins) _ s10 σ8 H10 (.ref D) [y] (.ref D) [u9] (fun _ H'=>H'=upd H10 D (.lst (ys++[y]))) I10 rfl (.cons r10 .nil) ⟨D,ys,y,U,U,hD10,hz,U⟩) fun _ s11 ⟨_,H11,I11,_,e11⟩=>?_
    subst e11
    exact again I11 hm w10
 exact codeAny_compStart_list loop (T.self _ 0 _ _ _ st4 loop)
end
section
variable {X:Cx}{pins:List (Addr×Obj)}{σ:St}{H:Hp}{s:Shared}{h':Heap}
theorem Inv.turnedL {t':Nat}{fp:List Addr} (I:Inv X pins σ H s) (k:∀ b o,b ∉ fp->s.heap.get? b=some o->h'.get? b=some o) (hf:∀ b ∈ fp,cI X pins H b):Inv X pins σ H { s with heap:=h',toks:=t' }:=by
 have nit:∀ b u,H b=some u->b ∉ fp:=fun b u e z=>by rw[(hf b z).1] at e; cases e
 refine I.step (g':=s.gens) (d':=s.drawn) (ch:=fp) (fun b hb=>⟨(hf b hb).2.2.2.1,(hf b hb).2.1,(hf b hb).2.2.2.2.1,(hf b hb).2.2.2.2.2⟩) (fun b o _ _ hc e _=>k b o hc e) (fun b o _ _ hc e _=>⟨o.slots,k b o hc e⟩) (fun _ _ _ _ n=>n)
  (fun b o hc e=>⟨o,k b o hc e⟩) (fun _ _ e=>e) (fun _ _ _ e=>e) (fun b ps e=>⟨#[],by rw[e]; simp⟩) (fun m hm=>?_) (fun b u e=>?_) I.bare
 ·obtain⟨o,es,ep,ho,r⟩:=hm
  exact⟨o,es,ep,k _ o (fun z=>(hf _ z).2.1 rfl) ho,r⟩
 ·refine(I.hok b u e).stay (fun c v hc q=>k c v ?_ q) (fun _ q=>q) fun _ _ q=>q
  rcases hc with z | z
  ·rw[z]; exact nit b u e
  ·exact nit c _ z
theorem Inv.track {p:Addr}{o:HO} (I:Inv X pins σ H s) (hp:X.s₀.heap.objs.size<=p) (hL:p≠X.env.locals) (hc:∀ x c,X.env.cells.lookup x=some c->c≠p) (hpin:∀ q ∈ X.pn++pins,q.1≠p) (hn:H p=none)
  (new:ObjOk X.prog X.w (upd H p o) s.heap p o):Inv X pins σ (upd H p o) s:=by
 refine⟨I.ok,I.os,I.bare,⟨I.base.keep,I.base.slot,fun b ob e n hx=>?_,I.base.there,fun b xs e=>?_,fun b ob u e=>?_,fun b ps e=>?_⟩,I.loc,I.cell,by rw[aA (Ne.symm hL)]; exact I.free,fun x c e=>by rw[aA (hc x c e)]; exact I.freeC x c e,fun q hq=>?_,fun b u e=>?_,I.len⟩
 ·rw[aA (Nat.ne_of_lt (Nat.lt_of_lt_of_le (Heap.lt_size e) hp))]; exact I.base.free b ob e n hx
 ·have:=I.base.tups b xs e
  rw[aA (a9 this hn)]; exact this
 ·have:=I.base.frzs b ob u e
  rw[aA (a9 this hn)]; exact this
 ·obtain⟨more,e2⟩:=I.base.tbls b ps e
  exact⟨more,by rw[aA (a9 e2 hn)]; exact e2⟩
 ·obtain⟨a1,a2,a3,a4,a5⟩:=I.pin q hq
  exact⟨a1,by rw[aA (hpin q hq)]; exact a2,a3,a4,a5⟩
 ·by_cases hb:b=p
  ·subst hb; rw[bx] at e; cases e; exact new
  ·rw[aA hb] at e
   exact(I.hok b u e).stay (fun _ _ _ q=>q) (fun c q=>by rw[aA (a9 q hn)]; exact q) fun c xs q=>by rw[aA (a9 q hn)]; exact q
end
noncomputable def Itz (K:PySem.W.Frag) (a b:Addr):It :=
 ⟨fun i H=>∃ xs x ys y,SqL K H a xs/\xs[i]?=some x/\SqL K H b ys/\ys[i]?=some y,
  fun i H v H'=>∃ p x y,v=.ref p/\H p=none/\H'=upd H p (.tup [x,y])/\(∀ xs,SqL K H a xs->xs[i]?=some x)/\∀ ys,SqL K H b ys->ys[i]?=some y,
  fun i H=>∃ xs ys,SqL K H a xs/\SqL K H b ys/\(xs.length<=i∨ys.length<=i)⟩
variable{es:List Expr}
theorem kD {P:Program}{w:World}{K:PySem.W.Frag} {x1} (a b z TI TO i1 i2:Addr):Turn P w K (.Tuple es x1 pos) (Itz K a b) [z,TI,TO,i1,i2] z
  (fun i h=>IsZip h z TI TO .none/\IsPair h TI (.ref i1) (.ref i2)/\(∃ u v,IsPair h TO u v)/\h.IsListIter i1 a i/\h.IsListIter i2 b i/\TI≠TO/\i1≠i2) where
 mem:=by simp
 obj:=fun i h ⟨hz,hTI,⟨u,v,hTO⟩,h1,h2,_⟩ c hc=>by
  simp only[sD,sN,or_false] at hc
  rcases hc with rfl | rfl | rfl | rfl | rfl
  ·exact⟨_,hz,fun v q=>by cases (show Data.fields _=Data.cell v from q)⟩
  ·exact⟨_,hTI,fun v q=>by cases (show Data.seq _ _=Data.cell v from q)⟩
  ·exact⟨_,hTO,fun v q=>by cases (show Data.seq _ _=Data.cell v from q)⟩
  ·obtain⟨o,e,_,d⟩:=h1
   exact⟨o,e,fun v q=>by rw[d] at q; cases q⟩
  ·obtain⟨o,e,_,d⟩:=h2
   exact⟨o,e,fun v q=>by rw[d] at q; cases q⟩
 keep:=fun i h h' ⟨hz,hTI,⟨u,v,hTO⟩,h1,h2,n1,n2⟩ k=>⟨k z (by simp) _ hz,k TI (by simp) _ hTI,⟨u,v,k TO (by simp) _ hTO⟩,h1.at fun o e=>k i1 (by simp) o e,h2.at fun o e=>k i2 (by simp) o e,n1,n2⟩
 item:=by
  intro X hP hw hK hc i pins s σ H E I hf ⟨hz,hTI,⟨u,v,hTO⟩,h1,h2,n1,n2⟩ hg
  subst hP hw hK
  obtain⟨xs,x,ys,y,hqa,hx,hqb,hy⟩:=hg
  obtain⟨its,rv,p,hsz⟩:=I.list hqa
  obtain⟨jts,rw',p',hsz'⟩:=I.list hqb
  obtain⟨ux,hux,rux⟩:=rv.get hx
  obtain⟨uy,huy,ruy⟩:=rw'.get hy
  have D:ZipApart z TI TO i1 i2 a b:=by
   obtain⟨oa,ea,ca,_,_⟩:=p.isList
   obtain⟨ob,eb,cb,_,_⟩:=p'.isList
   obtain⟨o1,e1,c1,_⟩:=h1
   obtain⟨o2,e2,c2,_⟩:=h2
   have dz:∀ {c:Addr}{o:Obj}{T:String},s.heap.get? c=some o->o.cls=.type T->T ≠ "zip" -> c≠z:=fun e q n r=>by
    rw[r,hz] at e; cases e; cases q; exact n rfl
   have dT:∀ {c d:Addr}{o q:Obj}{T U:String},s.heap.get? c=some o->o.cls=.type T->s.heap.get? d=some q->q.cls=.type U->T≠U->c≠d:=fun e1 c1 e2 c2 n r=>by
    subst r; rw[e1] at e2; cases e2; rw[c1] at c2; cases c2; exact n rfl
   exact⟨dz hTI rfl (by decide),dz hTO rfl (by decide),dz e1 c1 (by decide),dz e2 c2 (by decide),n1,dT hTI rfl e1 c1 (by decide),dT hTI rfl e2 c2 (by decide),dT hTO rfl e1 c1 (by decide),dT hTO rfl e2 c2 (by decide),n2,
    dz ea ca (by decide),dT ea ca hTO rfl (by decide),dT ea ca e1 c1 (by decide),dT ea ca e2 c2 (by decide),dz eb cb (by decide),dT eb cb hTO rfl (by decide),dT eb cb e1 c1 (by decide),dT eb cb e2 c2 (by decide)⟩
  refine wpAny_pyNext_zip_item D hz hTI hTO h1 h2 p.isList p'.isList (x:=ux) (y:=uy) (by simpa using hux) (by simpa using huy) fun h' a1 a2 a3 a4 a5 a6 hk=>?_
  refine⟨_,O,?_⟩
  refine wpAny_letOwnedTupleGo_zip (s:={ s with heap:=h' }) a1 fun h2' hz' hs'=>?_
  have lt:∀ b ∈ [z,TI,TO,i1,i2],b<s.heap.objs.size:=fun c hcm=>by
   simp only[sD,sN,or_false] at hcm
   rcases hcm with rfl | rfl | rfl | rfl | rfl
   ·exact Heap.lt_size hz
   ·exact Heap.lt_size hTI
   ·exact Heap.lt_size hTO
   ·obtain⟨o,e,_⟩:=h1; exact Heap.lt_size e
   ·obtain⟨o,e,_⟩:=h2; exact Heap.lt_size e
  have hTI2:IsPair h2' TI (.ref i1) (.ref i2):=hs'.extBut _ _ D.TIz (hk _ _ D.TIz D.TITO D.TIi1 D.TIi2 hTI)
  have hTO2:IsPair h2' TO ux uy:=hs'.extBut _ _ D.TOz a2
  have h12:h2'.IsListIter i1 a (i+1):=a3.extBut hs'.extBut D.i1z
  have h22:h2'.IsListIter i2 b (i+1):=a4.extBut hs'.extBut D.i2z
  have pz:s.heap.objs.size≠z:=Nat.ne_of_gt (Heap.lt_size hz)
  have hp2:IsPair h2' s.heap.objs.size ux uy:=hs'.extBut _ _ pz a5
  have kk:∀ c o,c ∉ [z,TI,TO,i1,i2]->s.heap.get? c=some o->h2'.get? c=some o:=fun c o hcm e=>by
   simp only[sD,sN,or_false,not_or] at hcm
   exact hs'.extBut _ _ hcm.1 (hk c o hcm.1 hcm.2.2.1 hcm.2.2.2.1 hcm.2.2.2.2 e)
  have I1:Inv X pins σ H { s with heap:=h2',toks:=s.toks }:=I.turnedL kk hf
  have fP:cI X pins H s.heap.objs.size:=I.fpOk (Nat.le_refl _) (I.hok.fresh (Nat.le_refl _))
  have I2:Inv X pins σ (upd H s.heap.objs.size (.tup [x,y])) { s with heap:=h2',toks:=s.toks }:=by
   refine I1.track I.sz (fP.2.1) fP.2.2.2.2.1 fP.2.2.2.2.2 fP.1 ?_
   exact⟨(show 2<=sizeLine by decide),[ux,uy],.cons rux (.cons ruy .nil),⟨_,hp2,O,_,O⟩⟩
  refine⟨.ref s.heap.objs.size,_,I2,O,⟨_,x,y,O,fP.1,O,fun zs hzs=>by rw[I.list_inj hzs hqa]; exact hx,fun zs hzs=>by rw[I.list_inj hzs hqb]; exact hy⟩,⟨hz',hTI2,⟨_,_,hTO2⟩,h12,h22,n1,n2⟩,fun c hcm=>?_⟩
  rw[aA (Nat.ne_of_lt (lt c hcm))]
  exact(hf c hcm).1
 done:=by
  intro X hP hw hK hc i pins s σ H E I hf ⟨hz,hTI,⟨u,v,hTO⟩,h1,h2,n1,n2⟩ hg
  subst hP hw hK
  obtain⟨xs,ys,hqa,hqb,hend⟩:=hg
  obtain⟨its,rv,p,hsz⟩:=I.list hqa
  obtain⟨jts,rw',p',hsz'⟩:=I.list hqb
  have D:ZipApart z TI TO i1 i2 a b:=by
   obtain⟨oa,ea,ca,_,_⟩:=p.isList
   obtain⟨ob,eb,cb,_,_⟩:=p'.isList
   obtain⟨o1,e1,c1,_⟩:=h1
   obtain⟨o2,e2,c2,_⟩:=h2
   have dz:∀ {c:Addr}{o:Obj}{T:String},s.heap.get? c=some o->o.cls=.type T->T ≠ "zip" -> c≠z:=fun e q n r=>by
    rw[r,hz] at e; cases e; cases q; exact n rfl
   have dT:∀ {c d:Addr}{o q:Obj}{T U:String},s.heap.get? c=some o->o.cls=.type T->s.heap.get? d=some q->q.cls=.type U->T≠U->c≠d:=fun e1 c1 e2 c2 n r=>by
    subst r; rw[e1] at e2; cases e2; rw[c1] at c2; cases c2; exact n rfl
   exact⟨dz hTI rfl (by decide),dz hTO rfl (by decide),dz e1 c1 (by decide),dz e2 c2 (by decide),n1,dT hTI rfl e1 c1 (by decide),dT hTI rfl e2 c2 (by decide),dT hTO rfl e1 c1 (by decide),dT hTO rfl e2 c2 (by decide),n2,
    dz ea ca (by decide),dT ea ca hTO rfl (by decide),dT ea ca e1 c1 (by decide),dT ea ca e2 c2 (by decide),dz eb cb (by decide),dT eb cb hTO rfl (by decide),dT eb cb e1 c1 (by decide),dT eb cb e2 c2 (by decide)⟩
  have e1:=rv.length
  have e2:=rw'.length
  refine wpAny_pyNext_zip_end (I.ok.hd hc) D hz hTI hTO h1 h2 p.isList p'.isList (k1:=i) (k2:=i) (by
   rcases hend with h | h
   ·left; simp; omega
   ·right; simp; omega) fun h' hk=>⟨O,?_⟩
  exact I.turnedL (t':=s.toks) (fun c o hcm e=>by
   simp only[sD,sN,or_false,not_or] at hcm
   exact hk c o hcm.1 hcm.2.2.1 hcm.2.2.2.1 hcm.2.2.2.2 e) hf
 self:=fun _ _ _ _ _ st h=>wpAny_pyIter_zip st.1 h
section
variable {X:Cx}
noncomputable def iZip (K:PySem.W.Frag) (ta:TA):TI:=fun σ H R=>ta σ H fun vs H1=>∃ a b,vs=[.ref a,.ref b]/\(∃ xs,SqL K H1 a xs)/\(∃ ys,SqL K H1 b ys)/\R (Itz K a b) H1
theorem iT {x1} {tpos:Pos}{e1 e2:Expr}{ta:TA}{p pos:Pos} (hg:Gl X "zip") (hm:X.mg "zip" = none) (ha:PA X [e1,e2] ta) (hs:starEach [e1,e2] X.env=[(false,eval e1 X.env),(false,eval e2 X.env)]:=by rfl) (hs2:starEach [e2] X.env=[(false,eval e2 X.env)]:=by rfl) :
  PI X (.Tuple es x1 tpos) (.Call (.Name "zip" p) [e1,e2] [] pos) (iZip X.K ta):=by
 intro pins s σ H R I h
 refine Call_ (cS I hg hm (by rfl) (PyProof.Rows.callWith_type1 (thn (ha pos pins s σ H _ I h) fun us s1 ⟨vs,H1,I1,r1,q1⟩=>?_) (by rw[hs,hs2]) (by rw[hs2]; rfl)))
 obtain⟨a,b,rfl,⟨xs,hqa⟩,⟨ys,hqb⟩,q⟩:=q1
 obtain⟨u1,u2,rfl,ru1,ru2⟩:=kC r1
 cases (show u1=Value.ref a from ru1)
 cases (show u2=Value.ref b from ru2)
 obtain⟨its,rv,pa,hsz⟩:=I1.list hqa
 obtain⟨jts,rw',pb,hsz'⟩:=I1.list hqb
 refine call_zip_2 pa.isList pb.isList fun h' hz hTI hTO h1 h2 hsize hk=>?_
 refine wpAny_pyIter_zip (s:={ s1 with heap:=h' }) hz ?_
 refine⟨_,_,_,_,H1,U,I1.kept (t':=s1.toks) hk,kD a b (s1.heap.objs.size+4) (s1.heap.objs.size+2) (s1.heap.objs.size+3) s1.heap.objs.size (s1.heap.objs.size+1),⟨hz,hTI,⟨_,_,hTO⟩,h1,h2,(fun z=>by have:s1.heap.objs.size+2=s1.heap.objs.size+3:=z; omega),(fun z=>by have:s1.heap.objs.size=s1.heap.objs.size+1:=z; omega)⟩,fun c hc=>?_,q⟩
 have hge:s1.heap.objs.size<=c:=by
  simp only[sD,sN,or_false] at hc
  rcases hc with h | h | h | h | h <;> (rw[h]; omega)
 exact I1.fpOk hge (I1.hok.fresh hge)
end
noncomputable def Ite (K:PySem.W.Frag) (a:Addr):It :=
 ⟨fun i H=>∃ xs x,SqL K H a xs/\xs[i]?=some x,
  fun i H v H'=>∃ p x,v=.ref p/\H p=none/\H'=upd H p (.tup [.int i,x])/\∀ xs,SqL K H a xs->xs[i]?=some x,
  fun i H=>∃ xs,SqL K H a xs/\xs.length<=i⟩
theorem jI {P:Program}{w:World}{K:PySem.W.Frag} {x1} (a e it:Addr):Turn P w K (.Tuple es x1 pos) (Ite K a) [e,it] e
  (fun i h=>(∃ old,IsEnum h e it i old)/\h.IsListIter it a i) where
 mem:=by simp
 obj:=fun i h ⟨⟨old,he⟩,h1⟩ c hc=>by
  simp only[sD,sN,or_false] at hc
  rcases hc with rfl | rfl
  ·exact⟨_,he,fun v q=>by cases (show Data.fields _=Data.cell v from q)⟩
  ·obtain⟨o,e,_,d⟩:=h1
   exact⟨o,e,fun v q=>by rw[d] at q; cases q⟩
 keep:=fun i h h' ⟨⟨old,he⟩,h1⟩ k=>⟨⟨old,k e (by simp) _ he⟩,h1.at fun o q=>k it (by simp) o q⟩
 item:=by
  intro X hP hw hK hc i pins s σ H E I hf ⟨⟨old,he⟩,h1⟩ hg
  subst hP hw hK
  obtain⟨xs,x,hqa,hx⟩:=hg
  obtain⟨its,rv,p,hsz⟩:=I.list hqa
  obtain⟨ux,hux,rux⟩:=rv.get hx
  have hne:e≠it:=fun z=>by
   obtain⟨o1,e1,c1,_⟩:=h1
   rw[<- z,he] at e1; cases e1
   exact absurd (show Value.type "enumerate" = Value.type "list_iterator" from c1) (by decide)
  refine wpAny_pyNext_enum_item he h1 p.isList (x:=ux) (by simpa using hux) hne fun h' a1 a3 a5 a6 hk=>?_
  refine⟨_,U,?_⟩
  refine wpAny_letOwnedTupleGo_enum (s:={ s with heap:=h',toks:=s.toks+1 }) a1 fun h2' hz' hs'=>?_
  have lt:∀ b ∈ [e,it],b<s.heap.objs.size:=fun c hcm=>by
   simp only[sD,sN,or_false] at hcm
   rcases hcm with rfl | rfl
   ·exact Heap.lt_size he
   ·obtain⟨o,q,_⟩:=h1; exact Heap.lt_size q
  have h12:h2'.IsListIter it a (i+1):=a3.extBut hs'.extBut (Ne.symm hne)
  have pz:s.heap.objs.size≠e:=Nat.ne_of_gt (Heap.lt_size he)
  have hp2:h2'.get? s.heap.objs.size=some { cls:=.type "tuple",data:=.seq #[.int i s.toks,ux] }:=hs'.extBut _ _ pz a5
  have kk:∀ c o,c ∉ [e,it]->s.heap.get? c=some o->h2'.get? c=some o:=fun c o hcm q=>by
   simp only[sD,sN,or_false,not_or] at hcm
   exact hs'.extBut _ _ hcm.1 (hk c o hcm.1 hcm.2 q)
  have I1:Inv X pins σ H { s with heap:=h2',toks:=s.toks+1 }:=I.turnedL kk hf
  have fP:cI X pins H s.heap.objs.size:=I.fpOk (Nat.le_refl _) (I.hok.fresh (Nat.le_refl _))
  have I2:Inv X pins σ (upd H s.heap.objs.size (.tup [.int i,x])) { s with heap:=h2',toks:=s.toks+1 }:=by
   refine I1.track I.sz (fP.2.1) fP.2.2.2.2.1 fP.2.2.2.2.2 fP.1 ?_
   exact⟨(show 2<=sizeLine by decide),[.int i s.toks,ux],.cons ⟨_,U⟩ (.cons rux .nil),⟨_,hp2,U,_,U⟩⟩
  refine⟨.ref s.heap.objs.size,_,I2,U,⟨_,x,U,fP.1,U,fun zs hzs=>by rw[I.list_inj hzs hqa]; exact hx⟩,⟨⟨_,hz'⟩,h12⟩,fun c hcm=>?_⟩
  rw[aA (Nat.ne_of_lt (lt c hcm))]
  exact(hf c hcm).1
 done:=by
  intro X hP hw hK hc i pins s σ H E I hf ⟨⟨old,he⟩,h1⟩ hg
  subst hP hw hK
  obtain⟨xs,hqa,hend⟩:=hg
  obtain⟨its,rv,p,hsz⟩:=I.list hqa
  have e1:=rv.length
  refine wpAny_pyNext_enum_end (I.ok.hd hc) he h1 p.isList (i:=i) (by simp; omega) fun h' hk=>⟨U,?_⟩
  exact I.turnedL (t':=s.toks) (fun c o hcm q=>by
   simp only[sD,sN,or_false,not_or] at hcm
   exact hk c o hcm.2 q) hf
 self:=fun _ _ _ _ _ ⟨⟨_,st⟩,_⟩ h=>wpAny_pyIter_enum st h
section
variable {X:Cx}
noncomputable def iEnum (K:PySem.W.Frag) (ta:TA):TI:=fun σ H R=>ta σ H fun vs H1=>∃ a,vs=[.ref a]/\(∃ xs,SqL K H1 a xs)/\R (Ite K a) H1
theorem gQ {x1} {tpos:Pos}{e1:Expr}{ta:TA}{p pos:Pos} (hg:Gl X "enumerate") (hm:X.mg "enumerate" = none) (ha:PA X [e1] ta) (hs:starEach [e1] X.env=[(false,eval e1 X.env)]:=by rfl) :
  PI X (.Tuple es x1 tpos) (.Call (.Name "enumerate" p) [e1] [] pos) (iEnum X.K ta):=by
 intro pins s σ H R I h
 refine Call_ (cS I hg hm (by rfl) (PyProof.Rows.callWith_type1 (thn (ha pos pins s σ H _ I h) fun us s1 ⟨vs,H1,I1,r1,q1⟩=>?_) hs rfl))
 obtain⟨a,rfl,⟨xs,hqa⟩,q⟩:=q1
 obtain⟨u1,rfl,ru1⟩:=eI r1
 cases (show u1=Value.ref a from ru1)
 obtain⟨its,rv,pa,hsz⟩:=I1.list hqa
 refine call_enumerate_list pa.isList fun h' hz h1 hsize hk=>?_
 refine wpAny_pyIter_enum (s:={ s1 with heap:=h' }) hz ?_
 refine⟨_,_,_,_,H1,U,I1.kept (t':=s1.toks) hk,jI a (s1.heap.objs.size+1) s1.heap.objs.size,⟨⟨_,hz⟩,h1⟩,fun c hc=>?_,q⟩
 have hge:s1.heap.objs.size<=c:=by
  simp only[sD,sN,or_false] at hc
  rcases hc with h | h <;> (rw[h]; omega)
 exact I1.fpOk hge (I1.hok.fresh hge)
end
section
variable {X:Cx}
theorem iJ:∀ {bs:List Bool}{us:List Value},Vals (bs.map V.bl) us->LSm.BoolsAre us bs
 | [],_,.nil=>.nil
 | b::bs,_,.cons r t=>by
  obtain rfl:=(show _=Value.bool b from r)
  exact .cons b (iJ t)
theorem lX (hc:X.calm=true):dG X (.builtin "all") (fun xs H Q=>∃ (a:Addr) (bs:List Bool),xs=[V.ref a]/\SqL X.K H a (bs.map V.bl)/\Q (.bl (bs.all id)) H):=by
 intro pins s σ H xs us Q I r h
 obtain⟨a,bs,rfl,hq,q⟩:=h
 obtain⟨u,rfl,ru⟩:=eI r
 cases (show u=Value.ref a from ru)
 obtain⟨its,rv,p,hz⟩:=I.list hq
 obtain⟨m,F⟩:=I.fr
 have hlt:a<s.heap.objs.size:=by obtain⟨_,e,_⟩:=p.isList; exact Heap.lt_size e
 have hb:=iJ rv
 refine call_all_walk (wpAny_pyIter_list p.isList ?_)
 refine⟨s.heap.objs.size,[s.heap.objs.size,a],[s.heap.objs.size],its.toArray.size,_,_,fun i=>(bs[i]?).getD true,U,Walks.list (A:=X.A.in1) (I.ok.hd hc) _ a (Nat.ne_of_lt hlt) its.toArray,
  ⟨⟨_,Heap.get?_push_size _ rfl,U,U⟩,p.isList.push _⟩,fun i v s' Q' E' hP hQ=>?_,fun h' tk hk=>?_⟩
 ·obtain⟨b,e,rfl⟩:=hb.get i v (by simpa using hP)
  simp only[e,Option.getD_some] at hQ
  exact wpAny_truthy_bool hQ
 ·have e:((List.range its.toArray.size).all fun i=>(bs[i]?).getD true)=bs.all id:=by
   rw[sI,hb.length]; exact LSm.range_all bs
  rw[e]
  exact⟨.bl (bs.all id),H,I.kept (LSm.kept_iter hk),U,q⟩
noncomputable def intsV (n:Nat):List V:=(List.range n).map fun i=>V.int (i:Nat)
end
theorem fG (k:Str):∀ D:List (Str×PyData),KTD.inKeys k (D.map fun p=>(p.1,KTD.Dat.flat p.2))=(D.any fun p=>decide (k=p.1))
 | []=>rfl
 | p::D=>by rw[sH,List.any_cons,KTD.inKeys,fG k D]
section
variable {X:Cx}
noncomputable abbrev nF (K:PySem.W.Frag) (a:Addr) (D:List (Str×PyData)):Prop:=KTD.tabLook KTD.flatLooks (fun b=>K.lookup b) a D=true
theorem hW {pins:List (Addr×Obj)}{σ:St}{H:Hp}{s:Shared}{a:Addr}{D:List (Str×PyData)} (I:Inv X pins σ H s) (T:nF X.K a D):KTD.Here s.heap s.heap a (D.map fun p=>(p.1,KTD.Dat.flat p.2)) :=
 ⟨(KTD.tab_of_look (fun _ _ x=>KTD.flat_of_looks x) (fun b o e=>I.kIn b o e) T).text,fun _ _ e=>e⟩
theorem f7:OpR X (compareOp .NotIn) (fun x y H Q=>∃ k a D,x=V.str k/\y=V.ref a/\nF X.K a D/\Q (.bl (!(D.any fun p=>decide (k=p.1)))) H):=by
 intro pins s σ H x y v u Q I rx ry h
 obtain⟨k,a,D,rfl,rfl,T,q⟩:=h
 obtain⟨t,rfl⟩:=(show ∃ t,v=Value.str k t from rx)
 cases (show u=Value.ref a from ry)
 refine KTD.notin_text (hW I T) ⟨.bl (!KTD.inKeys k (D.map fun(p:Str×PyData)=>(p.1,KTD.Dat.flat p.2))),H,I.tok _,U,?_⟩
 rw[fG]; exact q
theorem ix_K:IxR X (fun x y H Q=>∃ k a D i,x=V.ref a/\y=V.str k/\nF X.K a D/\D.lookup k=some (PyData.int i)/\(D.all fun p=>match p.2 with | .int _=>true | _=>false)=true/\Q (.int i) H):=by
 intro value slice pins s σ H x y v u Q I rx ry h hs
 obtain⟨k,a,D,i,rfl,rfl,T,e,hp,q⟩:=h
 cases (show v=Value.ref a from rx)
 obtain⟨t,rfl⟩:=(show ∃ t,u=Value.str k t from ry)
 have e1:∀ D:List (Str×PyData),(D.all fun p=>match p.2 with | .int _=>true | _=>false)=true->((D.map fun p=>(p.1,KTD.Dat.flat p.2)).all fun p=>KTD.plain p.2)=true:=fun D hD=>by
  rw[List.all_map]
  refine List.all_eq_true.mpr fun p hp'=>?_
  have:=List.all_eq_true.mp hD p hp'
  cases hq:p.2 <;> simp[hq] at this <;> simp[Function.comp,hq,KTD.plain]
 have e2:∀ D:List (Str×PyData),KTD.datumAt k (D.map fun p=>(p.1,KTD.Dat.flat p.2))=(D.lookup k).map KTD.Dat.flat:=fun D=>by
  induction D with
  | nil=>rfl
  | cons p D ih=>
   obtain⟨x,d⟩:=p
   rw[sH,KTD.datumAt,sP,ih]
   by_cases hk:k=x
   ·subst hk; simp
   ·have:(k == x)=false:=beq_eq_false_iff_ne.mpr hk
    simp[hk,this]
 have hT:=hW I T
 have hat:KTD.datumAt k (D.map fun p=>(p.1,KTD.Dat.flat p.2))=some (KTD.Dat.flat (.int i)):=by rw[e2 D,e]; rfl
 have hmem:KTD.inKeys k (D.map fun p=>(p.1,KTD.Dat.flat p.2))=true:=by rw[<- KTD.isSome_datumAt,hat]; rfl
 refine subscriptTail_builtin_flat hT.typeIs slot_dict_getitem.lookup ?_ hs
 unfold getItem
 try with_reducible refine wpAny_holding ?_
 refine wpAny_bind (wpAny_sequenceKey hT.typeIs (by decide) ?_)
 refine wpAny_bind (wpAny_callSpecial?_slot (name:=Str.ofString "__getitem__") hT.typeIs slot_dict_getitem
  (wpAny_call_entry slot_dict_getitem hT.typeIs entry_dict_getitem ?_ (args_dict_getitem _ _)))
 show wpAny _ _ (dictGet a (.str k t) >>= _) _ _ s
 refine wpAny_bind (KTD.dictGet_text hT (fun d v ha hv=>wpAny_pure ⟨v,U,wpAny_pure ⟨KTD.notRef_of_plain (KTD.plain_at (e1 D hp) ha) hv,?_⟩⟩) fun hn=>absurd hn (KTD.at_of_mem hmem))
 rw[hat] at ha
 cases ha
 obtain⟨t',rfl⟩:∃ t,v=Value.int i t:=by
  exact PyProof.V.Flat.int_inv (show PyProof.V.Flat v (PyData.int i) from hv)
 exact⟨.int i,H,I.tok _,⟨_,U⟩,q⟩
end
structure FunG (K:PySem.W.Frag) (x qual:Str) (st:Stmt) (dV:Value) (f:Addr) (fd:FuncData):Prop where
 ex:∃ (oc:Value) (od:Option Addr) (kV doc pm:Value) (an:Option Addr) (cdv ct:Value) (osl:Array (Option Value)),
  fd=W.fnOf x qual (bH st) (bC st) (aj st) dV kV doc pm an cdv ct/\K.lookup f=some ⟨oc,od,.func fd,osl⟩/\W.codeIn K cdv qual=true
 kp:W.keepIn K (.ref f)=true
section
variable {P:Program}{w:World}{K:PySem.W.Frag}{mg:Str->Option Value}{base:Heap}
theorem FunG.ok {x qual:Str}{st:Stmt}{dV:Value}{f:Addr}{fd:FuncData}{N ps:List Str}{k:Nat}{sp:Sp} (F:FunG K x qual st dV f fd) (S:FnScope N ps (aj st)) (len:∀ vs H Q E,sp vs H Q E->vs.length=ps.length)
  (hbody:∀ (cdv:Value) (A:Around) (outer:List Env) (s:Shared) (H:Hp) (vs:List V) (Q:VK) (E:XK),Room k (A.deeper (envOfC qual (aj st) s.heap.objs.size f cdv))->sp vs H Q E ->
   ∃ t,PSs (ki CX0 P w K mg base N qual (aj st) f cdv A outer s H E).nox (bC st) t/\t { nx:=fun _ H'=>Q .non H',rt:=Q } (start N vs) H):FnOk P w K mg base CX0 (k+1) f fd ps sp:=by
 obtain⟨oc,od,kV,doc,pm,an,cdv,ct,osl,rfl,lk,hcd⟩:=F.ex
 refine fn_of lk hcd S len fun A outer s H vs Q E hr hsp=>?_
 obtain⟨t,h,q⟩:=hbody cdv A outer s H vs Q E hr hsp
 exact⟨t,h.nox,q⟩
theorem FunG.binds {x qual:Str}{st:Stmt}{dV:Value}{f:Addr}{fd:FuncData}{ps:List Str} (F:FunG K x qual st dV f fd)
  (h:∀ (kV doc pm:Value) (an:Option Addr) (cdv ct:Value) (us:List Value),us.length=ps.length->bindArgs (W.fnOf x qual (bH st) (bC st) (aj st) dV kV doc pm an cdv ct) ⟨us,[]⟩=pure (ps.zip us)):Binds K fd ps []:=by
 obtain⟨oc,od,kV,doc,pm,an,cdv,ct,osl,rfl,lk,hcd⟩:=F.ex
 exact .all (h kV doc pm an cdv ct)
theorem funG_mk {x qual:Str}{st:Stmt}{f:Addr}{oc:Value}{od an:Option Addr}{osl:Array (Option Value)}{dV kV doc pm cdv ct:Value} (l:K.lookup f=some ⟨oc,od,.func (W.fnOf x qual (bH st) (bC st) (aj st) dV kV doc pm an cdv ct),osl⟩)
  (c:W.codeIn K cdv qual=true) (k:W.keepIn K (.ref f)=true):FunG K x qual st dV f (W.fnOf x qual (bH st) (bC st) (aj st) dV kV doc pm an cdv ct):=⟨⟨oc,od,kV,doc,pm,an,cdv,ct,osl,U,l,c⟩,k⟩
end
section
variable {X:Cx}{K:PySem.W.Frag}
theorem mO (hK:X.K=K) {k:Nat}{t:TGs}{n:Nat} (hc:X.calm=true) (h:PGs X es t)
  (hn:(assignEach es X.env).length=n:=by rfl) (hst:(assignEach es X.env).findIdx? (·.1)=none:=by rfl):PG X (.Tuple es k pos) (rN K n t):=by
 subst hK; exact bt hc h hn hst
end
end L2
namespace L2
theorem dH {σ:St}{H:Hp}{A B:Hp->Prop} (h:A H):nN σ H (fun b H3=>if b=true then A H3 else B H3):=(fE h:if true=true then A H else B H)
end L2
namespace L2
open PySem PySem.Spec PyProof.Rows
section
variable {X:Cx}{CX:CXT}{k:Nat}{f C:Addr}{fd:FuncData}{ps ks:List Str}{sp:Sp}{E:XK}{x m:Str}{p pos apos kpos:Pos}{e o:Expr}{es:List Expr}{kws:List Keyword}{te ta:TE}{t tk:TA}
 {g:List Value->List Value->List Value}{gV:List V->List V->List V}
noncomputable def pf (C:Addr) (m:Str) (sp:Sp) (gV:List V->List V->List V) (E:XK) (ta:TE) (t tk:TA):TE:=fun σ H Q=>ta σ H fun x H1=>∃ a dx fs,x=.ref a/\H1 a=some (.ins C dx fs)/\fs.lookup m=none /\
 t σ H1 fun vs H2=>tk σ H2 fun zs H3=>sp (gV (x::vs) zs) H3 Q E
theorem iq {pl:Sem Bool} (he:PE X o ta) (c:Cls X.K C) (hm:Meth X.K C m f) (F:FnOk X.prog X.w X.K X.mg X.base CX k f fd ps sp) (hr:Room k X.A) (hb:KBinds X.K fd ps ks g gV) (hx:bW CX X E) (ha:PA X (e::es) t) (hkw:PK X kws tk)
  (hall:(backToKw pos (keywordEach kws X.env)).all (·.1.isSome)=true:=by rfl) (hks:(backToKw pos (keywordEach kws X.env)).filterMap (·.1)=ks:=by rfl)
  (hst:starEach (e::es) X.env=(false,eval e X.env)::starEach es X.env:=by rfl)
  (hpl:((backTo pos (starEach (e :: es) X.env)).any (·.1) || (backToKw pos (keywordEach kws X.env)).any (·.1.isNone)) = false:=by rfl)
  (ht:eval (.Call (.Attribute o m apos) (e::es) kws pos) X.env=(do
   let ov <- eval o X.env
   standAt apos.atName
   let (f,first) <- holding [ov] (getMethod ov m pl)
   callWith pos f first (backTo pos (starEach (e::es) X.env)) (backToKw pos (keywordEach kws X.env))):=by rfl) :
  PE X (.Call (.Attribute o m apos) (e::es) kws pos) (pf C m sp gV E ta t tk):=by
 intro pins s σ H Q I h
 refine PySem.W.methodCall_KW (pl:=pl) (thn (he pins s σ H _ I h) fun u s1 ⟨x,H1,I1,rx,a,dx,fs,ex,ea,l,q⟩=>?_) ht
 subst ex
 obtain rfl:u=Value.ref a:=rx
 refine cV I1 ea c hm l ?_
 refine PySem.W.callWith_KW (first:=[.ref a]) (h₀:=X.base) I.ok.mod.kin hm.kp hall (thn (ha pos pins s1 σ H1 _ I1 q) fun us s2 ⟨vs,H2,I2,r,q2⟩=>?_) hpl hst
 refine thn (hkw pos pins s2 σ H2 _ I2 q2) fun ws s3 ⟨zs,H3,I3,rz,q3⟩=>⟨I3.kIn,?_⟩
 rw[hks]
 exact mK F hr hb hx I3 (us:=.ref a::us) (vs:=.ref a::vs) (.cons rfl r) rz q3
end
end L2
namespace L2
theorem ifJ {b:Bool}{A B:Prop} (hA:b=true->B->A) (g:B):if b=true then A else B:=by
 cases b
 ·exact dq g
 ·exact fE (hA rfl g)
end L2
namespace L2
open PySem PySem.Spec PyProof.Rows
section
variable {X:Cx}{o i e:Expr}{td ty:TE}{tpos pos apos cpos:Pos}
theorem gY:OpR X (binaryOp .Add) (fun x y H Q=>∃ a b xs ys,x=.ref a/\y=.ref b/\SqL X.K H a xs/\SqL X.K H b ys/\xs.length+ys.length<=sizeLine/\∀ l,H l=none->Q (.ref l) (upd H l (.lst (xs++ys)))):=by
 intro pins s σ H x y u v Q I rx ry h
 obtain⟨a,b,xs,ys,rfl,rfl,ha,hb,hz,q⟩:=h
 cases (show u=Value.ref a from rx)
 cases (show v=Value.ref b from ry)
 obtain⟨ia,ra,⟨⟨cls,dd,data,sl⟩,n,ho,hc,_,hd⟩,_⟩:=I.list ha
 obtain⟨ib,rb,⟨⟨cls2,dd2,data2,sl2⟩,n2,ho2,hc2,_,hd2⟩,_⟩:=I.list hb
 simp only at hc hd hc2 hd2
 subst hc hd hc2 hd2
 have e:ia.toArray++ib.toArray=(ia++ib).toArray:=by simp
 have e1:=ra.length
 have e2:=rb.length
 refine concat_meets ⟨_,ho,U⟩ ⟨_,ho2,U⟩ noFill_list_add seq_list_add PySem.F.slot_list_add PySem.F.entry_list_add (PySem.F.args_list_add_2 _ _) (list_addW a b ia.toArray ib.toArray n n2 dd dd2 sl sl2 (by simp; omega)) ⟨ho,ho2,?_⟩
 rw[e]
 refine⟨.ref s.heap.objs.size,_,I.laid (a:=s.heap.objs.size) (o:=.lst (xs++ys)) (t':=s.toks) (fun _ _ q=>Heap.get?_push_of_some _ q) (Nat.le_refl _) ⟨by simpa using hz,ia++ib,0,ra.append rb,Heap.get?_push_size _ rfl⟩,U,q _ (I.hok.fresh (Nat.le_refl _))⟩
theorem eR {h:Heap}:∀ {ns:List Int}{vs:List Value},Vals (ns.map V.int) vs->ReadsAll h vs (ns.map PyData.int) []
 | [],_,r=>by cases r; exact .nil
 | n::ns,_,r=>by
  cases r with
  | cons r1 r2=>
   obtain⟨t,rfl⟩:=r1
   exact .cons (as:=[]) (.int _ t) (eR r2)
theorem fY {pins:List (Addr×Obj)}{s:Shared}{σ:St}{H:Hp}{a:Addr}{ns:List Int} (I:Inv X pins σ H s) (h:H a=some (.tup (ns.map V.int))):Reads s.heap (.ref a) (.tuple (ns.map PyData.int)) []:=by
 obtain⟨_,its,r,o,h1,h2,n,h3⟩:=(show ObjOk X.prog X.w H s.heap a (.tup (ns.map V.int)) from I.hok a _ h)
 exact reads_tuple_at h1 h2 h3 (by simpa using eR r)
theorem eO (ns:List Int):SeqAt.shaped (.tuple (ns.map PyData.int))=true:=by
 simp[SeqAt.shaped,PyData.canLay0,PyData.depth,PySem.W.ke_canLayAll0,PySem.W.ke_depthAll]
theorem kM (ns ms:List Int):PySem.Spec.same (.tuple (ns.map PyData.int)) (.tuple (ms.map PyData.int))=decide (ns=ms):=by
 simp only[PySem.Spec.same]; exact PySem.W.ke_sameAll ns ms
noncomputable def rTup (neg:Bool):R2:=fun x y H Q=>∃ (a b:Addr) (ns ms:List Int),x=.ref a/\y=.ref b/\H a=some (.tup (ns.map V.int))/\H b=some (.tup (ms.map V.int))/\Q (.bl (if neg then !decide (ns=ms) else decide (ns=ms))) H
theorem jc (ns:List Int):(Shape.tuples .int).has (.tuple (ns.map PyData.int))=true:=by
 simp only[Shape.has]
 induction ns with
 | nil=>rfl
 | cons n ns ih=>simp[Shape.hasAll,Shape.has] at ih ⊢; try exact ih
theorem pR (hu:X.A.units+64<cLine):OpR X (compareOp .Eq) (rTup false):=by
 intro pins s σ H x y u v Q I rx ry h
 obtain⟨a,b,ns,ms,rfl,rfl,ha,hb,q⟩:=h
 cases (show u=Value.ref a from rx)
 cases (show v=Value.ref b from ry)
 exact eq_dataH_same (fY I ha) (fY I hb) (eO _) (eO _) hu (SeqAt.noMix_of_shape (.tuples .int) rfl _ _ (jc ns) (jc ms)) (by rw[kM]; exact aO I q (by simp))
end
theorem fI {K:PySem.W.Frag}{a:Addr}{xs:List V}{g:TG}{tb:TS}{D:Ends}{σ:St}{H:Hp} (Pv:Nat->St->Hp->Prop) (h0:Pv 0 σ H) (hl:∀ i σ H,i<=xs.length->Pv i σ H->SqL K H a xs)
  (hs:∀ i x σ H p,xs[i]?=some x->Pv i σ H->H p=none->g (.ref p) σ (upd H p (.tup [.int i,x])) fun σ2 H2=>tb { D with nx:=Pv (i+1),ct:=Pv (i+1),bk:=D.nx } σ2 H2) (hd:∀ σ H,Pv xs.length σ H->D.nx σ H) :
  ∃ W:Nat->Nat->St->Hp->Prop,(∃ m,W 0 m σ H)/\∀ i m σ H,W i m σ H ->
   ((Ite K a).stop i H/\D.nx σ H)∨((Ite K a).go i H/\∃ N:St->Hp->Prop,(∀ σ' H',N σ' H'->∃ m',m'<m/\W (i+1) m' σ' H')/\∀ x H',(Ite K a).yld i H x H'->g x σ H' fun σ2 H2=>tb { D with nx:=N,ct:=N,bk:=D.nx } σ2 H2):=by
 refine⟨fun i m σ H=>m=xs.length - i/\i<=xs.length/\Pv i σ H,⟨xs.length,by simp,Nat.zero_le _,h0⟩,?_⟩
 rintro i m σ H ⟨rfl,hi,p⟩
 have hq:=hl i σ H hi p
 by_cases hlt:i<xs.length
 ·refine .inr ⟨⟨xs,xs[i],hq,sq hlt⟩,Pv (i+1),fun σ' H' p'=>⟨xs.length - (i+1),by omega,U,hlt,p'⟩,fun x H' y=>?_⟩
  obtain⟨b,z,rfl,hb,rfl,hz⟩:=y
  exact hs i z σ H b (hz xs hq) p hb
 ·have e:i=xs.length:=by omega
  subst e
  exact .inl ⟨⟨xs,hq,Nat.le_refl _⟩,hd σ H p⟩
section
variable {X:Cx}
theorem gO {ix:Nat}{nm:Str}{pos' spos:Pos}{elt tg iter:Expr}{ifs:List Expr}{scope:Scope}{pos:Pos}{wi:TI}{k:Nat}{g:TG}{tc:TT}{te:TE} (hNd:X.N.Nodup) (hix:X.N[ix]?=some nm) (hLx:Loc X.env.scope nm) (N':List Str) (hc:X.calm=true) (hi:PI X tg iter wi)
  (hg:∀ C s₀ H₀ fp pins,PG (blk X scope N' C s₀ H₀ fp pins) tg g) (ht:∀ C s₀ H₀ fp pins,PTs (blk X scope N' C s₀ H₀ fp pins) ifs tc) (he:∀ C s₀ H₀ fp pins,PE (blk X scope N' C s₀ H₀ fp pins) elt te)
  (hk:scope.kind=.function) (hcell:∀ y ∈ scope.names,y.2≠.cell) (hnames:∀ y ∈ scope.names,y.2=.local->scope.names.lookup y.1=some .local)
  {esc:Scope} (hsc:X.env.scope=esc) (hfr':∀ y ∈ scope.names,y.2=.free->esc.names.lookup y.1=some .cell∨esc.names.lookup y.1=some .free)
  (hlen:N'.length=k+X.N.length)
  (hN:∀ (i:Nat) (x:Str),N'[i+k]?=some x->(x,NameKind.free) ∈ scope.names->X.N[i]?=some x)
  (hN2:∀ x ∈ N'.drop k,scope.names.lookup x≠some .local)
  (hs:∀ x,foldedSetIterable iter X.env x=pure x:=by intro _; rfl)
  (hsw:swapsWith (.ListComp elt [⟨tg,iter,ifs,0⟩] scope pos) (some (.Name nm pos')) spos.line X.env=pure true:=by rfl)
  (hf:X.fn nm=true∨X.env.scope.names.lookup nm=some .local:=by first | exact .inl rfl | exact .inr rfl | assumption) :
  PS X (.Assign [.Name nm pos'] (.ListComp elt [⟨tg,iter,ifs,0⟩] scope pos) spos) (px (tLC wi k g tc te) (gj ix)):=by
 intro pins s σ H Dn I h
 have hfr:∀ y ∈ scope.names,y.2=.free->X.env.kindOf y.1=some .cell∨X.env.kindOf y.1=some .free:=fun y hy hf=>by
  show X.env.scope.names.lookup y.1=_∨X.env.scope.names.lookup y.1=_
  rw[hsc]; exact hfr' y hy hf
 have hcells:∀ y ∈ scope.names,y.2=.free->∃ c,X.env.cells.lookup y.1=some c:=fun y hy hf=>I.ok.has y.1 (hfr y hy hf)
 have hclos:=fN scope X.env hcells
 rw[exec_Assign_Name_used _ _ _ _ hsw]
 refine wpAny_bind (wpAny_standAt (wpAny_bind ?_))
 show wpAny _ X.A (do let _ <- comprehension (.ListComp elt [⟨tg,iter,ifs,0⟩] scope pos) scope X.env _ (newList []) false (eval iter X.env) (some (assign (.Name nm pos') X.env))) _ _ s
 refine wpAny_bind (wpAny_mono (wpAny_comprehension_free (Q:=fun _ s'=>SP X pins Dn .next s') (use:=some (assign (.Name nm pos') X.env)) rfl hs hclos hk hnames ?_) (fun _ s' hq=>wpAny_pure (wpAny_pure hq)) fun _ _ e=>e)
 refine(thn (hi pins s σ H _ I h) fun v s1 h1=>thn h1 fun itv s2 h2=>?_)
 obtain⟨it,fp,tn,J,H2,e,I2,T,st2,f2,R⟩:=h2
 subst e
 refine wpAny_newObj_type ?_
 have hD:H2 s2.heap.objs.size=none:=I2.hok.fresh (Nat.le_refl _)
 obtain⟨W,⟨m0,w0⟩,turn⟩:=R _ hD
 generalize eD:s2.heap.objs.size=D at *
 have I3:Inv X pins σ (upd H2 D (.lst [])) { s2 with heap:=s2.heap.push { cls:=.type "list",dict:=none,data:=.seq ([]:List Value).toArray } } :=
  I2.laid (a:=D) (o:=.lst []) (t':=s2.toks) (fun b u e=>Heap.get?_push_of_some _ e) (Nat.le_of_eq eD) ⟨Nat.zero_le _,[],0,.nil,by rw[<- eD]; exact Heap.get?_push_size _ rfl⟩
 generalize e3:({ s2 with heap:=s2.heap.push { cls:=.type "list",dict:=none,data:=.seq ([]:List Value).toArray } }:Shared)=s3 at *
 have st3:tn 0 s3.heap:=T.keep _ _ _ st2 fun b _ o e=>by rw[<- e3]; exact Heap.get?_push_of_some _ e
 have lt2:∀ b ∈ fp,b<s2.heap.objs.size:=fun b hb=>by
  obtain⟨o,e,_⟩:=T.obj _ _ st2 b hb
  exact Heap.lt_size e
 have neD:∀ b ∈ fp,b≠D:=fun b hb=>by
  have:=lt2 b hb
  rw[eD] at this
  exact Nat.ne_of_lt this
 have f3:∀ b ∈ fp,cI X pins (upd H2 D (.lst [])) b:=fun b hb=>⟨by rw[aA (neD b hb)]; exact(f2 b hb).1,(f2 b hb).2⟩
 generalize upd H2 D (.lst [])=H3 at *
 refine wpAny_newFunctionEnv hcell (by intro y hy; simp at hy) (fun h₁ hns₁ hsb₁=>?_) hk
 try dsimp only at hns₁ hsb₁ ⊢
 have lt3:∀ b ∈ fp,b<s3.heap.objs.size:=fun b hb=>by
  obtain⟨o,e,_⟩:=T.obj _ _ st3 b hb
  exact Heap.lt_size e
 generalize eC:s3.heap.objs.size=C at *
 have kp:∀ b o,s3.heap.get? b=some o->h₁.get? b=some o:=fun b o e=>(hsb₁.2 b (by rw[<- eC]; exact Nat.ne_of_lt (Heap.lt_size e))).trans (Heap.get?_push_of_some _ e)
 have subC:∀ x c,(cH X.env.cells scope.names []).lookup x=some c->X.env.cells.lookup x=some c:=fun x c e=>dA scope.names [] hcells (fun y d z=>by simp at z) e
 have hCnone:H3 C=none:=I3.hok.fresh (Nat.le_of_eq eC)
 have ok':(blk X scope N' C s3 H3 fp pins).Ok:={
  mod:=I3.ok.mod
  kind:=hk
  glob:=I3.ok.glob
  blt:=I3.ok.blt
  above:=Nat.le_of_eq eC
  inj:=fun x y c a b=>I3.ok.inj x y c (subC x c a) (subC y c b)
  has:=fun x hx=>b8 scope.names [] (bK scope.names hcell hx)
  cab:=fun x c a _=>absurd a Bool.false_ne_true
  hd:=I3.ok.hd
  frames:=I3.ok.frames
  stk:=.inl rfl
  exf:=fun b hb=>⟨by have:=lt3 b hb; exact Nat.ne_of_lt this,fun x c e=>(f3 b hb).2.2.2.2.1 x c (subC x c e)⟩
  bs:=I3.bs
  bsz:=Nat.le_trans I3.ok.bsz I3.sz
  noex:=fun b o e hb=>by
   rcases (f3 b hb).2.2.2.1 with z | z
   ·exact I3.ok.noex b o e z
   ·exact absurd (Nat.lt_of_lt_of_le (Heap.lt_size e) (Nat.le_trans I3.ok.bsz z)) (Nat.lt_irrefl _)
  exfs:=fun b hb z=>by
   rcases sD.mp (I3.stkSub b z) with e | e
   ·exact(f3 b hb).2.1 e
   ·exact(f3 b hb).2.2.1 e
  funs:=I3.stack
  frf:=I3.stkFree }
 have s4os:({ s3 with heap:=h₁,toks:=s3.toks+([]:List (Str×Value)).length }:Shared).os=s3.os:=rfl
 generalize e4:({ s3 with heap:=h₁,toks:=s3.toks+([]:List (Str×Value)).length }:Shared)=s4 at *
 have h4:s4.heap=h₁:=by rw[<- e4]
 have J4:Inv (blk X scope N' C s3 H3 fp pins) [] (List.replicate k none++σ) H3 s4:=by
  refine⟨ok',s4os,by rw[<- e4]; exact I3.bare,?_,⟨_,by rw[h4]; exact hns₁,fun i x v e1 e2 e5=>?_⟩,fun x c e=>?_,hCnone,fun x c e=>I3.freeC x c (subC x c e),fun p hp=>?_,?_,?_⟩
  ·rw[h4]; exact Un.kept kp
  ·have hik:¬ i<k:=fun hlt=>by
    rw[sO (by rw[sJ]; exact hlt),List.getElem?_replicate] at e2
    split at e2 <;> cases e2
   obtain⟨j,rfl⟩:∃ j,i=j+k:=⟨i - k,by omega⟩
   have e2':σ[j]?=some (some v):=by
    rw[sM (by rw[sJ]; omega),sJ] at e2
    have:j+k - k=j:=by omega
    rw[this] at e2; exact e2
   have nl:(relabel scope X.env).names.lookup x≠some .local:=fun z=>by
    have q:∀ (l:List (Str×NameKind)),(l.map fun(n,k)=>if (k == NameKind.free && X.env.scope.kind == .function && X.env.kindOf n == some .cell) then(n,NameKind.cell) else(n,k)).lookup x=some .local->l.lookup x=some .local:=by
     intro l
     induction l with
     | nil=>intro z; simp at z
     | cons y l ih=>
      obtain⟨n,kk⟩:=y
      intro z
      by_cases hcc:(kk == NameKind.free && X.env.scope.kind == .function && X.env.kindOf n == some .cell)=true
      ·simp only[sH,if_pos hcc,sP] at z ⊢
       cases hx:x == n with
       | true=>simp only[hx] at z; cases z
       | false=>simp only[hx] at z ⊢; exact ih z
      ·simp only[sH,if_neg hcc,sP] at z ⊢
       cases hx:x == n with
       | true=>simp only[hx] at z ⊢; exact z
       | false=>simp only[hx] at z ⊢; exact ih z
    exact hN2 x (si (i:=j) (by rw[List.getElem?_drop,Nat.add_comm]; exact e1)) (q _ z)
   have hcf:(relabel scope X.env).names.lookup x=some .cell∨(relabel scope X.env).names.lookup x=some .free:=by
    rcases e5 with z | z | z
    ·exact absurd z nl
    ·exact .inl z
    ·exact .inr z
   have hmem:(x,NameKind.free) ∈ scope.names:=bK scope.names hcell hcf
   have hx:=hN j x e1 hmem
   obtain⟨mo,_,hl⟩:=I3.loc
   have hkx:=hfr (x,.free) hmem rfl
   obtain⟨u,ru,lk⟩:=hl j x v hx e2' (by
    rcases hkx with z | z
    ·exact .inr (.inl z)
    ·exact .inr (.inr z))
   refine⟨u,ru,.inr ⟨hcf,?_⟩⟩
   rcases lk with ⟨z,_⟩ | ⟨_,c,hc1,hc2⟩
   ·rcases hkx with q | q
    ·rw[q] at z; cases z
    ·rw[q] at z; cases z
   ·obtain⟨c',hc'⟩:=b8 (cells:=X.env.cells) scope.names [] hmem
    have:=subC x c' hc'
    rw[hc1] at this; cases this
    obtain⟨oc,h5,h6⟩:=hc2
    exact⟨c,hc',oc,by rw[h4]; exact kp _ _ h5,h6⟩
  ·obtain⟨v,oc,h5,h6⟩:=I3.cell x c (subC x c e)
   exact⟨v,oc,by rw[h4]; exact kp _ _ h5,h6⟩
  ·have hp':p ∈ X.pn++pins:=by simpa using hp
   obtain⟨a1,a2,a3,a4,a5⟩:=I3.pin p hp'
   refine⟨by rw[h4]; exact kp _ _ a1,a2,?_,fun z=>?_,a5⟩
   ·have:=Heap.lt_size a1
    rw[eC] at this
    exact Nat.ne_of_lt this
   ·rcases sD.mp (I3.stkSub p.1 z) with q | q
    ·exact a3 q
    ·exact a4 q
  ·rw[h4]; exact I3.hok.kept kp
  ·rw[sA,sJ,I3.len]; exact hlen.symm
 have stat:∀ {H':Hp},(∀ b ∈ fp,H' b=none)->∀ b ∈ fp,cI (blk X scope N' C s3 H3 fp pins) [] H' b:=fun hn b hb=>
  ⟨hn b hb,(ok'.exf b hb).1,ok'.exfs b hb,.inl hb,fun x c e=>(ok'.exf b hb).2 x c e,fun p hp=>(f3 b hb).2.2.2.2.2 p (by simpa using hp)⟩
 have fr4:∀ b ∈ fp,H3 b=none:=fun b hb=>(f3 b hb).1
 have st4:tn 0 s4.heap:=T.keep _ _ _ st3 fun b _ o e=>by rw[h4]; exact kp _ _ e
 have loop:codeAny (model X.prog X.w) X.A (.compLoop (.ListComp elt [⟨tg,iter,ifs,0⟩] scope pos) 0 (.ref it) (.ref D) (compEnvC scope (cH X.env.cells scope.names []) C X.env))
   (compPost (model X.prog X.w) X.A X.xe (some (assign (.Name nm pos') X.env)) (fun _ s'=>SP X pins Dn .next s') (.ref D) C) s4:=by
  refine dW (fun n s'=>∃ i ys H',Inv (blk X scope N' C s3 H3 fp pins) [] (List.replicate k none++σ) H' s'/\tn i s'.heap/\(∀ b ∈ fp,H' b=none)/\W i n ys H') ?_ m0 ⟨0,[],H3,J4,st4,fr4,w0⟩
  rintro n s5 ⟨i,ys,H5,I5,st5,fr5,w5⟩
  obtain⟨hDl,stp⟩:=turn i n ys H5 w5
  rcases stp with ⟨stop,qn⟩ | ⟨go,step⟩
  ·refine thn (T.done (blk X scope N' C s3 H3 fp pins) rfl rfl rfl hc i [] s5 _ H5 (fun _ _=>False) I5 (stat fr5) st5 stop) fun r s6 ⟨hr,I6⟩=>?_
   subst hr
   obtain⟨m6,ns6,_⟩:=id I6.loc
   have hC5:H5 C=none:=I6.free
   have un6:Un (frs X.stack) fp H3 H5 s3.heap s6.heap:=I6.base
   have IX:Inv X pins σ H5 s6:=by
    refine I3.call' (s':=s6) (ch:=fp) I6.os un6 I6.hok I6.bare (fun b hb=>?_)
    exact⟨(f3 b hb).2.2.2.1,(f3 b hb).2.1,(f3 b hb).2.2.2.2.1,(f3 b hb).2.2.2.2.2⟩
   have fpC:cI X pins H5 C:=I3.fpOk (Nat.le_of_eq eC) hC5
   obtain⟨oC,esC,epC,gC,dC,rC⟩:=ns6
   have IXp:=IX.pinned (fp:=[C]) (fun b hb=>by rw[sy.mp hb]; exact fpC) (fun b hb=>by rw[sy.mp hb]; exact⟨oC,gC,fun v z=>by rw[dC] at z; cases z⟩)
   have sto:=aq (pos:=pos') hNd hix hLx hf _ s6 σ H5 (.ref D) (.ref D) (fun σ' H'=>σ'=σ.set ix (some (.ref D))/\H'=H5) IXp rfl ⟨U,U⟩
   show wpAny _ _ (assign (.Name nm pos') X.env (.ref D)) _ _ s6
   refine thn sto fun _ s7 ⟨σ7,H7,I7,e7,e7'⟩=>?_
   subst e7 e7'
   have gC7:s7.heap.get? C=some oC:=(I7.pin (C,oC) (se _ (se _ (bv (sy.mpr rfl) gC)))).1
   refine⟨_,⟨oC,esC,epC,gC7,dC,rC⟩,fun h' hsb=>⟨σ.set ix (some (.ref D)),_,?_,qn⟩⟩
   refine(I7.unpinned).call' (s':={ s7 with heap:=h' }) (ch:=[C]) rfl ⟨fun b o e a1 a2 a3=>?_,fun b o e a1 a2 a3=>?_,fun _ _ _ n _=>n,fun b o e a3=>?_,fun _ _ q=>q,fun _ _ _ q=>q,fun _ ps q=>⟨#[],by rw[q]; simp⟩⟩ ?_ I7.bare (fun b hb=>?_)
   ·exact(hsb.2 b (fun z=>a3 (sy.mpr z))).trans e
   ·exact⟨o.slots,(hsb.2 b (fun z=>a3 (sy.mpr z))).trans e⟩
   ·exact⟨o,(hsb.2 b (fun z=>a3 (sy.mpr z))).trans e⟩
   ·intro b u e
    refine(I7.hok b u e).stay (fun c w' hcc q=>(hsb.2 c ?_).trans q) (fun _ q=>q) fun _ _ q=>q
    rintro rfl
    rcases hcc with z | z
    ·rw[z,e] at hC5; cases hC5
    ·rw[z] at hC5; cases hC5
   ·rw[sy.mp hb]
    exact⟨fpC.2.2.2.1,fpC.2.1,fpC.2.2.2.2.1,fpC.2.2.2.2.2⟩
  ·refine thn (T.item (blk X scope N' C s3 H3 fp pins) rfl rfl rfl hc i [] s5 _ H5 (fun _ _=>False) I5 (stat fr5) st5 go) fun r s6 ⟨u,hr,h6⟩=>?_
   subst hr
   refine thn h6 fun _ s7 ⟨x,H7,I7,r7,y7,st7,fr7⟩=>?_
   have I7':=I7.pinned (stat fr7) (T.obj _ _ st7)
   refine thn (hg C s3 H3 fp pins _ s7 _ H7 x u _ I7' r7 (step x H7 y7)) fun _ s8 ⟨σ8,H8,I8,d8,q8⟩=>?_
   refine thn (ht C s3 H3 fp pins _ s8 σ8 H8 _ I8 q8) fun b s9 ⟨H9,I9,q9⟩=>?_
   have kz:∀ (j:Nat) v,(List.replicate k none++σ)[j]?=some (some v)->σ8[j]?=some (some v):=fun j v e=>by
    have hik:¬ j<k:=fun hlt=>by
     rw[sO (by rw[sJ]; exact hlt),List.getElem?_replicate] at e
     split at e <;> cases e
    rw[sM (by rw[sJ]; omega),sJ,<- d8,List.getElem?_drop] at e
    have:k+(j - k)=j:=by omega
    rw[this] at e; exact e
   have again:∀ {Hz:Hp}{sz:Shared}{zs:List V}{m':Nat},Inv (blk X scope N' C s3 H3 fp pins) ([]++dL fp s7.heap) σ8 Hz sz->m'<n->W (i+1) m' zs Hz ->
     ∃ m,m<n/\∃ i ys H',Inv (blk X scope N' C s3 H3 fp pins) [] (List.replicate k none++σ) H' sz/\tn i sz.heap/\(∀ b ∈ fp,H' b=none)/\W i m ys H':=fun {Hz sz zs m'} Iz hm wz=>by
    refine⟨m',hm,i+1,zs,Hz,(Iz.unpinned).weak ?_ kz,T.keep _ _ _ st7 fun b hb o e=>(Iz.pin (b,o) (se _ (se _ (bv hb e)))).1,fun b hb=>?_,wz⟩
    ·rw[Iz.len]; exact I5.len
    ·obtain⟨o,e,d⟩:=T.obj _ _ st7 b hb
     exact(Iz.pin (b,o) (se _ (se _ (bv hb e)))).2.1
   cases b with
   | false=>
    obtain⟨m',hm,w9⟩:=(show ∃ m',m'<n/\W (i+1) m' ys H9 by simpa using q9)
    rw[if_neg Bool.false_ne_true]
    exact again I9 hm w9
   | true=>
    rw[if_pos rfl] at q9 ⊢
    refine thn (he C s3 H3 fp pins _ s9 σ8 H9 _ I9 q9) fun u9 s10 ⟨y,H10,I10,r10,hz,hD10,m',hm,w10⟩=>?_
    refine thn (aV (X:=blk X scope N' C s3 H3 fp pins) _ s10 σ8 H10 (.ref D) [y] (.ref D) [u9] (fun _ H'=>H'=upd H10 D (.lst (ys++[y]))) I10 rfl (.cons r10 .nil) ⟨D,ys,y,U,U,hD10,hz,U⟩) fun _ s11 ⟨_,H11,I11,_,e11⟩=>?_
    subst e11
    exact again I11 hm w10
 exact codeAny_compStart_list loop (T.self _ 0 _ _ _ st4 loop)
end
variable{Q:Value->Shared->Prop}
section
variable {prog:Program}{w:World}{A:Around}{E:Value->Shared->Prop}{s:Shared}
theorem bB {it l:Addr}{i:Nat}{items:Array Value}{x:Value} (h1:s.heap.IsTupleIter it l i) (h2:s.heap.IsTuple l items) (h3:items[i]?=some x)
  (h:∀ h',h'.IsTupleIter it l (i+1)->Heap.SameBut it s.heap h'->Q x { s with heap:=h' }):wpAny (model prog w) A (Builtin.SmallTypes.nextOf (.ref it)) Q E s:=by
 obtain⟨o,e,c,d⟩:=h1
 obtain⟨ol,el,cl,n,dl⟩:=h2
 unfold Builtin.SmallTypes.nextOf
 refine wpAny_bind (wpAny_callSpecial?_slot (T := "tuple_iterator") ⟨o,e,c⟩ F.slot_tuple_iterator_next (wpAny_call_entry F.slot_tuple_iterator_next ⟨o,e,c⟩ F.entry_tuple_iterator_next ?_ (F.args_tuple_iterator_next_1 _)))
 unfold Builtin.«tuple_iterator.__next__»
 refine wpAny_bind (wpAny_of_eq (a:=(Value.ref it,[])) rfl ?_)
 refine wpAny_bind (wpAny_field (x:=.ref l) e d rfl ?_)
 rw[if_neg (show ¬ ((Value.ref l == Value.none)=true) from by simp)]
 refine wpAny_bind (wpAny_field (x:=.int (i:Int) 0) e d rfl ?_)
 refine wpAny_bind (wpAny_seqItems el dl ?_)
 dsimp only
 rw[Int.toNat_natCast,h3]
 refine wpAny_bind (wpAny_setField e d (by simp) ?_)
 refine wpAny_pure ⟨x,U,wpAny_pure (h _ ⟨_,Heap.get?_update_self _ e (Obj.isFreed_of_fields (Obj.data_mapFields d _)),(Obj.cls_mapFields _ _).trans c,Obj.data_mapFields d _⟩ (Heap.SameBut.update _ _ _))⟩
theorem bX {it l:Addr}{i:Nat}{items:Array Value} (hh:A.handled=none) (h1:s.heap.IsTupleIter it l i) (h2:s.heap.IsTuple l items) (h3:items[i]?=none)
  (h:∀ h' e,Heap.ExtBut it s.heap h'->(∃ o,h'.get? e=some o/\o.cls=.type "StopIteration")->E (.ref e) { s with heap:=h' }):wpAny (model prog w) A (Builtin.SmallTypes.nextOf (.ref it)) Q E s:=by
 obtain⟨o,e,c,d⟩:=h1
 obtain⟨ol,el,cl,n,dl⟩:=h2
 unfold Builtin.SmallTypes.nextOf
 refine wpAny_bind (wpAny_callSpecial?_slot (T := "tuple_iterator") ⟨o,e,c⟩ F.slot_tuple_iterator_next (wpAny_call_entry F.slot_tuple_iterator_next ⟨o,e,c⟩ F.entry_tuple_iterator_next ?_ (F.args_tuple_iterator_next_1 _)))
 unfold Builtin.«tuple_iterator.__next__»
 refine wpAny_bind (wpAny_of_eq (a:=(Value.ref it,[])) rfl ?_)
 refine wpAny_bind (wpAny_field (x:=.ref l) e d rfl ?_)
 rw[if_neg (show ¬ ((Value.ref l == Value.none)=true) from by simp)]
 refine wpAny_bind (wpAny_field (x:=.int (i:Int) 0) e d rfl ?_)
 refine wpAny_bind (wpAny_seqItems el dl ?_)
 dsimp only
 rw[Int.toNat_natCast,h3]
 refine wpAny_bind (wpAny_rule ?_)
 refine wpAny_bind (wpAny_setField e d (by simp) ?_)
 unfold Builtin.SmallTypes.stopIteration
 refine wpAny_bind ?_
 unfold newExc
 refine wpAny_bind (wpAny_newTuple ?_ (by simp))
 refine wpAny_bind (wpAny_bind (wpAny_pure (wpAny_pure ?_)))
 refine wpAny_newObj_type ?_ (sizeOk_excFields _ _ _ _ _ _ _ _)
 unfold raiseNew
 refine wpAny_bind (wpAny_handled ?_)
 rw[show A.in1.handled=none from hh]
 refine wpAny_throw (h _ _ (fun b o hb eb=>?_) ⟨_,Heap.get?_push_size _ rfl,U⟩)
 exact Heap.get?_push_of_some _ (Heap.get?_push_of_some _ (((Heap.SameBut.update s.heap it _).2 b hb).trans eb))
theorem cW {h h':Heap}{a l:Addr}{xs:Array Value} (p:h.IsTuple l xs) (sb:Heap.SameBut a h h') (ne:l≠a):h'.IsTuple l xs:=by
 obtain⟨o,e,r⟩:=p
 exact⟨o,(sb.2 l ne).trans e,r⟩
theorem eu {z TI TO i1 i2 l1 l2:Addr}{k1 k2:Nat}{xs ys:Array Value}{x y a b:Value} (D:ZipApart z TI TO i1 i2 l1 l2) (hz:IsZip s.heap z TI TO .none) (hTI:IsPair s.heap TI (.ref i1) (.ref i2)) (hTO:IsPair s.heap TO a b)
  (h1:s.heap.IsTupleIter i1 l1 k1) (h2:s.heap.IsTupleIter i2 l2 k2) (p1:s.heap.IsTuple l1 xs) (p2:s.heap.IsTuple l2 ys) (hx:xs[k1]?=some x) (hy:ys[k2]?=some y)
  (h:∀ h',IsZip h' z TI TO (rawInt s.heap.objs.size)->IsPair h' TO x y->h'.IsTupleIter i1 l1 (k1+1)->h'.IsTupleIter i2 l2 (k2+1)->IsPair h' s.heap.objs.size x y->h'.objs.size=s.heap.objs.size+1 ->
   (∀ c o,c≠z->c≠TO->c≠i1->c≠i2->s.heap.get? c=some o->h'.get? c=some o)->Q (.ref s.heap.objs.size) { s with heap:=h' }) :
  wpAny (model prog w) A (Builtin.«zip.__next__» { pos:=[.ref z] }) (fun fin s'=>∃ v,fin=Fin.done (.ret v)/\Q v s') E s:=by
 unfold Builtin.«zip.__next__»
 refine wpAny_bind (wpAny_of_eq (a:=(Value.ref z,[])) rfl ?_)
 dsimp only
 refine wpAny_bind (wpAny_field (x:=.bool false) hz rfl rfl ?_)
 refine wpAny_bind (wpAny_field (x:=.ref TI) hz rfl rfl ?_)
 refine wpAny_bind (wpAny_seqItems hTI rfl ?_)
 dsimp only
 rw[if_neg (by simp)]
 refine wpAny_bind ?_
 unfold Builtin.SmallTypes.ownedTupleIsFree
 refine wpAny_bind (wpAny_field (x:=.none) hz rfl rfl (wpAny_pure ?_))
 rw[if_pos rfl]
 refine wpAny_bind (wpAny_rule ?_)
 refine wpAny_bind (wpAny_field (x:=.ref TO) hz rfl rfl ?_)
 refine wpAny_bind (wpAny_setField_rec hz (by simp) fun h₁ hz₁ hs₁=>?_)
 refine wpAny_bind ?_
 show wpAny _ _ (forIn [(Value.ref i1,0),(Value.ref i2,1)] (none,()) _) _ _ _
 rw[List.forIn_cons]
 refine wpAny_bind ?_
 refine wpAny_bind (wpAny_onRaise ?_)
 have ne1:(Value.bool false == Value.bool true)=true->False:=by decide
 refine wpAny_bind (bB (h1.extBut hs₁.extBut D.i1z) (cW p1 hs₁ D.l1z) hx fun h₂ g1 sb2=>?_)
 refine wpAny_pure ?_
 have hTO2:IsPair h₂ TO a b:=(sb2.2 _ D.TOi1).trans ((hs₁.2 _ D.TOz).trans hTO)
 refine wpAny_bind (wpAny_seqItems hTO2 rfl ?_)
 refine wpAny_bind (wpAny_updateSeq_pair hTO2 fun h₃ e3 sb3=>?_)
 refine wpAny_bind (wpAny_letGo ?_)
 refine wpAny_pure ?_
 dsimp only
 have hTO3:IsPair h₃ TO x b:=e3
 rw[List.forIn_cons]
 refine wpAny_bind ?_
 refine wpAny_bind (wpAny_onRaise ?_)
 have h2b:h₃.IsTupleIter i2 l2 k2:=((h2.extBut hs₁.extBut D.i2z).extBut sb2.extBut D.i12.symm).extBut sb3.extBut D.TOi2.symm
 refine wpAny_bind (bB h2b (cW (cW (cW p2 hs₁ D.l2z) sb2 D.l2i1) sb3 D.l2TO) hy fun h₄ g2 sb4=>?_)
 refine wpAny_pure ?_
 have hTO4:IsPair h₄ TO x b:=(sb4.2 _ D.TOi2).trans hTO3
 refine wpAny_bind (wpAny_seqItems hTO4 rfl ?_)
 refine wpAny_bind (wpAny_updateSeq_pair hTO4 fun h₅ e5 sb5=>?_)
 refine wpAny_bind (wpAny_letGo ?_)
 refine wpAny_pure ?_
 dsimp only
 have hTO5:IsPair h₅ TO x y:=e5
 rw[List.forIn_nil]
 refine wpAny_pure ?_
 dsimp only
 refine wpAny_bind (wpAny_seqItems hTO5 rfl ?_)
 dsimp only
 refine wpAny_bind (wpAny_newTuple ?_ (by simp[sizeLine_eq]))
 have sz:h₅.objs.size=s.heap.objs.size:=sb5.1.trans (sb4.1.trans (sb3.1.trans (sb2.1.trans hs₁.1)))
 have hz5:h₅.get? z=some { cls:=.type "zip",data:=.fields #[Value.ellipsis,.bool false,.bool false,.ref TI,.ref TO] } :=
  (sb5.2 _ D.TOz.symm).trans ((sb4.2 _ D.i2z.symm).trans ((sb3.2 _ D.TOz.symm).trans ((sb2.2 _ D.i1z.symm).trans hz₁)))
 have hz6:(h₅.push { cls:=.type "tuple",data:=.seq #[x,y] }).get? z=some { cls:=.type "zip",data:=.fields #[Value.ellipsis,.bool false,.bool false,.ref TI,.ref TO] }:=Heap.get?_push_of_some _ hz5
 unfold Builtin.SmallTypes.ownedTupleHandOut
 refine wpAny_bind (wpAny_bind (wpAny_setField_rec hz6 (by simp) fun h₇ e7 sb7=>?_))
 refine wpAny_setField_rec (k:=1) e7 (by simp) fun h₈ e8 sb8=>?_
 refine wpAny_pure ⟨_,U,?_⟩
 have szz:z<s.heap.objs.size:=Heap.lt_size hz
 have nz:s.heap.objs.size≠z:=Nat.ne_of_gt szz
 have pz:∀ c,c≠z->h₈.get? c=(h₅.push { cls:=.type "tuple",data:=.seq #[x,y] }).get? c:=fun c hc=>(sb8.2 c hc).trans (sb7.2 c hc)
 have old:∀ c o,c≠z->h₅.get? c=some o->h₈.get? c=some o:=fun c o hc e=>(pz c hc).trans (Heap.get?_push_of_some _ e)
 rw[show({ s with heap:=h₅ }:Shared).heap.objs.size=s.heap.objs.size from sz] at e8 ⊢
 refine h h₈ ?_ (old _ _ D.TOz hTO5) ?_ ?_ ?_ ?_ ?_
 ·exact e8
 ·exact(g1.at fun o e=>old _ _ D.i1z ((sb5.2 _ D.TOi1.symm).trans ((sb4.2 _ D.i12).trans ((sb3.2 _ D.TOi1.symm).trans e))))
 ·exact(g2.at fun o e=>old _ _ D.i2z ((sb5.2 _ D.TOi2.symm).trans e))
 ·have e9:(h₅.push { cls:=.type "tuple",data:=.seq #[x,y] }).get? h₅.objs.size=some { cls:=.type "tuple",data:=.seq #[x,y] }:=Heap.get?_push_size _ rfl
  have sz':h₅.objs.size=s.heap.objs.size:=sz
  rw[sz'] at e9
  exact(pz _ nz).trans e9
 ·rw[sb8.1,sb7.1,Heap.size_push]
  exact congrArg (· + 1) (show h₅.objs.size=s.heap.objs.size from sz)
 ·intro c o c1 c2 c3 c4 e
  exact old c o c1 ((sb5.2 c c2).trans ((sb4.2 c c4).trans ((sb3.2 c c2).trans ((sb2.2 c c3).trans ((hs₁.2 c c1).trans e)))))
theorem dJ {z TI TO i1 i2 l1 l2:Addr}{k1 k2:Nat}{xs ys:Array Value}{x y a b:Value}{Q:Option Value->Shared->Prop} (D:ZipApart z TI TO i1 i2 l1 l2) (hz:IsZip s.heap z TI TO .none) (hTI:IsPair s.heap TI (.ref i1) (.ref i2)) (hTO:IsPair s.heap TO a b)
  (h1:s.heap.IsTupleIter i1 l1 k1) (h2:s.heap.IsTupleIter i2 l2 k2) (p1:s.heap.IsTuple l1 xs) (p2:s.heap.IsTuple l2 ys) (hx:xs[k1]?=some x) (hy:ys[k2]?=some y)
  (h:∀ h',IsZip h' z TI TO (rawInt s.heap.objs.size)->IsPair h' TO x y->h'.IsTupleIter i1 l1 (k1+1)->h'.IsTupleIter i2 l2 (k2+1)->IsPair h' s.heap.objs.size x y->h'.objs.size=s.heap.objs.size+1 ->
   (∀ c o,c≠z->c≠TO->c≠i1->c≠i2->s.heap.get? c=some o->h'.get? c=some o)->Q (some (.ref s.heap.objs.size)) { s with heap:=h' }) :
  wpAny (model prog w) A (pyNext (.ref z)) Q E s:=by
 have tz:Shared.TypeIs s (.ref z) "zip":=⟨_,hz,U⟩
 unfold pyNext
 refine wpAny_bind (wpAny_attempt (wpAny_callSpecial?_slot tz F.slot_zip_next (wpAny_call_entry F.slot_zip_next tz F.entry_zip_next ?_ (F.args_zip_next_1 _))))
 refine eu D hz hTI hTO h1 h2 p1 p2 hx hy fun h' a1 a2 a3 a4 a5 a6 a7=>?_
 exact wpAny_pure (h h' a1 a2 a3 a4 a5 a6 a7)
theorem fS {z TI TO i1 i2 l1 l2:Addr}{k1 k2:Nat}{xs ys:Array Value}{a b:Value}{Q:PySem.Fin->Shared->Prop} (hh:A.handled=none) (D:ZipApart z TI TO i1 i2 l1 l2) (hz:IsZip s.heap z TI TO .none) (hTI:IsPair s.heap TI (.ref i1) (.ref i2)) (hTO:IsPair s.heap TO a b)
  (h1:s.heap.IsTupleIter i1 l1 k1) (h2:s.heap.IsTupleIter i2 l2 k2) (p1:s.heap.IsTuple l1 xs) (p2:s.heap.IsTuple l2 ys) (hxy:xs[k1]?=none∨ys[k2]?=none)
  (h:∀ h' e,(∀ c o,c≠z->c≠TO->c≠i1->c≠i2->s.heap.get? c=some o->h'.get? c=some o)->(∃ o,h'.get? e=some o/\o.cls=.type "StopIteration")->E (.ref e) { s with heap:=h' }) :
  wpAny (model prog w) A (Builtin.«zip.__next__» { pos:=[.ref z] }) Q E s:=by
 unfold Builtin.«zip.__next__»
 refine wpAny_bind (wpAny_of_eq (a:=(Value.ref z,[])) rfl ?_)
 dsimp only
 refine wpAny_bind (wpAny_field (x:=.bool false) hz rfl rfl ?_)
 refine wpAny_bind (wpAny_field (x:=.ref TI) hz rfl rfl ?_)
 refine wpAny_bind (wpAny_seqItems hTI rfl ?_)
 dsimp only
 rw[if_neg (by simp)]
 refine wpAny_bind ?_
 unfold Builtin.SmallTypes.ownedTupleIsFree
 refine wpAny_bind (wpAny_field (x:=.none) hz rfl rfl (wpAny_pure ?_))
 rw[if_pos rfl]
 refine wpAny_bind (wpAny_rule ?_)
 refine wpAny_bind (wpAny_field (x:=.ref TO) hz rfl rfl ?_)
 refine wpAny_bind (wpAny_setField_rec hz (by simp) fun h₁ hz₁ hs₁=>?_)
 refine wpAny_bind ?_
 show wpAny _ _ (forIn [(Value.ref i1,0),(Value.ref i2,1)] (none,()) _) _ _ _
 rw[List.forIn_cons]
 refine wpAny_bind ?_
 refine wpAny_bind (wpAny_onRaise ?_)
 have fin:∀ (g g':Heap) (e:Addr) (f0:Value),Heap.get? g z=some { cls:=.type "zip",data:=.fields #[f0,.bool false,.bool false,.ref TI,.ref TO] }->(∀ c o,c≠z->c≠TO->c≠i1->c≠i2->s.heap.get? c=some o->g.get? c=some o)->(∃ o,g.get? e=some o/\o.cls=.type "StopIteration") ->
   wpAny (model prog w) A (setField (.ref z) 0 .none) (fun _ s''=>E (.ref e) s'') E { s with heap:=g }:=fun g g' e f0 ez kk he=>by
  refine wpAny_setField_rec ez (by simp) fun g2 e2 sb2=>h g2 e (fun c o c1 c2 c3 c4 eo=>(sb2.2 c c1).trans (kk c o c1 c2 c3 c4 eo)) ?_
  obtain⟨o,eo,ec⟩:=he
  exact⟨o,(sb2.2 e (fun z'=>by rw[z',ez] at eo; cases eo; exact absurd (show Value.type "zip" = Value.type "StopIteration" from ec) (by decide +kernel))).trans eo,ec⟩
 cases hx:xs[k1]? with
 | none=>
  refine wpAny_bind (bX hh (h1.extBut hs₁.extBut D.i1z) (cW p1 hs₁ D.l1z) hx fun h₂ e sb2 he=>?_)
  exact fin h₂ h₂ e _ (sb2 _ _ D.i1z.symm hz₁) (fun c o c1 c2 c3 c4 eo=>sb2 _ _ c3 ((hs₁.2 c c1).trans eo)) he
 | some x=>
  have hy:ys[k2]?=none:=hxy.resolve_left (fun q=>by rw[hx] at q; cases q)
  refine wpAny_bind (bB (h1.extBut hs₁.extBut D.i1z) (cW p1 hs₁ D.l1z) hx fun h₂ g1 sb2=>?_)
  refine wpAny_pure ?_
  have hTO2:IsPair h₂ TO a b:=(sb2.2 _ D.TOi1).trans ((hs₁.2 _ D.TOz).trans hTO)
  refine wpAny_bind (wpAny_seqItems hTO2 rfl ?_)
  refine wpAny_bind (wpAny_updateSeq_pair hTO2 fun h₃ e3 sb3=>?_)
  refine wpAny_bind (wpAny_letGo ?_)
  refine wpAny_pure ?_
  dsimp only
  rw[List.forIn_cons]
  refine wpAny_bind ?_
  refine wpAny_bind (wpAny_onRaise ?_)
  have h2b:h₃.IsTupleIter i2 l2 k2:=((h2.extBut hs₁.extBut D.i2z).extBut sb2.extBut D.i12.symm).extBut sb3.extBut D.TOi2.symm
  refine wpAny_bind (bX hh h2b (cW (cW (cW p2 hs₁ D.l2z) sb2 D.l2i1) sb3 D.l2TO) hy fun h₄ e sb4 he=>?_)
  refine fin h₄ h₄ e _ (sb4 _ _ D.i2z.symm ((sb3.2 _ D.TOz.symm).trans ((sb2.2 _ D.i1z.symm).trans hz₁))) (fun c o c1 c2 c3 c4 eo=>sb4 _ _ c4 ((sb3.2 c c2).trans ((sb2.2 c c3).trans ((hs₁.2 c c1).trans eo)))) he
theorem dY {z TI TO i1 i2 l1 l2:Addr}{k1 k2:Nat}{xs ys:Array Value}{a b:Value}{Q:Option Value->Shared->Prop} (hh:A.handled=none) (D:ZipApart z TI TO i1 i2 l1 l2) (hz:IsZip s.heap z TI TO .none) (hTI:IsPair s.heap TI (.ref i1) (.ref i2)) (hTO:IsPair s.heap TO a b)
  (h1:s.heap.IsTupleIter i1 l1 k1) (h2:s.heap.IsTupleIter i2 l2 k2) (p1:s.heap.IsTuple l1 xs) (p2:s.heap.IsTuple l2 ys) (hxy:xs[k1]?=none∨ys[k2]?=none)
  (h:∀ h',(∀ c o,c≠z->c≠TO->c≠i1->c≠i2->s.heap.get? c=some o->h'.get? c=some o)->Q none { s with heap:=h' }) :
  wpAny (model prog w) A (pyNext (.ref z)) Q E s:=by
 have tz:Shared.TypeIs s (.ref z) "zip":=⟨_,hz,U⟩
 unfold pyNext
 refine wpAny_bind (wpAny_attempt (wpAny_callSpecial?_slot tz F.slot_zip_next (wpAny_call_entry F.slot_zip_next tz F.entry_zip_next ?_ (F.args_zip_next_1 _))))
 refine fS hh D hz hTI hTO h1 h2 p1 p2 hxy fun h' e kk he=>?_
 obtain⟨o,eo,ec⟩:=he
 refine wpAny_bind (wpAny_isInstance (T := "StopIteration") ⟨o,eo,ec⟩ isSubtype_stop ?_)
 rw[if_pos rfl]
 exact wpAny_pure (h h' kk)
theorem kj {l1 l2:Addr}{xs ys:Array Value} (p1:s.heap.IsTuple l1 xs) (p2:s.heap.IsTuple l2 ys)
  (h:∀ h',IsZip h' (s.heap.objs.size+4) (s.heap.objs.size+2) (s.heap.objs.size+3) .none->IsPair h' (s.heap.objs.size+2) (.ref s.heap.objs.size) (.ref (s.heap.objs.size+1))->IsPair h' (s.heap.objs.size+3) .none .none ->
   h'.IsTupleIter s.heap.objs.size l1 0->h'.IsTupleIter (s.heap.objs.size+1) l2 0->h'.objs.size=s.heap.objs.size+5->(∀ c o,s.heap.get? c=some o->h'.get? c=some o)->Q (.ref (s.heap.objs.size+4)) { s with heap:=h' }) :
  wpAny (model prog w) A (call (.type "zip") [.ref l1,.ref l2]) Q E s:=by
 have hM:Meets (Builtin.«zip.__new__» { pos:=[.type "zip",.ref l1,.ref l2] }) (fun _ R s=>s.heap.IsTuple l1 xs/\s.heap.IsTuple l2 ys /\
   ∀ h',IsZip h' (s.heap.objs.size+4) (s.heap.objs.size+2) (s.heap.objs.size+3) .none->IsPair h' (s.heap.objs.size+2) (.ref s.heap.objs.size) (.ref (s.heap.objs.size+1))->IsPair h' (s.heap.objs.size+3) .none .none ->
   h'.IsTupleIter s.heap.objs.size l1 0->h'.IsTupleIter (s.heap.objs.size+1) l2 0->h'.objs.size=s.heap.objs.size+5->(∀ c o,s.heap.get? c=some o->h'.get? c=some o)->R (.ok (.ret (.ref (s.heap.objs.size+4)))) { s with heap:=h' }) :=
  .of_wp fun prog w A R s ⟨q1,q2,hq⟩=>by
   unfold Builtin.«zip.__new__»
   refine wpAny_bind ?_
   unfold Builtin.SmallTypes.newClass
   refine wpAny_bind (wpAny_of_eq (a:=true) rfl ?_)
   rw[if_neg (by decide)]
   refine wpAny_bind (wpAny_of_eq (a:=true) sub_zip ?_)
   rw[if_neg (by decide)]
   refine wpAny_pure ?_
   dsimp only
   rw[if_neg (by decide)]
   refine wpAny_bind ?_
   unfold Builtin.SmallTypes.iterAll
   refine wpAny_bind ?_
   rw[List.forIn_cons]
   refine wpAny_bind (wpAny_bind (wpAny_holding (wpAny_pyIter_tuple q1 (wpAny_pure ?_))))
   dsimp only
   rw[List.forIn_cons]
   have q2':(s.heap.push { cls:=.type "tuple_iterator",data:=.fields #[.ref l1,.int 0 0] }).IsTuple l2 ys:=by
    obtain⟨o,e,r⟩:=q2
    exact⟨o,Heap.get?_push_of_some _ e,r⟩
   refine wpAny_bind (wpAny_bind (wpAny_holding (wpAny_pyIter_tuple q2' (wpAny_pure ?_))))
   dsimp only
   rw[List.forIn_nil]
   refine wpAny_pure (wpAny_pure ?_)
   refine wpAny_bind (wpAny_newTuple ?_ (by simp[sizeLine_eq]))
   refine wpAny_bind (wpAny_newTuple ?_ (by simp[sizeLine_eq]))
   refine wpAny_bind ?_
   unfold Builtin.SmallTypes.newRecord
   refine wpAny_newObj_type ?_ (by simp[PySem.sizeOk,Builtin.SmallTypes.ownedTupleFields,sizeLine_eq])
   refine wpAny_pure ⟨_,U,?_⟩
   have n1:(s.heap.push { cls:=.type "tuple_iterator",data:=.fields #[.ref l1,.int 0 0] }).objs.size=s.heap.objs.size+1:=Heap.size_push _ _
   have n2:((s.heap.push { cls:=.type "tuple_iterator",data:=.fields #[.ref l1,.int 0 0] }).push { cls:=.type "tuple_iterator",data:=.fields #[.ref l2,.int 0 0] }).objs.size=s.heap.objs.size+2:=by rw[Heap.size_push,n1]
   generalize hg1:s.heap.push { cls:=.type "tuple_iterator",data:=.fields #[.ref l1,.int 0 0] }=g1 at *
   generalize hg2:g1.push { cls:=.type "tuple_iterator",data:=.fields #[.ref l2,.int 0 0] }=g2 at *
   show R (.ok (.ret (.ref ((g2.push { cls:=.type "tuple",data:=.seq #[.ref s.heap.objs.size,.ref g1.objs.size] }).push { cls:=.type "tuple",data:=.seq #[.none,.none] }).objs.size))) { s with heap:=((g2.push { cls:=.type "tuple",data:=.seq #[.ref s.heap.objs.size,.ref g1.objs.size] }).push { cls:=.type "tuple",data:=.seq #[.none,.none] }).push { cls:=.type "zip",data:=.fields #[.none,.bool false,.bool false,.ref g2.objs.size,.ref (g2.push { cls:=.type "tuple",data:=.seq #[.ref s.heap.objs.size,.ref g1.objs.size] }).objs.size] } }
   have n3:(g2.push { cls:=.type "tuple",data:=.seq #[.ref s.heap.objs.size,.ref g1.objs.size] }).objs.size=s.heap.objs.size+3:=by rw[Heap.size_push,n2]
   have i1:g1.get? s.heap.objs.size=some { cls:=.type "tuple_iterator",data:=.fields #[.ref l1,.int 0 0] }:=by rw[<- hg1]; exact Heap.get?_push_size _ rfl
   have i2:g2.get? (s.heap.objs.size+1)=some { cls:=.type "tuple_iterator",data:=.fields #[.ref l2,.int 0 0] }:=by rw[<- hg2,<- n1]; exact Heap.get?_push_size _ rfl
   have i1':g2.get? s.heap.objs.size=some { cls:=.type "tuple_iterator",data:=.fields #[.ref l1,.int 0 0] }:=by rw[<- hg2]; exact Heap.get?_push_of_some _ i1
   have k2:∀ c o,s.heap.get? c=some o->g2.get? c=some o:=fun c o e=>by rw[<- hg2,<- hg1]; exact Heap.get?_push_of_some _ (Heap.get?_push_of_some _ e)
   rw[n1]
   rw[n1] at n3
   generalize hg3:g2.push { cls:=.type "tuple",data:=.seq #[.ref s.heap.objs.size,.ref (s.heap.objs.size+1)] }=g3 at *
   have i3:g3.get? (s.heap.objs.size+2)=some { cls:=.type "tuple",data:=.seq #[.ref s.heap.objs.size,.ref (s.heap.objs.size+1)] }:=by rw[<- hg3,<- n2]; exact Heap.get?_push_size _ rfl
   have k3:∀ c o,g2.get? c=some o->g3.get? c=some o:=fun c o e=>by rw[<- hg3]; exact Heap.get?_push_of_some _ e
   have n4:(g3.push { cls:=.type "tuple",data:=.seq #[.none,.none] }).objs.size=s.heap.objs.size+4:=by rw[Heap.size_push,n3]
   generalize hg4:g3.push { cls:=.type "tuple",data:=.seq #[.none,.none] }=g4 at *
   have i4:g4.get? (s.heap.objs.size+3)=some { cls:=.type "tuple",data:=.seq #[.none,.none] }:=by rw[<- hg4,<- n3]; exact Heap.get?_push_size _ rfl
   have k4:∀ c o,g3.get? c=some o->g4.get? c=some o:=fun c o e=>by rw[<- hg4]; exact Heap.get?_push_of_some _ e
   rw[n2,n3,n4]
   have k5:∀ c o,g4.get? c=some o->(g4.push { cls:=.type "zip",data:=.fields #[.none,.bool false,.bool false,.ref (s.heap.objs.size+2),.ref (s.heap.objs.size+3)] }).get? c=some o:=fun c o e=>Heap.get?_push_of_some _ e
   refine hq _ ?_ (k5 _ _ (k4 _ _ i3)) (k5 _ _ i4) ⟨_,k5 _ _ (k4 _ _ (k3 _ _ i1')),U,U⟩ ⟨_,k5 _ _ (k4 _ _ (k3 _ _ i2)),U,U⟩ ?_ (fun c o e=>k5 _ _ (k4 _ _ (k3 _ _ (k2 _ _ e))))
   ·show Heap.get? _ (s.heap.objs.size+4)=_
    rw[<- n4]; exact Heap.get?_push_size _ rfl
   ·rw[Heap.size_push,n4]
 refine callType_new F.called_zip (by decide) (F.typeCall_zip_2 _ _) (F.newCall_zip_2 _ _) (fun obj=>F.args_object_init_3 _ _ _) F.entry_zip_new hM ⟨p1,p2,fun h' a1 a2 a3 a4 a5 a6 a7=>?_⟩
 exact⟨⟨_,a1,U⟩,h h' a1 a2 a3 a4 a5 a6 a7⟩
end
theorem jf {X:Cx}{pins:List (Addr×Obj)}{σ:St}{H:Hp}{s:Shared}{a b:Addr}{xs:List V} (I:Inv X pins σ H s) (f:cI X pins H b) (q:SqT X.K H a xs):a≠b:=fun e=>by
 subst e
 rcases q with (q | ⟨o,q⟩) | ⟨o,its,n,hk,_⟩
 ·rw[f.1] at q; cases q
 ·rw[f.1] at q; cases q
 ·have hb:=I.ok.mod.kin a o hk
  rcases f.2.2.2.1 with hx | hx
  ·exact I.ok.noex a o hb hx
  ·exact absurd (Nat.lt_of_lt_of_le (Heap.lt_size hb) (Nat.le_trans I.ok.bsz hx)) (Nat.lt_irrefl _)
noncomputable def mj (K:PySem.W.Frag) (a b:Addr):It :=
 ⟨fun i H=>∃ xs x ys y,SqT K H a xs/\xs[i]?=some x/\SqT K H b ys/\ys[i]?=some y,
  fun i H v H'=>∃ p x y,v=.ref p/\H p=none/\H'=upd H p (.tup [x,y])/\(∀ xs,SqT K H a xs->xs[i]?=some x)/\∀ ys,SqT K H b ys->ys[i]?=some y,
  fun i H=>∃ xs ys,SqT K H a xs/\SqT K H b ys/\(xs.length<=i∨ys.length<=i)⟩
theorem jG {P:Program}{w:World}{K:PySem.W.Frag}{es:List Expr} {x1} {pos:Pos} (a b z TI TO i1 i2:Addr):Turn P w K (.Tuple es x1 pos) (mj K a b) [z,TI,TO,i1,i2] z
  (fun i h=>IsZip h z TI TO .none/\IsPair h TI (.ref i1) (.ref i2)/\(∃ u v,IsPair h TO u v)/\h.IsTupleIter i1 a i/\h.IsTupleIter i2 b i/\TI≠TO/\i1≠i2) where
 mem:=by simp
 obj:=fun i h ⟨hz,hTI,⟨u,v,hTO⟩,h1,h2,_⟩ c hc=>by
  simp only[sD,sN,or_false] at hc
  rcases hc with rfl | rfl | rfl | rfl | rfl
  ·exact⟨_,hz,fun v q=>by cases (show Data.fields _=Data.cell v from q)⟩
  ·exact⟨_,hTI,fun v q=>by cases (show Data.seq _ _=Data.cell v from q)⟩
  ·exact⟨_,hTO,fun v q=>by cases (show Data.seq _ _=Data.cell v from q)⟩
  ·obtain⟨o,e,_,d⟩:=h1
   exact⟨o,e,fun v q=>by rw[d] at q; cases q⟩
  ·obtain⟨o,e,_,d⟩:=h2
   exact⟨o,e,fun v q=>by rw[d] at q; cases q⟩
 keep:=fun i h h' ⟨hz,hTI,⟨u,v,hTO⟩,h1,h2,n1,n2⟩ k=>⟨k z (by simp) _ hz,k TI (by simp) _ hTI,⟨u,v,k TO (by simp) _ hTO⟩,h1.at fun o e=>k i1 (by simp) o e,h2.at fun o e=>k i2 (by simp) o e,n1,n2⟩
 item:=by
  intro X hP hw hK hc i pins s σ H E I hf ⟨hz,hTI,⟨u,v,hTO⟩,h1,h2,n1,n2⟩ hg
  subst hP hw hK
  obtain⟨xs,x,ys,y,hqa,hx,hqb,hy⟩:=hg
  obtain⟨its,rv,p,hsz⟩:=I.tuple hqa
  obtain⟨jts,rw',p',hsz'⟩:=I.tuple hqb
  obtain⟨ux,hux,rux⟩:=rv.get hx
  obtain⟨uy,huy,ruy⟩:=rw'.get hy
  have D:ZipApart z TI TO i1 i2 a b:=by
   obtain⟨oa,ea,ca,_,_⟩:=p
   obtain⟨ob,eb,cb,_,_⟩:=p'
   obtain⟨o1,e1,c1,_⟩:=h1
   obtain⟨o2,e2,c2,_⟩:=h2
   have dz:∀ {c:Addr}{o:Obj}{T:String},s.heap.get? c=some o->o.cls=.type T->T ≠ "zip" -> c≠z:=fun e q n r=>by
    rw[r,hz] at e; cases e; cases q; exact n rfl
   have dT:∀ {c d:Addr}{o q:Obj}{T U:String},s.heap.get? c=some o->o.cls=.type T->s.heap.get? d=some q->q.cls=.type U->T≠U->c≠d:=fun e1 c1 e2 c2 n r=>by
    subst r; rw[e1] at e2; cases e2; rw[c1] at c2; cases c2; exact n rfl
   exact⟨dz hTI rfl (by decide),dz hTO rfl (by decide),dz e1 c1 (by decide),dz e2 c2 (by decide),n1,dT hTI rfl e1 c1 (by decide),dT hTI rfl e2 c2 (by decide),dT hTO rfl e1 c1 (by decide),dT hTO rfl e2 c2 (by decide),n2,
    dz ea ca (by decide),jf I (hf TO (by simp)) hqa,dT ea ca e1 c1 (by decide),dT ea ca e2 c2 (by decide),dz eb cb (by decide),jf I (hf TO (by simp)) hqb,dT eb cb e1 c1 (by decide),dT eb cb e2 c2 (by decide)⟩
  refine dJ D hz hTI hTO h1 h2 (show s.heap.IsTuple a its.toArray from p) (show s.heap.IsTuple b jts.toArray from p') (x:=ux) (y:=uy) (by simpa using hux) (by simpa using huy) fun h' a1 a2 a3 a4 a5 a6 hk=>?_
  refine⟨_,O,?_⟩
  refine wpAny_letOwnedTupleGo_zip (s:={ s with heap:=h' }) a1 fun h2' hz' hs'=>?_
  have lt:∀ b ∈ [z,TI,TO,i1,i2],b<s.heap.objs.size:=fun c hcm=>by
   simp only[sD,sN,or_false] at hcm
   rcases hcm with rfl | rfl | rfl | rfl | rfl
   ·exact Heap.lt_size hz
   ·exact Heap.lt_size hTI
   ·exact Heap.lt_size hTO
   ·obtain⟨o,e,_⟩:=h1; exact Heap.lt_size e
   ·obtain⟨o,e,_⟩:=h2; exact Heap.lt_size e
  have hTI2:IsPair h2' TI (.ref i1) (.ref i2):=hs'.extBut _ _ D.TIz (hk _ _ D.TIz D.TITO D.TIi1 D.TIi2 hTI)
  have hTO2:IsPair h2' TO ux uy:=hs'.extBut _ _ D.TOz a2
  have h12:h2'.IsTupleIter i1 a (i+1):=a3.extBut hs'.extBut D.i1z
  have h22:h2'.IsTupleIter i2 b (i+1):=a4.extBut hs'.extBut D.i2z
  have pz:s.heap.objs.size≠z:=Nat.ne_of_gt (Heap.lt_size hz)
  have hp2:IsPair h2' s.heap.objs.size ux uy:=hs'.extBut _ _ pz a5
  have kk:∀ c o,c ∉ [z,TI,TO,i1,i2]->s.heap.get? c=some o->h2'.get? c=some o:=fun c o hcm e=>by
   simp only[sD,sN,or_false,not_or] at hcm
   exact hs'.extBut _ _ hcm.1 (hk c o hcm.1 hcm.2.2.1 hcm.2.2.2.1 hcm.2.2.2.2 e)
  have I1:Inv X pins σ H { s with heap:=h2',toks:=s.toks }:=I.turnedL kk hf
  have fP:cI X pins H s.heap.objs.size:=I.fpOk (Nat.le_refl _) (I.hok.fresh (Nat.le_refl _))
  have I2:Inv X pins σ (upd H s.heap.objs.size (.tup [x,y])) { s with heap:=h2',toks:=s.toks }:=by
   refine I1.track I.sz (fP.2.1) fP.2.2.2.2.1 fP.2.2.2.2.2 fP.1 ?_
   exact⟨(show 2<=sizeLine by decide),[ux,uy],.cons rux (.cons ruy .nil),⟨_,hp2,O,_,O⟩⟩
  refine⟨.ref s.heap.objs.size,_,I2,O,⟨_,x,y,O,fP.1,O,fun zs hzs=>by rw[I.tuple_inj hzs hqa]; exact hx,fun zs hzs=>by rw[I.tuple_inj hzs hqb]; exact hy⟩,⟨hz',hTI2,⟨_,_,hTO2⟩,h12,h22,n1,n2⟩,fun c hcm=>?_⟩
  rw[aA (Nat.ne_of_lt (lt c hcm))]
  exact(hf c hcm).1
 done:=by
  intro X hP hw hK hc i pins s σ H E I hf ⟨hz,hTI,⟨u,v,hTO⟩,h1,h2,n1,n2⟩ hg
  subst hP hw hK
  obtain⟨xs,ys,hqa,hqb,hend⟩:=hg
  obtain⟨its,rv,p,hsz⟩:=I.tuple hqa
  obtain⟨jts,rw',p',hsz'⟩:=I.tuple hqb
  have D:ZipApart z TI TO i1 i2 a b:=by
   obtain⟨oa,ea,ca,_,_⟩:=p
   obtain⟨ob,eb,cb,_,_⟩:=p'
   obtain⟨o1,e1,c1,_⟩:=h1
   obtain⟨o2,e2,c2,_⟩:=h2
   have dz:∀ {c:Addr}{o:Obj}{T:String},s.heap.get? c=some o->o.cls=.type T->T ≠ "zip" -> c≠z:=fun e q n r=>by
    rw[r,hz] at e; cases e; cases q; exact n rfl
   have dT:∀ {c d:Addr}{o q:Obj}{T U:String},s.heap.get? c=some o->o.cls=.type T->s.heap.get? d=some q->q.cls=.type U->T≠U->c≠d:=fun e1 c1 e2 c2 n r=>by
    subst r; rw[e1] at e2; cases e2; rw[c1] at c2; cases c2; exact n rfl
   exact⟨dz hTI rfl (by decide),dz hTO rfl (by decide),dz e1 c1 (by decide),dz e2 c2 (by decide),n1,dT hTI rfl e1 c1 (by decide),dT hTI rfl e2 c2 (by decide),dT hTO rfl e1 c1 (by decide),dT hTO rfl e2 c2 (by decide),n2,
    dz ea ca (by decide),jf I (hf TO (by simp)) hqa,dT ea ca e1 c1 (by decide),dT ea ca e2 c2 (by decide),dz eb cb (by decide),jf I (hf TO (by simp)) hqb,dT eb cb e1 c1 (by decide),dT eb cb e2 c2 (by decide)⟩
  have e1:=rv.length
  have e2:=rw'.length
  refine dY (I.ok.hd hc) D hz hTI hTO h1 h2 (show s.heap.IsTuple a its.toArray from p) (show s.heap.IsTuple b jts.toArray from p') (k1:=i) (k2:=i) (by
   rcases hend with h | h
   ·left; simp; omega
   ·right; simp; omega) fun h' hk=>⟨O,?_⟩
  exact I.turnedL (t':=s.toks) (fun c o hcm e=>by
   simp only[sD,sN,or_false,not_or] at hcm
   exact hk c o hcm.1 hcm.2.2.1 hcm.2.2.2.1 hcm.2.2.2.2 e) hf
 self:=fun _ _ _ _ _ st h=>wpAny_pyIter_zip st.1 h
section
variable {X:Cx}
noncomputable def iZipT (K:PySem.W.Frag) (ta:TA):TI:=fun σ H R=>ta σ H fun vs H1=>∃ a b,vs=[.ref a,.ref b]/\(∃ xs,SqT K H1 a xs)/\(∃ ys,SqT K H1 b ys)/\R (mj K a b) H1
theorem kY {es:List Expr} {x1} {tpos:Pos}{e1 e2:Expr}{ta:TA}{p pos:Pos} (hg:Gl X "zip") (hm:X.mg "zip" = none) (ha:PA X [e1,e2] ta) (hs:starEach [e1,e2] X.env=[(false,eval e1 X.env),(false,eval e2 X.env)]:=by rfl) (hs2:starEach [e2] X.env=[(false,eval e2 X.env)]:=by rfl) :
  PI X (.Tuple es x1 tpos) (.Call (.Name "zip" p) [e1,e2] [] pos) (iZipT X.K ta):=by
 intro pins s σ H R I h
 refine Call_ (cS I hg hm (by rfl) (PyProof.Rows.callWith_type1 (thn (ha pos pins s σ H _ I h) fun us s1 ⟨vs,H1,I1,r1,q1⟩=>?_) (by rw[hs,hs2]) (by rw[hs2]; rfl)))
 obtain⟨a,b,rfl,⟨xs,hqa⟩,⟨ys,hqb⟩,q⟩:=q1
 obtain⟨u1,u2,rfl,ru1,ru2⟩:=kC r1
 cases (show u1=Value.ref a from ru1)
 cases (show u2=Value.ref b from ru2)
 obtain⟨its,rv,pa,hsz⟩:=I1.tuple hqa
 obtain⟨jts,rw',pb,hsz'⟩:=I1.tuple hqb
 refine kj (show s1.heap.IsTuple a its.toArray from pa) (show s1.heap.IsTuple b jts.toArray from pb) fun h' hz hTI hTO h1 h2 hsize hk=>?_
 refine wpAny_pyIter_zip (s:={ s1 with heap:=h' }) hz ?_
 refine⟨_,_,_,_,H1,U,I1.kept (t':=s1.toks) hk,jG a b (s1.heap.objs.size+4) (s1.heap.objs.size+2) (s1.heap.objs.size+3) s1.heap.objs.size (s1.heap.objs.size+1),⟨hz,hTI,⟨_,_,hTO⟩,h1,h2,(fun z=>by have:s1.heap.objs.size+2=s1.heap.objs.size+3:=z; omega),(fun z=>by have:s1.heap.objs.size=s1.heap.objs.size+1:=z; omega)⟩,fun c hc=>?_,q⟩
 have hge:s1.heap.objs.size<=c:=by
  simp only[sD,sN,or_false] at hc
  rcases hc with h | h | h | h | h <;> (rw[h]; omega)
 exact I1.fpOk hge (I1.hok.fresh hge)
end
noncomputable def je:List Value->List Str->Bool
 | [],[]=>true
 | .str x _::vs,y::ys=>(x == y) && je vs ys
 | _,_=>false
noncomputable def eJ (get:Addr->Option Obj) (ss:List Str) (v:Value):Bool :=
 match v with
 | .ref b=>(match get b with
  | some o=>(o.cls == .type "tuple") && (match o.data with | .seq its _=>je its.toList ss | _=>false)
  | none=>false)
 | _=>false
noncomputable abbrev qA (K:PySem.W.Frag) (a:Addr) (D:List (Str×List Str)):Prop:=KTD.tabLook (eJ fun b=>K.lookup b) (fun b=>K.lookup b) a D=true
theorem dO:∀ {vs:List Value}{ss:List Str},je vs ss=true->KTD.Flats vs (ss.map PyData.str)
 | [],[],_=>.nil
 | .str x t::vs,y::ys,h=>by
  have h:((x == y) && je vs ys)=true:=h
  rw[Bool.and_eq_true] at h
  have e:x=y:=by simpa using h.1
  subst e
  exact .cons (.str x t) (dO h.2)
theorem fJ:∀ {vs:List Value}{ss:List Str},KTD.Flats vs (ss.map PyData.str)->Vals (ss.map V.str) vs
 | _,[],h=>by cases h; exact .nil
 | _,y::ys,h=>by
  cases h with
  | cons f r=>exact .cons (PyProof.V.Flat.str_inv f) (fJ r)
theorem gm:∀ {vs:List Value}{ds:List PyData},KTD.Flats vs ds->vs.length=ds.length
 | _,_,.nil=>rfl
 | _,_,.cons _ r=>by rw[sG,sG,gm r]
section
variable {X:Cx}{pins:List (Addr×Obj)}{σ:St}{H:Hp}{s:Shared}
noncomputable def fj (K:PySem.W.Frag) (h:Heap):Heap:=PySem.W.hideAll h ((List.range h.objs.size).filter fun b=>(K.lookup b).isNone)
theorem f9 (kin:∀ a o,X.K.lookup a=some o->s.heap.get? a=some o) {a:Addr}{o:Obj} (h:X.K.lookup a=some o):(fj X.K s.heap).get? a=some o :=
 PySem.W.hideAll_get _ (kin a o h) fun hm=>by
  have:=(List.mem_filter.mp hm).2
  rw[h] at this; cases this
theorem lc {a:Addr}{o:Obj} (kin:∀ a o,X.K.lookup a=some o->s.heap.get? a=some o) (h:(fj X.K s.heap).get? a=some o):X.K.lookup a=some o:=by
 have h1:s.heap.get? a=some o:=PySem.W.of_hideAll _ h
 cases hk:X.K.lookup a with
 | some o'=>rw[kin a o' hk] at h1; exact h1
 | none=>
  have:(fj X.K s.heap).get? a=none:=PySem.W.hideAll_none _ (List.mem_filter.mpr ⟨sU.mpr (Heap.lt_size h1),by rw[hk]; rfl⟩)
  rw[h] at this; cases this
theorem lD (kin:∀ a o,X.K.lookup a=some o->s.heap.get? a=some o) (ss:List Str) (v:Value) (h:eJ (fun b=>X.K.lookup b) ss v=true):KTD.Dat.At (fj X.K s.heap) (.tup (ss.map PyData.str)) v:=by
 unfold eJ at h
 split at h
 ·rename_i b
  split at h
  ·rename_i o ho
   rw[Bool.and_eq_true] at h
   obtain⟨h1,h2⟩:=h
   split at h2
   ·rename_i its n hd
    exact⟨b,its.toList,U,⟨o,f9 kin ho,by simpa using h1,n,by simpa using hd⟩,dO h2⟩
   ·cases h2
  ·cases h
 ·cases h
theorem jJ (I:Inv X pins σ H s) {a:Addr}{D:List (Str×List Str)} (T:qA X.K a D):KTD.Here (fj X.K s.heap) s.heap a (D.map fun p=>(p.1,KTD.Dat.tup (p.2.map PyData.str))):=by
 have kin:∀ a o,X.K.lookup a=some o->s.heap.get? a=some o:=fun b o e=>I.kIn b o e
 obtain⟨h1,o,es,ep,h2,h3,h4,h5⟩:=KTD.tab_of_look (h:=fj X.K s.heap) (R:=fun(d:List Str) v=>KTD.Dat.At (fj X.K s.heap) (.tup (d.map PyData.str)) v) (fun d v h=>lD kin d v h) (fun b o e=>f9 kin e) T
 exact⟨⟨h1,o,es,ep,h2,h3,h4,h5.mono (f:=fun d:List Str=>KTD.Dat.tup (d.map PyData.str)) (fun d v h=>h)⟩,fun b o e=>PySem.W.of_hideAll _ e⟩
theorem gs (k : Str) : ∀ D : List (Str×List Str), KTD.datumAt k (D.map fun p=>(p.1, KTD.Dat.tup (p.2.map PyData.str)))=(D.lookup k).map fun ss=>KTD.Dat.tup (ss.map PyData.str)
  | []=>rfl
  | (x, d) :: D => by
    rw[sH, KTD.datumAt, sP, gs k D]
    by_cases hk : k=x
    · subst hk; simp
    · have : (k == x)=false := beq_eq_false_iff_ne.mpr hk
      simp[hk, this]
noncomputable def tIxT (td ty:TE) (K:PySem.W.Frag):TE:=fun σ H Q=>td σ H fun x H1=>ty σ H1 fun y H2=>∃ k a D ss,x=V.ref a/\y=V.str k/\qA K a D/\D.lookup k=some ss/\ss.length<=1000/\∀ b,(∀ H3,SqT K H3 b (ss.map V.str))->Q (.ref b) H2
theorem pP {o i:Expr}{pos:Pos}{td ty:TE} (ho:PE X o td) (hi:PE X i ty) (hs:qC i):PE X (.Subscript o i pos) (tIxT td ty X.K):=by
 intro pins s σ H Q I h
 refine jd PySem.F.slot_dict_getitem.lookup hs (thn (ho pins s σ H _ I h) fun u s1 ⟨x,H1,I1,rx,q1⟩=>thn (hi pins s1 σ H1 _ I1 q1) fun iv s2 ⟨y,H2,I2,ry,k,a,D,ss,ex,ey,T,l,sb,q2⟩=>?_)
 subst ex ey
 obtain rfl:u=Value.ref a:=rx
 obtain⟨t,rfl⟩:=(show ∃ t,iv=Value.str k t from ry)
 have hT:=jJ I2 T
 refine⟨hT.typeIs,?_⟩
 have hat:KTD.datumAt k (D.map fun p=>(p.1,KTD.Dat.tup (p.2.map PyData.str)))=some (KTD.Dat.tup (ss.map PyData.str)):=by rw[gs,l]; rfl
 have hmem:KTD.inKeys k (D.map fun p=>(p.1,KTD.Dat.tup (p.2.map PyData.str)))=true:=by rw[<- KTD.isSome_datumAt,hat]; rfl
 unfold getItem
 try with_reducible refine wpAny_holding ?_
 refine wpAny_bind (wpAny_sequenceKey hT.typeIs (by decide) ?_)
 refine wpAny_bind (wpAny_callSpecial?_slot (name:=Str.ofString "__getitem__") hT.typeIs slot_dict_getitem
  (wpAny_call_entry slot_dict_getitem hT.typeIs entry_dict_getitem ?_ (args_dict_getitem _ _)))
 show wpAny _ _ (dictGet a (.str k t) >>= _) _ _ s2
 refine wpAny_bind (KTD.dictGet_text hT (fun d v ha hv=>wpAny_pure ⟨v,U,wpAny_pure ?_⟩) fun hn=>absurd hn (KTD.at_of_mem hmem))
 rw[hat] at ha
 cases ha
 obtain⟨b,vs,rfl,⟨ob,e1,e2,n,e3⟩,fl⟩:=hv
 have lv:vs.length=ss.length:=by have:=gm fl; rw[su] at this; exact this
 exact⟨.ref b,H2,I2.tok _,U,q2 b fun _=>(.inr ⟨ob,vs.toArray,n,lc (fun b o e=>I2.kIn b o e) e1,e2,e3,by rw[sI,lv]; exact Nat.le_of_lt (sizeOk (by omega)),by simpa using fJ fl⟩)⟩
theorem lL {K:PySem.W.Frag}{a b:Addr}{xs ys:List V}{g:TG}{tb:TS}{D:Ends}{σ:St}{H:Hp} (hl:xs.length=ys.length) (Pv:Nat->St->Hp->Prop) (h0:Pv 0 σ H) (ha:∀ i σ H,i<=xs.length->Pv i σ H->SqT K H a xs/\SqT K H b ys)
  (hs:∀ i x y σ H p,xs[i]?=some x->ys[i]?=some y->Pv i σ H->H p=none->g (.ref p) σ (upd H p (.tup [x,y])) fun σ2 H2=>tb { D with nx:=Pv (i+1),ct:=Pv (i+1),bk:=D.nx } σ2 H2) (hd:∀ σ H,Pv xs.length σ H->D.nx σ H) :
  ∃ W:Nat->Nat->St->Hp->Prop,(∃ m,W 0 m σ H)/\∀ i m σ H,W i m σ H ->
   ((mj K a b).stop i H/\D.nx σ H)∨((mj K a b).go i H/\∃ N:St->Hp->Prop,(∀ σ' H',N σ' H'->∃ m',m'<m/\W (i+1) m' σ' H')/\∀ x H',(mj K a b).yld i H x H'->g x σ H' fun σ2 H2=>tb { D with nx:=N,ct:=N,bk:=D.nx } σ2 H2):=by
 refine⟨fun i m σ H=>m=xs.length - i/\i<=xs.length/\Pv i σ H,⟨_,U,Nat.zero_le _,h0⟩,?_⟩
 rintro i m σ H ⟨rfl,hi,hp⟩
 obtain⟨qa,qb⟩:=ha i σ H hi hp
 by_cases c:i<xs.length
 ·refine .inr ⟨⟨xs,xs[i],ys,ys[i]'(by omega),qa,sq c,qb,sq (by omega)⟩,Pv (i+1),fun σ' H' h'=>⟨_,by omega,U,by omega,h'⟩,?_⟩
  rintro v H' ⟨p,x,y,rfl,hpn,rfl,hx,hy⟩
  exact hs i x y σ H p (hx _ qa) (hy _ qb) hp hpn
 ·have e:i=xs.length:=by omega
  subst e
  exact .inl ⟨⟨xs,ys,qa,qb,.inl (Nat.le_refl _)⟩,hd σ H hp⟩
end
mutual
noncomputable def DV (K:PySem.W.Frag) (H:Hp):PyData->V->Prop
 | .none,v=>v=.non
 | .bool b,v=>v=.bl b
 | .int i,v=>v=.int i
 | .str x,v=>v=.str x
 | .list ds,v=>∃ (a:Addr) (xs:List V),v=.ref a/\SqL K H a xs/\DVs K H ds xs
 | .tuple ds,v=>∃ (a:Addr) (xs:List V),v=.ref a/\SqT K H a xs/\DVs K H ds xs
 | .dict _,_=>False
noncomputable def DVs (K:PySem.W.Frag) (H:Hp):List PyData->List V->Prop
 | [],xs=>xs=[]
 | d::ds,xs=>∃ v r,xs=v::r/\DV K H d v/\DVs K H ds r
end
noncomputable def CXr (P:Program) (w:World):CXT:=fun outer H s E e s'=>∃ (a:Addr) (C a0:Value) (H':Hp) (B:Heap),e=.ref a/\Heap.FlyingW B outer a C a0 s'.heap/\s'.os=s.os/\AllBare s'.gens/\Un (frs outer) [] H H' s.heap s'.heap /\
 (∀ b o,s.heap.get? b=some o->H b=none->b ∉ frs outer->B.get? b=some o)/\(∀ b o,s.heap.get? b=some o->b ∉ frs outer->∃ o',B.get? b=some o')/\HOk P w H' B/\E C (some a) H'
noncomputable abbrev TJ:=Str->St->Hp->VK->Prop
end L2
namespace L2
open PySem PySem.Spec PyProof.Rows PySem.Calls
noncomputable def ExcAt (x D:Addr) (h:Heap):Prop:=∃ o vs,h.get? x=some o/\o.cls=.ref D/\o.data=.fields vs
structure ExcCls (K:PySem.W.Frag) (D:Addr):Prop where
 ga:W.findIn K (.ref D) "__getattribute__" = some (some (.builtin "BaseException.__getattribute__"))
 gh:W.findIn K (.ref D) "__getattr__" = some none
 be:PySem.W.mroIn K D (.type "BaseException")=some true
 hd:W.hasDictIn K D=true
 at_:W.findIn K (.ref D) "__class__" = some (some (.builtin "object.__class__"))
 gt:PySem.W.specialIn K (.builtin "object.__class__") "__get__" = some (some (.builtin "getset_descriptor.__get__"))
 tk:PySem.W.takesIn K (.builtin "object.__class__")=some true
 ob:PySem.W.mroIn K D (.type "object")=some true
section
variable {K:PySem.W.Frag}{x D:Addr}
open PySem.W Builtin Builtin.ObjectAttr in
open PySem.W Builtin Builtin.ObjectAttr Builtin.Getset_descriptor in
open PySem.W Builtin Builtin.ObjectAttr in
open PySem.W Builtin Builtin.ObjectAttr in
open PySem.W Builtin Builtin.ObjectAttr in
end
end L2
namespace L2
open PySem PySem.Spec PyProof.Rows
structure Flt (P:Program) (w:World) (outer:List Env) (H:Hp) (s:Shared) (H':Hp) (B h:Heap):Prop where
 stays:B.StaysIn h
 frames:h.FunFrames B outer
 slot:∀ b o,s.heap.get? b=some o->H b=none->b ∈ frs outer->∃ sl,h.get? b=some { o with slots:=sl }
 free:∀ b o,s.heap.get? b=some o->H b=none->H' b=none
 tups:∀ b xs,H b=some (.tup xs)->H' b=some (.tup xs)
 frzs:∀ b o u,H b=some (.frz o u)->H' b=some (.frz o u)
 tbls:∀ b ps,H b=some (.tbl ps)->∃ more,H' b=some (.tbl (ps++more))
 kb:∀ b o,s.heap.get? b=some o->H b=none->b ∉ frs outer->B.get? b=some o
 tb:∀ b o,s.heap.get? b=some o->b ∉ frs outer->∃ o',B.get? b=some o'
 hok:HOk P w H' B
noncomputable abbrev Cx.marked (X:Cx) (e:Addr):Cx:={ X with A:=X.A.mark (some (.ref e)),calm:=false,xe:=fun _ _=>False }
structure RoomQ (k:Nat) (A:Around):Prop where
 dp:A.depth+3*k+5<recursionLimit
 un:A.units+16*k+200<cLine
structure FnOkQ (P:Program) (w:World) (K:PySem.W.Frag) (mg:Str->Option Value) (base:Heap) (k:Nat) (f:Addr) (fd:FuncData) (ps:List Str) (sp:Sp):Prop where
 len:∀ vs H Q E,sp vs H Q E->vs.length=ps.length
 run:∀ (A:Around) (outer:List Env) (s:Shared) (H:Hp) (args:Args) (us:List Value) (vs:List V) (Q:VK) (E:XK),RoomQ k A->Env0 P w K mg base A outer s H->BindsTo s fd args (ps.zip us)->Vals vs us->sp vs H Q E ->
  codeAny (model P w) A (.call (.ref f) args) (CR CX0 outer P w H s Q E) s
structure Deed (P:Program) (w:World) (K:PySem.W.Frag) (mg:Str->Option Value) (base:Heap) (k:Nat) (s:Shared) (H:Hp) (outer:List Env) (g:Addr) (sp:Hp->VK->XK->Prop):Prop where
 fn:PySem.W.FnAt g s.heap
 un:H g=none
 nf:g ∉ frs outer
 run:∀ (A':Around) (outer':List Env) (s':Shared) (H':Hp) (Q:VK) (E:XK),Room k A'->Env0 P w K mg base A' outer' s' H' ->
  (∀ b o,s.heap.get? b=some o->H b=none->b ∉ frs outer->s'.heap.get? b=some o/\H' b=none)->(∀ b o u,H b=some (.frz o u)->H' b=some (.frz o u))->sp H' Q E->codeAny (model P w) A' (.call (.ref g) ⟨[],[]⟩) (CR (CXr P w) outer' P w H' s' Q E) s'
structure LamAt (h:Heap) (H:Hp) (fs:List Addr) (N:List Str) (σ:St) (qual:Str) (params:Arguments) (body:Expr) (scope:Scope) (cl:List (Str×Addr)) (g c':Addr):Prop where
 fn:∃ pm ctv,h.get? g=some (PySem.W.kla_obj "<lambda>" qual params body scope cl pm c' ctv)
 gn:H g=none/\g ∉ fs
 code:∃ o vs t,H c'=some (.frz o (.own 0))/\o.data=.fields vs/\vs[1]?=some (.str qual t)
 cells:∀ x c,cl.lookup x=some c->(∃ v,h.IsCell c v)/\H c=none/\c ∉ fs
 vals:∀ (i:Nat) (x:Str) (v:V),N[i]?=some x->σ[i]?=some (some v)->∃ u c,RelV v u/\cl.lookup x=some c/\h.IsCell c (some u)
structure RefOk (P:Program) (w:World) (K:PySem.W.Frag) (mg:Str->Option Value) (base:Heap) (k kd:Nat) (f:Addr) (rs:(Hp->VK->XK->Prop)->Hp->VK->Prop):Prop where
 run:∀ (A:Around) (outer:List Env) (s:Shared) (H:Hp) (g:Addr) (spD:Hp->VK->XK->Prop) (Q:VK),Room k A->Env0 P w K mg base A outer s H->Deed P w K mg base kd s H outer g spD->rs spD H Q ->
  codeAny (model P w) A (.call (.ref f) ⟨[.ref g],[]⟩) (CR CX0 outer P w H s Q E0) s
noncomputable def jF (i:Int):Prop:=i.natAbs.log2<1920
noncomputable def Asc (n:Nat) (y:Str):Prop:=y.length<=n/\∀ c ∈ y.cps.toList,c<128
structure Tb (L:Kn) (Pt:Addr) (qual:Str):Prop where
 ex:∃ ps:Array Value,(Pt,HO.tbl ps) ∈ L/\TriplesOk ps.toList/\∀ pos,codeAmong pos ps.toList=none∨∃ (c':Addr) (oc:Obj) (vs:Array Value) (t:Tok),codeAmong pos ps.toList=some (.ref c')/\(c',HO.frz oc (.own 0)) ∈ L/\oc.data=.fields vs/\vs[1]?=some (.str qual t)
noncomputable def SqB (b:Bool) (K:PySem.W.Frag) (H:Hp) (a:Addr) (xs:List V):Prop:=match b with | true=>SqL K H a xs | false=>SqT K H a xs
noncomputable def ItB (b:Bool) (K:PySem.W.Frag) (a:Addr):It:=match b with | true=>Itl K a | false=>Itt K a
noncomputable def nT (n:Int):Str:=Str.ofString (toString n)
end L2
namespace L2
open PySem PySem.Spec PyProof.Rows
section
variable {X:Cx}{pins:List (Addr×Obj)}{σ:St}{H:Hp}{s:Shared}
theorem Inv.thaw {p:Addr}{ob:Obj}{u:HO} (I:Inv X pins σ H s) (e:H p=some (.frz ob u)) (hn:∀ o v,X.H₀ p≠some (.frz o v)) (hu:∀ xs,u≠.tup xs):Inv X pins σ (upd H p u) s:=by
 obtain⟨_,ok⟩:=(show s.heap.get? p=some ob/\ObjOk X.prog X.w H s.heap p u from I.hok p _ e)
 have np:∀ b,H b=none->b≠p:=fun b q z=>by rw[z,e] at q; cases q
 refine⟨I.ok,I.os,I.bare,⟨I.base.keep,I.base.slot,fun b ob e2 n hx=>?_,I.base.there,fun b xs e2=>?_,fun b ob2 u2 e2=>?_,fun b ps e2=>?_⟩,I.loc,I.cell,by rw[aA (fun z=>np _ I.free z)]; exact I.free,fun x c q=>by rw[aA (np c (I.freeC x c q))]; exact I.freeC x c q,fun q hq=>?_,fun b u2 e2=>?_,I.len⟩
 ·have:=I.base.free b ob e2 n hx
  rw[aA (np b this)]; exact this
 ·have:=I.base.tups b xs e2
  rw[aA (fun z=>by rw[z,e] at this; cases this)]; exact this
 ·have:=I.base.frzs b ob2 u2 e2
  rw[aA (fun z=>by rw[z] at e2; exact hn _ _ e2)]; exact this
 ·obtain⟨more,e3⟩:=I.base.tbls b ps e2
  exact⟨more,by rw[aA (fun z=>by rw[z,e] at e3; cases e3)]; exact e3⟩
 ·obtain⟨a1,a2,a3,a4,a5⟩:=I.pin q hq
  exact⟨a1,by rw[aA (np _ a2)]; exact a2,a3,a4,a5⟩
 ·have own:∀ c y,H c=some (.own y)->upd H p u c=some (.own y):=fun c y q=>by rw[aA (fun z=>by rw[z,e] at q; cases q)]; exact q
  have tup:∀ c xs,H c=some (.tup xs)->upd H p u c=some (.tup xs):=fun c xs q=>by rw[aA (fun z=>by rw[z,e] at q; cases q)]; exact q
  by_cases hb:b=p
  ·subst hb; rw[bx] at e2; cases e2
   exact ok.stay (fun _ _ _ q=>q) (fun c q=>own c _ q) fun c xs q=>tup c xs q
  ·rw[aA hb] at e2
   exact(I.hok b u2 e2).stay (fun _ _ _ q=>q) (fun c q=>own c _ q) fun c xs q=>tup c xs q
theorem Inv.unfrz {p:Addr}{u:HO} (I:Inv X pins σ H s) (e:H p=some u) (hu:∀ o v,u≠.frz o v):∀ o v,X.H₀ p≠some (.frz o v):=fun o v q=>by
 have:=I.base.frzs p o v q
 rw[e] at this
 cases this
 exact hu o v rfl
end
theorem fK:entryFor table "dict_itemiterator.__iter__" = some Builtin.«dict_keyiterator.__iter__» :=
 entryFor_alias (id' := "dict_keyiterator.__iter__") (by kernel_rfl) rfl (by decide +kernel) (by kernel_rfl)
end L2
set_option maxHeartbeats 4000000
namespace P
open PySem L2
noncomputable def top (i:Nat):Stmt:=PySem.Challenge.pw_lazyrails_k43_calls_come_back.main.body.getD i (.Pass ⟨0,0,0,0⟩)
noncomputable abbrev nU:Stmt:=top 72
noncomputable abbrev jk:Stmt:=top 65
noncomputable abbrev qM:Stmt:=top 70
noncomputable abbrev ig:Stmt:=top 54
noncomputable abbrev om:Stmt:=top 55
noncomputable abbrev qL:Stmt:=top 58
noncomputable abbrev nV:Stmt:=top 23
noncomputable abbrev ji:Stmt:=top 21
noncomputable abbrev qU:Stmt:=top 59
noncomputable abbrev n9:Stmt:=top 22
noncomputable abbrev nZ:Stmt:=top 56
noncomputable abbrev oj:Stmt:=top 57
noncomputable abbrev jh:Stmt:=top 24
noncomputable abbrev nW:Stmt:=top 48
noncomputable abbrev nR:Stmt:=top 63
noncomputable abbrev qK:Stmt:=top 61
noncomputable abbrev nY:Stmt:=top 35
noncomputable abbrev qJ:Stmt:=top 32
noncomputable abbrev nX:Stmt:=top 30
noncomputable abbrev oi:Stmt:=top 31
noncomputable abbrev qR:Stmt:=top 33
noncomputable abbrev rm:Stmt:=top 36
noncomputable abbrev kO:Stmt:=top 69
noncomputable abbrev qG:Stmt:=top 67
noncomputable abbrev jg:Stmt:=top 66
noncomputable abbrev gL:Stmt:=top 71
noncomputable abbrev kN:Stmt:=top 62
noncomputable abbrev qT:Stmt:=top 43
noncomputable abbrev qQ:Stmt:=top 34
noncomputable abbrev qP:Stmt:=top 41
noncomputable abbrev rk:Stmt:=top 42
noncomputable abbrev qI:Stmt:=top 45
noncomputable abbrev rj:Stmt:=top 44
noncomputable abbrev qH:Stmt:=aK (top 52) 0
noncomputable abbrev pD:Stmt:=aK (top 46) 0
noncomputable abbrev rJ:Stmt:=aK (top 46) 6
noncomputable abbrev qX:Stmt:=aK (top 46) 3
noncomputable abbrev rG:Stmt:=aK (top 46) 7
noncomputable abbrev rF:Stmt:=aK (top 46) 8
noncomputable abbrev rH:Stmt:=aK (top 46) 9
noncomputable abbrev mH:Stmt:=aK (top 53) 0
noncomputable abbrev oB:Stmt:=aK (top 50) 0
noncomputable abbrev qO:Stmt:=aK (top 50) 20
noncomputable abbrev rh:Stmt:=aK (top 52) 2
noncomputable abbrev qS:Stmt:=aK (top 50) 19
noncomputable abbrev oh:Stmt:=aK (top 50) 7
noncomputable abbrev rE:Stmt:=aK (top 50) 25
noncomputable abbrev rD:Stmt:=aK (top 50) 23
noncomputable abbrev rB:Stmt:=aK (top 50) 22
noncomputable abbrev qW:Stmt:=aK (top 50) 2
noncomputable abbrev oA:Stmt:=aK (top 52) 1
noncomputable abbrev q5:Stmt:=aK (top 46) 1
noncomputable abbrev rA:Stmt:=aK (top 46) 2
noncomputable abbrev og:Stmt:=aK (top 50) 1
noncomputable abbrev rp:Stmt:=aK (top 50) 24
noncomputable abbrev qV:Stmt:=aK (top 46) 4
noncomputable abbrev oz:Stmt:=aK (top 50) 4
noncomputable abbrev ox:Stmt:=aK (top 53) 1
noncomputable abbrev qZ:Stmt:=aK (top 52) 4
noncomputable abbrev qY:Stmt:=aK (top 52) 3
noncomputable abbrev qN:Stmt:=aK (top 50) 9
noncomputable abbrev ou:Stmt:=aK (top 50) 14
noncomputable abbrev or:Stmt:=aK (top 50) 18
noncomputable abbrev oq:Stmt:=aK (top 50) 17
noncomputable abbrev oe:Stmt:=aK (top 50) 16
set_option genInjectivity false in
set_option genSizeOf false in
structure Adr where
 f_law:Addr
 d_law:FuncData
 v_law:Value
 f_draws:Addr
 d_draws:FuncData
 f_Jt:Addr
 d_Jt:FuncData
 f_Jd1:Addr
 d_Jd1:FuncData
 f_J71:Addr
 d_J71:FuncData
 f_Ju:Addr
 d_Ju:FuncData
 f_fan:Addr
 d_fan:FuncData
 f_merge:Addr
 d_merge:FuncData
 f_Jl:Addr
 d_Jl:FuncData
 f_Je1:Addr
 d_Je1:FuncData
 f_Jf1:Addr
 d_Jf1:FuncData
 f_J81:Addr
 d_J81:FuncData
 f_tally:Addr
 d_tally:FuncData
 f_Ji1:Addr
 d_Ji1:FuncData
 f_run:Addr
 d_run:FuncData
 f_Jv:Addr
 d_Jv:FuncData
 f_Jg1:Addr
 d_Jg1:FuncData
 f_Jw:Addr
 d_Jw:FuncData
 f_Jh1:Addr
 d_Jh1:FuncData
 f_J91:Addr
 d_J91:FuncData
 f_Jo:Addr
 d_Jo:FuncData
 f_Ja:Addr
 d_Ja:FuncData
 f_Jj1:Addr
 d_Jj1:FuncData
 f_is:Addr
 d_is:FuncData
 f_whole:Addr
 d_whole:FuncData
 f_notes:Addr
 d_notes:FuncData
 f_held:Addr
 d_held:FuncData
 f_Jm:Addr
 d_Jm:FuncData
 f_Jp:Addr
 d_Jp:FuncData
 f_Jq:Addr
 d_Jq:FuncData
 f_Jb:Addr
 d_Jb:FuncData
 f_Jx:Addr
 d_Jx:FuncData
 f_Jc:Addr
 d_Jc:FuncData
 f_Jy:Addr
 d_Jy:FuncData
 f_Jh:Addr
 d_Jh:FuncData
 f_J0:Addr
 d_J0:FuncData
 f_Ji:Addr
 d_Ji:FuncData
 f_J2:Addr
 d_J2:FuncData
 f_J3:Addr
 d_J3:FuncData
 f_J1:Addr
 d_J1:FuncData
 f_Jz:Addr
 d_Jz:FuncData
 f_J01:Addr
 d_J01:FuncData
 f_Jr:Addr
 d_Jr:FuncData
 f_Jd:Addr
 d_Jd:FuncData
 f_Jn:Addr
 d_Jn:FuncData
 f_Ja1:Addr
 d_Ja1:FuncData
 f_J5:Addr
 d_J5:FuncData
 f_J6:Addr
 d_J6:FuncData
 f_J7:Addr
 d_J7:FuncData
 f_Jj:Addr
 d_Jj:FuncData
 v_Jj:Value
 f_J11:Addr
 d_J11:FuncData
 f_Je:Addr
 d_Je:FuncData
 f_J8:Addr
 d_J8:FuncData
 f_Jb1:Addr
 d_Jb1:FuncData
 v_Jb1:Value
 f_J9:Addr
 d_J9:FuncData
 f_Jk:Addr
 d_Jk:FuncData
 f_J21:Addr
 d_J21:FuncData
 f_J31:Addr
 d_J31:FuncData
 f_Jf:Addr
 d_Jf:FuncData
 f_Jg:Addr
 d_Jg:FuncData
 f_Js:Addr
 d_Js:FuncData
 f_J41:Addr
 d_J41:FuncData
 f_J51:Addr
 d_J51:FuncData
 f_J61:Addr
 d_J61:FuncData
 f_Jc1:Addr
 d_Jc1:FuncData
 c_Laid:Addr
 c_Program:Addr
 c_Ways:Addr
 c_Yard:Addr
 u_ENDS:Value
 u_LAST_NOTE:Value
 u_LAST_WORDS:Value
 u_PARTS:Value
 u_POINTS:Value
 u_STEM:Value
 u_WIDEST:Value
structure Txt (K:PySem.W.Frag) (mg:Str->Option Value) (t:Adr):Prop where
 F_law:FunG K "law" "law" nU t.v_law t.f_law t.d_law
 F_draws:FunG K "_law_draws" "_law_draws" jk .none t.f_draws t.d_draws
 F_Jt:FunG K "_law_stretches" "_law_stretches" qM .none t.f_Jt t.d_Jt
 F_Jd1:FunG K "lay_out" "lay_out" ig .none t.f_Jd1 t.d_Jd1
 F_J71:FunG K "lay_ways" "lay_ways" om .none t.f_J71 t.d_J71
 F_Ju:FunG K "lay_calls" "lay_calls" qL .none t.f_Ju t.d_Ju
 F_fan:FunG K "fan" "fan" nV .none t.f_fan t.d_fan
 F_merge:FunG K "merge" "merge" ji .none t.f_merge t.d_merge
 F_Jl:FunG K "lay_doorway" "lay_doorway" qU .none t.f_Jl t.d_Jl
 F_Je1:FunG K "doorway" "doorway" n9 .none t.f_Je1 t.d_Je1
 F_Jf1:FunG K "lay_row" "lay_row" nZ .none t.f_Jf1 t.d_Jf1
 F_J81:FunG K "lay_deed" "lay_deed" oj .none t.f_J81 t.d_J81
 F_tally:FunG K "tally" "tally" jh .none t.f_tally t.d_tally
 F_Ji1:FunG K "onward" "onward" nW .none t.f_Ji1 t.d_Ji1
 F_run:FunG K "run" "run" nR .none t.f_run t.d_run
 F_Jv:FunG K "next_step" "next_step" qK .none t.f_Jv t.d_Jv
 F_Jg1:FunG K "passage" "passage" nY .none t.f_Jg1 t.d_Jg1
 F_Jw:FunG K "check_end" "check_end" qJ .none t.f_Jw t.d_Jw
 F_Jh1:FunG K "ends_of" "ends_of" nX .none t.f_Jh1 t.d_Jh1
 F_J91:FunG K "is_point" "is_point" oi .none t.f_J91 t.d_J91
 F_Jo:FunG K "check_side" "check_side" qR .none t.f_Jo t.d_Jo
 F_Ja:FunG K "point_passage" "point_passage" rm .none t.f_Ja t.d_Ja
 F_Jj1:FunG K "_law_is_row" "_law_is_row" kO .none t.f_Jj1 t.d_Jj1
 F_is:FunG K "_law_is" "_law_is" qG .none t.f_is t.d_is
 F_whole:FunG K "_law_whole" "_law_whole" jg .none t.f_whole t.d_whole
 F_notes:FunG K "_law_notes" "_law_notes" gL .none t.f_notes t.d_notes
 F_held:FunG K "held" "held" kN .none t.f_held t.d_held
 F_Jm:FunG K "check_width" "check_width" qT .none t.f_Jm t.d_Jm
 F_Jp:FunG K "check_note" "check_note" qQ .none t.f_Jp t.d_Jp
 F_Jq:FunG K "check_mark" "check_mark" qP .none t.f_Jq t.d_Jq
 F_Jb:FunG K "check_counter" "check_counter" rk .none t.f_Jb t.d_Jb
 F_Jx:FunG K "check_row" "check_row" qI .none t.f_Jx t.d_Jx
 F_Jc:FunG K "check_stretch" "check_stretch" rj .none t.f_Jc t.d_Jc
 F_Jy:FunG K "__init__" "Laid.__init__" qH .none t.f_Jy t.d_Jy
 F_Jh:FunG K "__init__" "Program.__init__" pD .none t.f_Jh t.d_Jh
 F_J0:FunG K "check_beginning" "Program.check_beginning" rJ .none t.f_J0 t.d_J0
 F_Ji:FunG K "many" "Program.many" qX .none t.f_Ji t.d_Ji
 F_J2:FunG K "check_rows" "Program.check_rows" rG .none t.f_J2 t.d_J2
 F_J3:FunG K "check_part" "Program.check_part" rF .none t.f_J3 t.d_J3
 F_J1:FunG K "check_called" "Program.check_called" rH .none t.f_J1 t.d_J1
 F_Jz:FunG K "__init__" "Ways.__init__" mH .none t.f_Jz t.d_Jz
 F_J01:FunG K "__init__" "Yard.__init__" oB .none t.f_J01 t.d_J01
 F_Jr:FunG K "bells" "Yard.bells" qO .none t.f_Jr t.d_Jr
 F_Jd:FunG K "row_here" "Laid.row_here" rh .none t.f_Jd t.d_Jd
 F_Jn:FunG K "engine" "Yard.engine" qS .none t.f_Jn t.d_Jn
 F_Ja1:FunG K "put" "Yard.put" oh .none t.f_Ja1 t.d_Ja1
 F_J5:FunG K "check_there" "Yard.check_there" rE .none t.f_J5 t.d_J5
 F_J6:FunG K "check_piece" "Yard.check_piece" rD .none t.f_J6 t.d_J6
 F_J7:FunG K "end_trail" "Yard.end_trail" rB .none t.f_J7 t.d_J7
 F_Jj:FunG K "new_rod" "Yard.new_rod" qW t.v_Jj t.f_Jj t.d_Jj
 F_J11:FunG K "door" "Laid.door" oA .none t.f_J11 t.d_J11
 F_Je:FunG K "marks" "Program.marks" q5 .none t.f_Je t.d_Je
 F_J8:FunG K "widths" "Program.widths" rA .none t.f_J8 t.d_J8
 F_Jb1:FunG K "lay" "Yard.lay" og t.v_Jb1 t.f_Jb1 t.d_Jb1
 F_J9:FunG K "check_rod" "Yard.check_rod" rp .none t.f_J9 t.d_J9
 F_Jk:FunG K "rows" "Program.rows" qV .none t.f_Jk t.d_Jk
 F_J21:FunG K "link" "Yard.link" oz .none t.f_J21 t.d_J21
 F_J31:FunG K "lead" "Ways.lead" ox .none t.f_J31 t.d_J31
 F_Jf:FunG K "bit_rods" "Laid.bit_rods" qZ .none t.f_Jf t.d_Jf
 F_Jg:FunG K "mark_rod" "Laid.mark_rod" qY .none t.f_Jg t.d_Jg
 F_Js:FunG K "carry" "Yard.carry" qN .none t.f_Js t.d_Js
 F_J41:FunG K "kind" "Yard.kind" ou .none t.f_J41 t.d_J41
 F_J51:FunG K "mate" "Yard.mate" or .none t.f_J51 t.d_J51
 F_J61:FunG K "side" "Yard.side" oq .none t.f_J61 t.d_J61
 F_Jc1:FunG K "rod" "Yard.rod" oe .none t.f_Jc1 t.d_Jc1
 m_law:mg "law" = some (.ref t.f_law)
 e_law:t.v_law=.none
 m_draws:mg "_law_draws" = some (.ref t.f_draws)
 m_Jt:mg "_law_stretches" = some (.ref t.f_Jt)
 m_Jd1:mg "lay_out" = some (.ref t.f_Jd1)
 m_J71:mg "lay_ways" = some (.ref t.f_J71)
 m_Ju:mg "lay_calls" = some (.ref t.f_Ju)
 m_fan:mg "fan" = some (.ref t.f_fan)
 m_merge:mg "merge" = some (.ref t.f_merge)
 m_Jl:mg "lay_doorway" = some (.ref t.f_Jl)
 m_Je1:mg "doorway" = some (.ref t.f_Je1)
 m_Jf1:mg "lay_row" = some (.ref t.f_Jf1)
 m_J81:mg "lay_deed" = some (.ref t.f_J81)
 m_tally:mg "tally" = some (.ref t.f_tally)
 m_Ji1:mg "onward" = some (.ref t.f_Ji1)
 m_run:mg "run" = some (.ref t.f_run)
 m_Jv:mg "next_step" = some (.ref t.f_Jv)
 m_Jg1:mg "passage" = some (.ref t.f_Jg1)
 m_Jw:mg "check_end" = some (.ref t.f_Jw)
 m_Jh1:mg "ends_of" = some (.ref t.f_Jh1)
 m_J91:mg "is_point" = some (.ref t.f_J91)
 m_Jo:mg "check_side" = some (.ref t.f_Jo)
 m_Ja:mg "point_passage" = some (.ref t.f_Ja)
 m_Jj1:mg "_law_is_row" = some (.ref t.f_Jj1)
 m_is:mg "_law_is" = some (.ref t.f_is)
 m_whole:mg "_law_whole" = some (.ref t.f_whole)
 m_notes:mg "_law_notes" = some (.ref t.f_notes)
 m_held:mg "held" = some (.ref t.f_held)
 m_Jm:mg "check_width" = some (.ref t.f_Jm)
 m_Jp:mg "check_note" = some (.ref t.f_Jp)
 m_Jq:mg "check_mark" = some (.ref t.f_Jq)
 m_Jb:mg "check_counter" = some (.ref t.f_Jb)
 m_Jx:mg "check_row" = some (.ref t.f_Jx)
 m_Jc:mg "check_stretch" = some (.ref t.f_Jc)
 M_J0:Meth K t.c_Program "check_beginning" t.f_J0
 M_Ji:Meth K t.c_Program "many" t.f_Ji
 M_J2:Meth K t.c_Program "check_rows" t.f_J2
 M_J3:Meth K t.c_Program "check_part" t.f_J3
 M_J1:Meth K t.c_Program "check_called" t.f_J1
 M_Jr:Meth K t.c_Yard "bells" t.f_Jr
 M_Jd:Meth K t.c_Laid "row_here" t.f_Jd
 M_Jn:Meth K t.c_Yard "engine" t.f_Jn
 M_Ja1:Meth K t.c_Yard "put" t.f_Ja1
 M_J5:Meth K t.c_Yard "check_there" t.f_J5
 M_J6:Meth K t.c_Yard "check_piece" t.f_J6
 M_J7:Meth K t.c_Yard "end_trail" t.f_J7
 M_Jj:Meth K t.c_Yard "new_rod" t.f_Jj
 D_Jj:∃ (T:Addr) (od:Option Addr) (n:Nat) (sl:Array (Option Value)) (tk0:Tok),t.v_Jj=.ref T/\K.lookup T=some ⟨.type "tuple",od,.seq #[.int 1 tk0] n,sl⟩
 M_J11:Meth K t.c_Laid "door" t.f_J11
 M_Je:Meth K t.c_Program "marks" t.f_Je
 M_J8:Meth K t.c_Program "widths" t.f_J8
 M_Jb1:Meth K t.c_Yard "lay" t.f_Jb1
 D_Jb1:∃ (T:Addr) (od:Option Addr) (n:Nat) (sl:Array (Option Value)) (tk0:Tok),t.v_Jb1=.ref T/\K.lookup T=some ⟨.type "tuple",od,.seq #[.int 0 tk0,.none] n,sl⟩
 M_J9:Meth K t.c_Yard "check_rod" t.f_J9
 M_Jk:Meth K t.c_Program "rows" t.f_Jk
 M_J21:Meth K t.c_Yard "link" t.f_J21
 M_J31:Meth K t.c_Ways "lead" t.f_J31
 M_Jf:Meth K t.c_Laid "bit_rods" t.f_Jf
 M_Jg:Meth K t.c_Laid "mark_rod" t.f_Jg
 M_Js:Meth K t.c_Yard "carry" t.f_Js
 M_J41:Meth K t.c_Yard "kind" t.f_J41
 M_J51:Meth K t.c_Yard "mate" t.f_J51
 M_J61:Meth K t.c_Yard "side" t.f_J61
 M_Jc1:Meth K t.c_Yard "rod" t.f_Jc1
 cl_Laid:Cls K t.c_Laid
 m_Laid:mg "Laid" = some (.ref t.c_Laid)
 mk_Laid:Mk K t.c_Laid t.f_Jy
 n_Laid_yard:NoAttr K t.c_Laid "yard"
 n_Laid_doors:NoAttr K t.c_Laid "doors"
 n_Laid_mark_rods:NoAttr K t.c_Laid "mark_rods"
 n_Laid_counter_rods:NoAttr K t.c_Laid "counter_rods"
 n_Laid_rows_at:NoAttr K t.c_Laid "rows_at"
 cl_Program:Cls K t.c_Program
 m_Program:mg "Program" = some (.ref t.c_Program)
 mk_Program:Mk K t.c_Program t.f_Jh
 n_Program_mark_sides:NoAttr K t.c_Program "mark_sides"
 n_Program_counter_widths:NoAttr K t.c_Program "counter_widths"
 n_Program_Jt:NoAttr K t.c_Program "stretches"
 cl_Ways:Cls K t.c_Ways
 m_Ways:mg "Ways" = some (.ref t.c_Ways)
 mk_Ways:Mk K t.c_Ways t.f_Jz
 n_Ways_to_doors:NoAttr K t.c_Ways "to_doors"
 n_Ways_to_Jt:NoAttr K t.c_Ways "to_stretches"
 n_Ways_to_callers:NoAttr K t.c_Ways "to_callers"
 cl_Yard:Cls K t.c_Yard
 m_Yard:mg "Yard" = some (.ref t.c_Yard)
 mk_Yard:Mk K t.c_Yard t.f_J01
 n_Yard_next_piece:NoAttr K t.c_Yard "next_piece"
 n_Yard_kinds:NoAttr K t.c_Yard "kinds"
 n_Yard_notes:NoAttr K t.c_Yard "notes"
 n_Yard_rods_under:NoAttr K t.c_Yard "rods_under"
 n_Yard_sides:NoAttr K t.c_Yard "sides"
 n_Yard_mates:NoAttr K t.c_Yard "mates"
 n_Jn_end:NoAttr K t.c_Yard "engine_end"
 n_Yard_rung:NoAttr K t.c_Yard "rung"
 n_Yard_trail:NoAttr K t.c_Yard "trail"
 z_abs:mg "abs" = none
 z_all:mg "all" = none
 z_bool:mg "bool" = none
 z_enumerate:mg "enumerate" = none
 z_int:mg "int" = none
 z_isinstance:mg "isinstance" = none
 z_len:mg "len" = none
 z_list:mg "list" = none
 z_range:mg "range" = none
 z_zip:mg "zip" = none
 g_ENDS:mg "ENDS" = some t.u_ENDS
 x_ENDS:∃ a,t.u_ENDS=.ref a/\nF K a [("line",.int 2),("bell",.int 2),("stop",.int 1),("still",.int 3),("lazy",.int 3),("turning",.int 3)]
 g_LAST_NOTE:mg "LAST_NOTE" = some t.u_LAST_NOTE
 r_LAST_NOTE:RelV (.int 9999) t.u_LAST_NOTE
 g_LAST_WORDS:mg "LAST_WORDS" = some t.u_LAST_WORDS
 x_LAST_WORDS:∃ (a:Addr) (o:Obj) (its:Array Value) (n:Nat),t.u_LAST_WORDS=.ref a/\K.lookup a=some o/\o.cls=.type "tuple" /\ o.data=.seq its n/\its.size<=sizeLine/\Vals [.str "ask",.str "go",.str "end"] its.toList
 g_PARTS:mg "PARTS" = some t.u_PARTS
 x_PARTS:∃ a,t.u_PARTS=.ref a/\qA K a [("bell",["note"]),("set",["mark","side"]),("ask",["mark","row","row"]),("bump",["counter","row"]),("go",["row"]),("call",["stretch"]),("end",[])]
 g_POINTS:mg "POINTS" = some t.u_POINTS
 x_POINTS:∃ (a:Addr) (o:Obj) (its:Array Value) (n:Nat),t.u_POINTS=.ref a/\K.lookup a=some o/\o.cls=.type "tuple" /\ o.data=.seq its n/\its.size<=sizeLine/\Vals [.str "still",.str "lazy",.str "turning"] its.toList
 g_STEM:mg "STEM" = some t.u_STEM
 r_STEM:RelV (.int 0) t.u_STEM
 g_WIDEST:mg "WIDEST" = some t.u_WIDEST
 r_WIDEST:RelV (.int 8) t.u_WIDEST
variable{fd:FuncData}{dV:Value}{st:Stmt}
section
variable {K:PySem.W.Frag}{mg:Str->Option Value}{t:Adr}
theorem lS_ {us:List Value}{n:Nat} (h:us.length=n+1):∃ a t,us=a::t/\t.length=n:=by
 cases us with
 | nil=>cases h
 | cons a t=>exact⟨a,t,rfl,Nat.succ.inj h⟩
theorem l0_ {us:List Value} (h:us.length=0):us=[]:=List.eq_nil_of_length_eq_zero h
theorem bi1 {x q:Str}{f:Addr}{a0:Str} (F:FunG K x q st dV f fd) (e:dV=.none:=by rfl) (h:∀ (kV doc pm:Value) (an:Option Addr) (cdv ct u0:Value),bindArgs (W.fnOf x q (bH st) (bC st) (aj st) .none kV doc pm an cdv ct) ⟨[u0],[]⟩=pure [(a0,u0)]:=by intros; rfl):Binds K fd [a0] []:=by
 subst e
 refine F.binds fun kV doc pm an cdv ct us hl=>?_
 obtain⟨u0,w0,rfl,g0⟩:=lS_ hl
 cases l0_ g0
 exact h kV doc pm an cdv ct u0
theorem bi2 {x q:Str}{f:Addr}{a0 a1:Str} (F:FunG K x q st dV f fd) (e:dV=.none:=by rfl) (h:∀ (kV doc pm:Value) (an:Option Addr) (cdv ct u0 u1:Value),bindArgs (W.fnOf x q (bH st) (bC st) (aj st) .none kV doc pm an cdv ct) ⟨[u0,u1],[]⟩=pure [(a0,u0),(a1,u1)]:=by intros; rfl):Binds K fd [a0,a1] []:=by
 subst e
 refine F.binds fun kV doc pm an cdv ct us hl=>?_
 obtain⟨u0,w0,rfl,g0⟩:=lS_ hl
 obtain⟨u1,w1,rfl,g1⟩:=lS_ g0
 cases l0_ g1
 exact h kV doc pm an cdv ct u0 u1
theorem bi3 {x q:Str}{f:Addr}{a0 a1 a2:Str} (F:FunG K x q st dV f fd) (e:dV=.none:=by rfl) (h:∀ (kV doc pm:Value) (an:Option Addr) (cdv ct u0 u1 u2:Value),bindArgs (W.fnOf x q (bH st) (bC st) (aj st) .none kV doc pm an cdv ct) ⟨[u0,u1,u2],[]⟩=pure [(a0,u0),(a1,u1),(a2,u2)]:=by intros; rfl):Binds K fd [a0,a1,a2] []:=by
 subst e
 refine F.binds fun kV doc pm an cdv ct us hl=>?_
 obtain⟨u0,w0,rfl,g0⟩:=lS_ hl
 obtain⟨u1,w1,rfl,g1⟩:=lS_ g0
 obtain⟨u2,w2,rfl,g2⟩:=lS_ g1
 cases l0_ g2
 exact h kV doc pm an cdv ct u0 u1 u2
theorem bi4 {x q:Str}{f:Addr}{a0 a1 a2 a3:Str} (F:FunG K x q st dV f fd) (e:dV=.none:=by rfl) (h:∀ (kV doc pm:Value) (an:Option Addr) (cdv ct u0 u1 u2 u3:Value),bindArgs (W.fnOf x q (bH st) (bC st) (aj st) .none kV doc pm an cdv ct) ⟨[u0,u1,u2,u3],[]⟩=pure [(a0,u0),(a1,u1),(a2,u2),(a3,u3)]:=by intros; rfl):Binds K fd [a0,a1,a2,a3] []:=by
 subst e
 refine F.binds fun kV doc pm an cdv ct us hl=>?_
 obtain⟨u0,w0,rfl,g0⟩:=lS_ hl
 obtain⟨u1,w1,rfl,g1⟩:=lS_ g0
 obtain⟨u2,w2,rfl,g2⟩:=lS_ g1
 obtain⟨u3,w3,rfl,g3⟩:=lS_ g2
 cases l0_ g3
 exact h kV doc pm an cdv ct u0 u1 u2 u3
theorem bi5 {x q:Str}{f:Addr}{a0 a1 a2 a3 a4:Str} (F:FunG K x q st dV f fd) (e:dV=.none:=by rfl) (h:∀ (kV doc pm:Value) (an:Option Addr) (cdv ct u0 u1 u2 u3 u4:Value),bindArgs (W.fnOf x q (bH st) (bC st) (aj st) .none kV doc pm an cdv ct) ⟨[u0,u1,u2,u3,u4],[]⟩=pure [(a0,u0),(a1,u1),(a2,u2),(a3,u3),(a4,u4)]:=by intros; rfl):Binds K fd [a0,a1,a2,a3,a4] []:=by
 subst e
 refine F.binds fun kV doc pm an cdv ct us hl=>?_
 obtain⟨u0,w0,rfl,g0⟩:=lS_ hl
 obtain⟨u1,w1,rfl,g1⟩:=lS_ g0
 obtain⟨u2,w2,rfl,g2⟩:=lS_ g1
 obtain⟨u3,w3,rfl,g3⟩:=lS_ g2
 obtain⟨u4,w4,rfl,g4⟩:=lS_ g3
 cases l0_ g4
 exact h kV doc pm an cdv ct u0 u1 u2 u3 u4
theorem nu (T:Txt K mg t):Binds K t.d_draws ["_law_script","_law_many"] []:=bi2 T.F_draws
theorem b_Jt (T:Txt K mg t):Binds K t.d_Jt ["_law_d","_law_many"] []:=bi2 T.F_Jt
theorem b_Jd1 (T:Txt K mg t):Binds K t.d_Jd1 ["program"] []:=bi1 T.F_Jd1
theorem b_J71 (T:Txt K mg t):Binds K t.d_J71 ["laid","program"] []:=bi2 T.F_J71
theorem b_Ju (T:Txt K mg t):Binds K t.d_Ju ["yard","ways","stretch"] []:=bi3 T.F_Ju
theorem b_fan (T:Txt K mg t):Binds K t.d_fan ["yard","many"] []:=bi2 T.F_fan
theorem hJ (T:Txt K mg t):Binds K t.d_merge ["yard","outs","end"] []:=bi3 T.F_merge
theorem rT (T:Txt K mg t):Binds K t.d_Jl ["yard","ways","end","place"] []:=bi4 T.F_Jl
theorem b_Je1 (T:Txt K mg t):Binds K t.d_Je1 ["yard"] []:=bi1 T.F_Je1
theorem b_Jf1 (T:Txt K mg t):Binds K t.d_Jf1 ["laid","ways","row","stretch","number"] []:=bi5 T.F_Jf1
theorem b_J81 (T:Txt K mg t):Binds K t.d_J81 ["laid","row","out"] []:=bi3 T.F_J81
theorem nj (T:Txt K mg t):Binds K t.d_tally ["yard","rods"] []:=bi2 T.F_tally
theorem b_Ji1 (T:Txt K mg t):Binds K t.d_Ji1 ["row","stretch","number"] []:=bi3 T.F_Ji1
theorem b_run (T:Txt K mg t):Binds K t.d_run ["yard","most"] []:=bi2 T.F_run
theorem rQ (T:Txt K mg t):Binds K t.d_Jv ["yard"] []:=bi1 T.F_Jv
theorem b_Jg1 (T:Txt K mg t):Binds K t.d_Jg1 ["kind","end","side"] []:=bi3 T.F_Jg1
theorem rP (T:Txt K mg t):Binds K t.d_Jw ["kind","end"] []:=bi2 T.F_Jw
theorem b_Jh1 (T:Txt K mg t):Binds K t.d_Jh1 ["kind"] []:=bi1 T.F_Jh1
theorem l0 (T:Txt K mg t):Binds K t.d_J91 ["kind"] []:=bi1 T.F_J91
theorem nw (T:Txt K mg t):Binds K t.d_Jo ["side"] []:=bi1 T.F_Jo
theorem b_Ja (T:Txt K mg t):Binds K t.d_Ja ["kind","end","side"] []:=bi3 T.F_Ja
theorem b_Jj1 (T:Txt K mg t):Binds K t.d_Jj1 ["_law_found","_law_due"] []:=bi2 T.F_Jj1
theorem b_is (T:Txt K mg t):Binds K t.d_is ["_law_found","_law_due"] []:=bi2 T.F_is
theorem ni (T:Txt K mg t):Binds K t.d_whole ["_law_found"] []:=bi1 T.F_whole
theorem nq (T:Txt K mg t):Binds K t.d_notes ["_law_parts"] []:=bi1 T.F_notes
theorem qw (T:Txt K mg t):Binds K t.d_held ["yard"] []:=bi1 T.F_held
theorem b_Jm (T:Txt K mg t):Binds K t.d_Jm ["width"] []:=bi1 T.F_Jm
theorem rR (T:Txt K mg t):Binds K t.d_Jp ["note"] []:=bi1 T.F_Jp
theorem b_Jq (T:Txt K mg t):Binds K t.d_Jq ["mark","many"] []:=bi2 T.F_Jq
theorem b_Jb (T:Txt K mg t):Binds K t.d_Jb ["counter","many"] []:=bi2 T.F_Jb
theorem rO (T:Txt K mg t):Binds K t.d_Jx ["row","many"] []:=bi2 T.F_Jx
theorem qx (T:Txt K mg t):Binds K t.d_Jc ["stretch","many"] []:=bi2 T.F_Jc
theorem b_Jy (T:Txt K mg t):Binds K t.d_Jy ["self","yard","doors","mark_rods","counter_rods"] []:=bi5 T.F_Jy
theorem b_Jh (T:Txt K mg t):Binds K t.d_Jh ["self","marks","widths","stretches"] []:=bi4 T.F_Jh
theorem b_J0 (T:Txt K mg t):Binds K t.d_J0 ["self"] []:=bi1 T.F_J0
theorem ja (T:Txt K mg t):Binds K t.d_Ji ["self"] []:=bi1 T.F_Ji
theorem b_J2 (T:Txt K mg t):Binds K t.d_J2 ["self","stretch"] []:=bi2 T.F_J2
theorem b_J3 (T:Txt K mg t):Binds K t.d_J3 ["self","part","number","stretch"] []:=bi4 T.F_J3
theorem b_J1 (T:Txt K mg t):Binds K t.d_J1 ["self","called","stretch"] []:=bi3 T.F_J1
theorem b_Jz (T:Txt K mg t):Binds K t.d_Jz ["self","many"] []:=bi2 T.F_Jz
theorem b_J01 (T:Txt K mg t):Binds K t.d_J01 ["self"] []:=bi1 T.F_J01
theorem b_Jr (T:Txt K mg t):Binds K t.d_Jr ["self"] []:=bi1 T.F_Jr
theorem b_Jd (T:Txt K mg t):Binds K t.d_Jd ["self"] []:=bi1 T.F_Jd
theorem rS (T:Txt K mg t):Binds K t.d_Jn ["self"] []:=bi1 T.F_Jn
theorem b_Ja1 (T:Txt K mg t):Binds K t.d_Ja1 ["self","end"] []:=bi2 T.F_Ja1
theorem nB (T:Txt K mg t):Binds K t.d_J5 ["self","end"] []:=bi2 T.F_J5
theorem qy (T:Txt K mg t):Binds K t.d_J6 ["self","piece"] []:=bi2 T.F_J6
theorem nA (T:Txt K mg t):Binds K t.d_J7 ["self"] []:=bi1 T.F_J7
theorem l3 (T:Txt K mg t):Binds K t.d_J11 ["self","stretch","row"] []:=bi3 T.F_J11
theorem b_Je (T:Txt K mg t):Binds K t.d_Je ["self"] []:=bi1 T.F_Je
theorem b_J8 (T:Txt K mg t):Binds K t.d_J8 ["self"] []:=bi1 T.F_J8
theorem rX (T:Txt K mg t):Binds K t.d_J9 ["self","rod"] []:=bi2 T.F_J9
theorem rV (T:Txt K mg t):Binds K t.d_Jk ["self","stretch"] []:=bi2 T.F_Jk
theorem cQ (T:Txt K mg t):Binds K t.d_J21 ["self","one","other"] []:=bi3 T.F_J21
theorem oW (T:Txt K mg t):Binds K t.d_J31 ["self","end","place"] []:=bi3 T.F_J31
theorem b_Jf (T:Txt K mg t):Binds K t.d_Jf ["self","counter"] []:=bi2 T.F_Jf
theorem rW (T:Txt K mg t):Binds K t.d_Jg ["self","mark"] []:=bi2 T.F_Jg
theorem b_Js (T:Txt K mg t):Binds K t.d_Js ["self","end","side"] []:=bi3 T.F_Js
theorem b_J41 (T:Txt K mg t):Binds K t.d_J41 ["self","piece"] []:=bi2 T.F_J41
theorem b_J51 (T:Txt K mg t):Binds K t.d_J51 ["self","end"] []:=bi2 T.F_J51
theorem b_J61 (T:Txt K mg t):Binds K t.d_J61 ["self","rod"] []:=bi2 T.F_J61
theorem b_Jc1 (T:Txt K mg t):Binds K t.d_Jc1 ["self","piece"] []:=bi2 T.F_Jc1
theorem nC (T:Txt K mg t):∃ ds:List Value,Vals [] ds/\Binds K t.d_Jj ["self","side"] ds:=by
 obtain⟨Td,od,n,sl,tk0,e1,e2⟩:=T.D_Jj
 obtain⟨oc,od2,kV,doc,pm,an,cdv,ct,osl,e3,lk,hcd⟩:=T.F_Jj.ex
 refine⟨[],.nil,fun s us X hl=>?_⟩
 have hl2:us.length=2:=by simpa using hl
 rw[e3,e1]
 obtain⟨u0,w0,rfl,g0⟩:=lS_ hl2
 obtain⟨u1,w1,rfl,g1⟩:=lS_ g0
 cases l0_ g1
 exact W.binds_K X rfl e2 rfl rfl rfl
theorem jD (T:Txt K mg t):∃ ds:List Value,Vals [.int 1] ds/\Binds K t.d_Jj ["self","side"] ds:=by
 obtain⟨Td,od,n,sl,tk0,e1,e2⟩:=T.D_Jj
 obtain⟨oc,od2,kV,doc,pm,an,cdv,ct,osl,e3,lk,hcd⟩:=T.F_Jj.ex
 refine⟨[.int 1 tk0],.cons ⟨_,U⟩ (.nil),fun s us X hl=>?_⟩
 have hl2:us.length=1:=by simpa using hl
 rw[e3,e1]
 obtain⟨u0,w0,rfl,g0⟩:=lS_ hl2
 cases l0_ g0
 exact W.binds_K X rfl e2 rfl rfl rfl
theorem l5 (T:Txt K mg t):∃ ds:List Value,Vals [.non] ds/\Binds K t.d_Jb1 ["self","kind","note","rod"] ds:=by
 obtain⟨Td,od,n,sl,tk0,e1,e2⟩:=T.D_Jb1
 obtain⟨oc,od2,kV,doc,pm,an,cdv,ct,osl,e3,lk,hcd⟩:=T.F_Jb1.ex
 refine⟨[.none],.cons rfl (.nil),fun s us X hl=>?_⟩
 have hl2:us.length=3:=by simpa using hl
 rw[e3,e1]
 obtain⟨u0,w0,rfl,g0⟩:=lS_ hl2
 obtain⟨u1,w1,rfl,g1⟩:=lS_ g0
 obtain⟨u2,w2,rfl,g2⟩:=lS_ g1
 cases l0_ g2
 exact W.binds_K X rfl e2 rfl rfl rfl
theorem cc (T:Txt K mg t):∃ ds:List Value,Vals [.int 0,.non] ds/\Binds K t.d_Jb1 ["self","kind","note","rod"] ds:=by
 obtain⟨Td,od,n,sl,tk0,e1,e2⟩:=T.D_Jb1
 obtain⟨oc,od2,kV,doc,pm,an,cdv,ct,osl,e3,lk,hcd⟩:=T.F_Jb1.ex
 refine⟨[.int 0 tk0,.none],.cons ⟨_,U⟩ (.cons rfl (.nil)),fun s us X hl=>?_⟩
 have hl2:us.length=2:=by simpa using hl
 rw[e3,e1]
 obtain⟨u0,w0,rfl,g0⟩:=lS_ hl2
 obtain⟨u1,w1,rfl,g1⟩:=lS_ g0
 cases l0_ g1
 exact W.binds_K X rfl e2 rfl rfl rfl
noncomputable def du:List V->List V->List V:=fun us ws=>if us.length=2/\ws.length=1 then us++[.int 0]++ws++[] else []
theorem bJ (T:Txt K mg t):∃ g,KBinds K t.d_Jb1 ["self","kind","note","rod"] ["rod"] g du:=by
 obtain⟨Td,od,n,sl,tk0,e1,e2⟩:=T.D_Jb1
 obtain⟨oc,od2,kV,doc,pm,an,cdv,ct,osl,e3,lk,hcd⟩:=T.F_Jb1.ex
 refine⟨fun us ws=>if us.length=2/\ws.length=1 then us++[.int 0 tk0]++ws++[] else [],⟨fun s us ws X hl=>?_,fun {vs us zs ws} r rz=>?_⟩⟩
 ·by_cases hc:us.length=2/\ws.length=1
  ·rw[if_pos hc]
   rw[e3,e1]
   match us,ws,hc with
   | [_,_],[_],_=>exact W.binds_K X rfl e2 rfl rfl rfl
  ·rw[if_neg hc] at hl
   cases hl
 ·have e4:=r.length
  have e5:=rz.length
  unfold du
  by_cases hc:vs.length=2/\zs.length=1
  ·rw[if_pos hc,if_pos (by omega)]
   exact((r.append (show Vals [.int 0] [.int 0 tk0] from .cons ⟨_,U⟩ (.nil))).append rz).append (show Vals [] [] from .nil)
  ·rw[if_neg hc,if_neg (by omega)]
   exact .nil
end
noncomputable def Dr (ds:List Int):Prop:=∀ d ∈ ds,0<=d/\d<10 ^ 18
inductive sp_draws (K:PySem.W.Frag) (vs:List V) (H:Hp) (Q:VK) (E_:XK):Prop
 | mk (a:Addr) (ns:List Int) (n:Int) (L:Kn) (_:vs=[.ref a,.int n]) (_:SqL K H a (ns.map V.int)) (_:ns.length<=63) (_:0<=n) (_:n<=1000) (_:Has H L) (_:∀ H' p ds,Has H' ((p,.lst (ds.map V.int))::L)->ds.length=n.toNat->Dr ds->Q (.ref p) H'):sp_draws K vs H Q E_
section
variable {P:Program}{w:World}{K:PySem.W.Frag}{mg:Str->Option Value}{base:Heap}{t:Adr}
theorem scD:FnScope ["_law_script","_law_many","_law_row","_law_base","_law_cell","_law_left","_law_turn"] ["_law_script","_law_many"] (aj jk):={}
theorem Dr.snoc {ds:List Int}{d:Int} (h:Dr ds) (h0:0<=d) (h1:d<10 ^ 18):Dr (ds++[d]):=fun x hx=>by
 rcases sC.mp hx with hx | hx
 ·exact h x hx
 ·have:x=d:=by simpa using hx
  subst this; exact⟨h0,h1⟩
theorem fB (ds:List Int) (d:Int):ds.map V.int++[V.int d]=(ds++[d]).map V.int:=by simp
theorem ll (T:Txt K mg t):FnOk P w K mg base CX0 1 t.f_draws t.d_draws ["_law_script","_law_many"] (sp_draws K):=by
 refine T.F_draws.ok scD (fun vs H Q E h=>?_) (fun cdv A outer s H vs Q E hr h=>?_)
 ·obtain⟨_,_,_,_,rfl,_⟩:=h
  rfl
 ·obtain⟨a,ns,n,L,rfl,hS,hns,hn0,hn1,hL,k⟩:=h
  refine⟨_,(ae (aH (i:=2) scD.nd rfl (Or.inl rfl) (aU ah))
   (ae (aH (i:=3) scD.nd rfl (Or.inl rfl) am)
   (ae (bi PassesOwn.never rfl (bF (cx d0 (pv 0) dh (dg am))) (aq (i:=4) scD.nd rfl (Or.inl rfl))
    (ae (aH (i:=5) scD.nd rfl (Or.inl rfl) (aR lY (by rfl) T.z_abs (by rfl) (aa (pv 4) ah)))
     (ae (aH (i:=3) scD.nd rfl (Or.inl rfl) (aQ cf (aQ bA (aQ bA (aQ cz (pv 3) am) (pv 5)) (aQ cz am (bu kn (by rfl) T.z_int (by rfl) (aa (gT bO (pv 4) am (ar _)) ah)))) am))
     (ai (aI (ap bO (pv 5) (aQ pQ am am) (ar _))
      (ai (ao (bL PySem.F.plainAttrs_list PySem.F.slot_list_append PySem.F.type_list_append aV (pv 2) (aa (pv 5) ah))))
      (ai (bi PassesOwn.never rfl (bp (by rfl) T.z_range (aa am ah)) (aq (i:=6) scD.nd rfl (Or.inl rfl))
        (ai (aI (ap iu (pv 5) am (ar _))
          (ae (ao (bL PySem.F.plainAttrs_list PySem.F.slot_list_append PySem.F.type_list_append aV (pv 2) (aa (aQ cf (pv 5) am) ah)))
           (ai (aH (i:=5) scD.nd rfl (Or.inl rfl) (aQ jq (pv 5) am))))
          av)))))))))
   (ae (df PassesOwn.never (ap bO (aR aJ (by rfl) T.z_len (by rfl) (aa (pv 2) ah)) (pv 1) (ar _))
    (ae (aH (i:=3) scD.nd rfl (Or.inl rfl) (aQ cf (aQ bA (aQ cz (pv 3) am) am) am))
     (ai (ao (bL PySem.F.plainAttrs_list PySem.F.slot_list_append PySem.F.type_list_append aV (pv 2) (aa (aQ cf (aQ jq (aQ cz (pv 3) (pv 3)) am) am) ah))))))
   (ai (aB (cx d0 (pv 2) dh (dg (pv 1))))))))),?_⟩
  refine⟨by decide,fun r hr0=>?_⟩
  have h1:=hL.alloc hr0 (.lst [])
  have hS1:SqL K (upd H r (.lst [])) a (ns.map V.int):=hS.alloc hr0
  generalize upd H r (.lst [])=H1 at *
  refine⟨_,U,_,U,a,_,U,hS1,fun sl hsl=>?_⟩
  have h2:=h1.alloc hsl (.lst (bV (ns.map V.int) none (some 63)))
  generalize upd H1 sl (.lst (bV (ns.map V.int) none (some 63)))=H2 at *
  refine⟨sl,U,⟨_,SqL.of (h2.get 0 U)⟩,?_⟩
  refine cE (K:=K) (a:=sl) (xs:=bV (ns.map V.int) none (some 63)) (fun i σ H'=>∃ (row:List Int) (b:Int) (c l t:Option V),σ=[some (.ref a),some (.int n),some (.ref r),some (.int b),c,l,t] /\
   Has H' ((r,.lst (row.map V.int))::(sl,.lst (bV (ns.map V.int) none (some 63)))::L)/\row.length<=60*i/\Dr row/\0<=b/\b<2147483647)
   ⟨[],7,none,none,none,U,h2.swap2,Nat.zero_le _,(fun _ h=>nomatch h),by decide,by decide⟩ (fun i σ H' _ ⟨row,b,c,l,t,_,h,_⟩=>SqL.of (h.get 1 U)) ?_ ?_
  ·rintro i y σ H' hi ⟨row,b,c,l,t,rfl,h3,hlen,hd,b0,b1⟩
   have hi63:i<63:=by
    have h5:=(List.getElem?_eq_some_iff.mp hi).1
    rw[dy _ _ (by decide),sS,su] at h5
    omega
   obtain⟨z,rfl⟩:∃ z,y=V.int z:=by
    rw[dy _ _ (by decide),List.getElem?_take_of_lt (by omega),sx] at hi
    cases e:ns[i]? with
    | none=>rw[e] at hi; cases hi
    | some z=>rw[e] at hi; exact⟨z,(Option.some.inj hi).symm⟩
   refine⟨_,U,_,U,?_⟩
   have hab:0<=(if z<0 then -z else z):=by split <;> omega
   generalize (if z<0 then -z else z)=left at *
   refine⟨_,U,_,_,U,U,.inl ⟨by omega,by omega⟩,_,U,_,_,U,U,_,U,_,_,U,U,.inr ⟨_,U,_,_,U,U,.inl ⟨by decide,by decide⟩,_,_,U,U,_,_,U,U,(show(0:Int)<2147483647 by decide),?_⟩⟩
   have hb0:=Int.emod_nonneg (b*48271+left+2*(if decide (z<0)=true then 1 else 0)) (show(2147483647:Int)≠0 by decide)
   have hb1:=Int.emod_lt_of_pos (b*48271+left+2*(if decide (z<0)=true then 1 else 0)) (show(0:Int)<2147483647 by decide)
   refine⟨_,U,_,_,U,U,⟨by decide,by decide,by decide⟩,_,_,U,U,_,U,?_⟩
   refine iD (fun hc=>?_) (fun hc=>?_)
   ·have hc':left<10 ^ 18:=of_decide_eq_true hc
    refine⟨_,U,.inl ⟨U,_,SqL.of (h3.get 0 U)⟩,_,U,r,_,_,U,U,h3.get 0 U,?_,?_⟩
    ·rw[su]
     exact sizeOk (by omega)
    ·refine⟨row++[left],_,_,_,_,U,?_,?_,hd.snoc hab hc',hb0,hb1⟩
     ·rw[<- fB]
      exact h3.puti 0 U _
     ·rw[sA,sK]; omega
   ·-- for turn in range(60)
    refine⟨_,U,by decide,by decide,bw (n:=60) (fun j σ H2=>∃ (row2:List Int) (l2:Int) (t2:Option V) (b2:Int),0<=b2/\b2<2147483647/\σ=[some (.ref a),some (.int n),some (.ref r),some (.int b2),some (.int z),some (.int l2),t2] /\
     Has H2 ((r,.lst (row2.map V.int))::(sl,.lst (bV (ns.map V.int) none (some 63)))::L)/\row2.length<=row.length+j/\Dr row2/\0<=l2) ⟨row,_,_,_,hb0,hb1,U,h3,Nat.le_add_right _ _,hd,hab⟩ ?_ ?_⟩
    ·rintro j σ H2 hj ⟨row2,l2,t2,b2,hb20,hb21,rfl,h4,hlen2,hd2,hl2⟩
     refine⟨_,U,_,_,U,U,_,U,?_⟩
     refine iD (fun hc2=>?_) (fun hc2=>?_)
     ·refine⟨_,U,.inl ⟨U,_,SqL.of (h4.get 0 U)⟩,_,U,_,_,U,U,(show(0:Int)<10007 by decide),r,_,_,U,U,h4.get 0 U,?_,?_⟩
      ·rw[su]
       exact sizeOk (by omega)
      ·refine⟨_,U,_,_,U,U,⟨by decide,by decide⟩,?_⟩
       refine⟨row2++[l2 % 10007],_,_,_,hb20,hb21,U,?_,?_,hd2.snoc (Int.emod_nonneg _ (by decide)) (Int.lt_trans (Int.emod_lt_of_pos _ (by decide)) (by decide)),Int.ediv_nonneg hl2 (by decide)⟩
       ·rw[<- fB]
        exact h4.puti 0 U _
       ·rw[sA,sK]; omega
     ·exact⟨row2,l2,_,b2,hb20,hb21,U,h4,by omega,hd2,hl2⟩
    ·rintro σ H2 ⟨row2,l2,t2,b2,hb20,hb21,rfl,h4,hlen2,hd2,hl2⟩
     exact⟨row2,b2,_,_,_,U,h4,by omega,hd2,hb20,hb21⟩
  ·rintro σ H' ⟨row,b,c,l,t,rfl,h3,hlen,hd,b0,b1⟩
   have hlx:(bV (ns.map V.int) none (some 63)).length<=63:=by
    rw[dy _ _ (by decide),sS]; omega
   refine ku (fun σ H'=>∃ (row:List Int) (b:Int) (c l t:Option V),σ=[some (.ref a),some (.int n),some (.ref r),some (.int b),c,l,t]/\Has H' ((r,.lst (row.map V.int))::L)/\row.length<=4000/\Dr row/\0<=b/\b<2147483647)
    (fun σ H'=>match H' r with | some (.lst xs)=>n.toNat - xs.length | _=>0) ⟨row,b,c,l,t,U,h3.swap2.tail,by omega,hd,b0,b1⟩ ?_ ?_
   ·rintro σ H' ⟨row,b,c,l,t,rfl,h4,hlen,hd,b0,b1⟩
    refine⟨_,U,r,_,U,.inl (SqL.of (h4.get 0 U)),_,U,_,_,U,U,_,U,?_⟩
    rw[su]
    refine iD (fun hc=>?_) (fun hc=>?_)
    ·have hc':(row.length:Int)<n:=of_decide_eq_true hc
     refine⟨_,U,_,_,U,U,.inl ⟨by omega,by omega⟩,_,_,U,U,_,_,U,U,(show(0:Int)<2147483647 by decide),?_⟩
     have hb0:=Int.emod_nonneg (b*69621+12289) (show(2147483647:Int)≠0 by decide)
     have hb1:=Int.emod_lt_of_pos (b*69621+12289) (show(0:Int)<2147483647 by decide)
     refine⟨_,U,.inl ⟨U,_,SqL.of (h4.get 0 U)⟩,_,U,_,U,_,_,U,U,.inl ⟨?_,?_⟩,_,_,U,U,⟨by decide,by decide⟩,_,_,U,U,(show(0:Int)<10007 by decide),r,_,_,U,U,h4.get 0 U,?_,?_⟩
     ·show -(2 ^ 64)<(b*69621+12289) % 2147483647
      omega
     ·show(b*69621+12289) % 2147483647<2 ^ 64
      omega
     ·rw[su]
      exact sizeOk (by omega)
     ·have hq0:=Int.emod_nonneg ((b*69621+12289) % 2147483647*((b*69621+12289) % 2147483647) / 4099) (show(10007:Int)≠0 by decide)
      have hq1:=Int.emod_lt_of_pos ((b*69621+12289) % 2147483647*((b*69621+12289) % 2147483647) / 4099) (show(0:Int)<10007 by decide)
      refine⟨⟨row++[(b*69621+12289) % 2147483647*((b*69621+12289) % 2147483647) / 4099 % 10007],_,_,_,_,U,?_,?_,hd.snoc hq0 (Int.lt_trans hq1 (by decide)),hb0,hb1⟩,?_⟩
      ·rw[<- fB]
       exact h4.puti 0 U _
      ·rw[sA,sK]; omega
      ·have e1:H' r=some (.lst (row.map V.int)):=h4.get 0 rfl
       simp only[e1,bx,sA,su,sK]
       omega
    ·have hc':¬ (row.length:Int)<n:=fun z=>hc (decide_eq_true z)
     refine⟨_,U,_,U,_,U,r,_,U,SqL.of (h4.get 0 U),fun p hp=>?_⟩
     refine k _ p (row.take n.toNat) ?_ (by rw[sS]; omega) (fun d hd'=>hd d (List.mem_of_mem_take hd'))
     have h5:=(h4.tail).alloc hp (.lst (bV (row.map V.int) none (some n)))
     rw[dy _ _ hn0,<- List.map_take] at h5 ⊢
     exact h5
   ·rintro σ H' Q1 Q2 hQ ⟨v,e,p,ys,e2,h,w',e3,i,j,e4,e5,c,e6,q⟩
    exact⟨v,e,p,ys,e2,h,w',e3,i,j,e4,e5,c,e6,hQ _ _ q⟩
end
noncomputable def kK:Sp:=fun vs H Q _=>∃ i:Int,vs=[.int i]/\Q (.bl true) H
noncomputable def sp_is:Sp:=fun vs H Q _=>∃ i j:Int,vs=[.int i,.int j]/\Q (.bl (decide (i=j))) H
theorem qh (K:PySem.W.Frag):W.kitOne K (.type "int") (.type "int")=some true:=by kernel_rfl
theorem qi (K:PySem.W.Frag):W.kitOne K (.type "int") (.type "bool")=some false:=by kernel_rfl
theorem qg (K:PySem.W.Frag):W.kitOne K (.type "list") (.type "list")=some true:=by kernel_rfl
section
variable {P:Program}{w:World}{K:PySem.W.Frag}{mg:Str->Option Value}{base:Heap}{t:Adr}
theorem scWh:FnScope ["_law_found"] ["_law_found"] (aj jg):={}
theorem lg (T:Txt K mg t):FnOk P w K mg base CX0 1 t.f_whole t.d_whole ["_law_found"] kK:=by
 refine T.F_whole.ok scWh (fun vs H Q E h=>?_) (fun cdv A outer s H vs Q E hr h=>?_)
 ·obtain⟨_,rfl,_⟩:=h
  rfl
 ·obtain⟨i,rfl,k⟩:=h
  refine⟨_,(ai (aB (k8 (aR fQ (by rfl) T.z_isinstance (by rfl) (aa (pv 0) (aa (gU (v:=.ty "int") (by rfl) T.z_int (by rfl) rfl) ah))) (kZ (pO (aR fQ (by rfl) T.z_isinstance (by rfl) (aa (pv 0) (aa (gU (v:=.ty "bool") (by rfl) T.z_bool (by rfl) rfl) ah)))))))),?_⟩
  refine⟨_,U,_,_,_,_,U,.int i,qh K,_,U,fE ?_⟩
  exact⟨_,U,_,_,_,_,U,.int i,qi K,_,U,k⟩
theorem scIs:FnScope ["_law_found","_law_due"] ["_law_found","_law_due"] (aj qG):={}
theorem ok_is (T:Txt K mg t):FnOk P w K mg base CX0 2 t.f_is t.d_is ["_law_found","_law_due"] sp_is:=by
 refine T.F_is.ok scIs (fun vs H Q E h=>?_) (fun cdv A outer s H vs Q E hr h=>?_)
 ·obtain⟨_,_,rfl,_⟩:=h
  rfl
 ·obtain⟨i,j,rfl,k⟩:=h
  refine⟨_,(ai (aB (k8 (pcl (lg T) hr T.m_whole T.F_whole.kp (ni T) (aa (pv 0) ah)) (kZ (gT br (pv 0) (pv 1) (ar _)))))),?_⟩
  refine⟨_,U,i,U,_,U,fE ?_⟩
  refine⟨_,U,_,U,U,?_⟩
  have e:decide (V.int i=V.int j)=decide (i=j):=by by_cases h:i=j <;> simp[h]
  rw[e]
  exact k
end
inductive Kd where | line | bell | still | lazy | turning | stop
 deriving DecidableEq
noncomputable def Kd.str:Kd->Str
 | .line => "line" | .bell => "bell" | .still => "still" | .lazy => "lazy" | .turning => "turning" | .stop => "stop"
noncomputable def Kd.many:Kd->Int
 | .line=>2 | .bell=>2 | .still=>3 | .lazy=>3 | .turning=>3 | .stop=>1
noncomputable def Kd.point:Kd->Bool
 | .still=>true | .lazy=>true | .turning=>true | _=>false
noncomputable def endsD:List (Str×PyData):=[("line",.int 2),("bell",.int 2),("stop",.int 1),("still",.int 3),("lazy",.int 3),("turning",.int 3)]
theorem Kd.inEnds (k:Kd):(endsD.any fun p=>decide (k.str=p.1))=true:=by cases k <;> decide +kernel
theorem Kd.atEnds (k:Kd):endsD.lookup k.str=some (.int k.many):=by cases k <;> rfl
theorem ka:(endsD.all fun p=>match p.2 with | .int _=>true | _=>false)=true:=by decide +kernel
theorem Kd.inPoints (k:Kd):inV (.str k.str) [.str "still",.str "lazy",.str "turning"]=k.point:=by cases k <;> decide +kernel
theorem Kd.isStop (k:Kd):decide (V.str k.str=V.str "stop")=decide (k=.stop):=by cases k <;> decide +kernel
theorem Kd.isTurning (k:Kd):decide (V.str k.str=V.str "turning")=decide (k=.turning):=by cases k <;> decide +kernel
theorem Kd.isLazy (k:Kd):decide (V.str k.str=V.str "lazy")=decide (k=.lazy):=by cases k <;> decide +kernel
theorem Kd.isBell (k:Kd):decide (V.str k.str=V.str "bell")=decide (k=.bell):=by cases k <;> decide +kernel
noncomputable def Kd.out (k:Kd) (e s:Int):V:=if k=.stop then .non else if k.point then(if e=0 then .int s else .int 0) else .int (1 - e)
noncomputable def Kd.side (k:Kd) (e s:Int):Int:=if k.point then(if e=0 then(if k=.turning then 3 - s else s) else(if k=.lazy then e else s)) else s
noncomputable def py:Sp:=fun vs H Q _=>∃ k:Kd,vs=[.str k.str]/\Q (.int k.many) H
noncomputable def pA:Sp:=fun vs H Q _=>∃ k:Kd,vs=[.str k.str]/\Q (.bl k.point) H
inductive sp_Jw (vs:List V) (H:Hp) (Q:VK) (E_:XK):Prop
 | mk (k:Kd) (e:Int) (_:vs=[.str k.str,.int e]) (_:0<=e) (_:e<k.many) (_:Q .non H):sp_Jw vs H Q E_
inductive sp_Jo (vs:List V) (H:Hp) (Q:VK) (E_:XK):Prop
 | mk (s:Int) (_:vs=[.int s]) (_:(s=1∨s=2)) (_:Q .non H):sp_Jo vs H Q E_
inductive sp_Jg1 (vs:List V) (H:Hp) (Q:VK) (E_:XK):Prop
 | mk (k:Kd) (e s:Int) (v:V) (_:vs=[.str k.str,.int e,v]) (_:0<=e) (_:e<k.many) (_:(k.point=true->v=.int s/\(s=1∨s=2))) (_:∀ p,H p=none->Q (.ref p) (upd H p (.tup [k.out e s,if k.point then .int (k.side e s) else v]))):sp_Jg1 vs H Q E_
inductive sp_Ja (vs:List V) (H:Hp) (Q:VK) (E_:XK):Prop
 | mk (k:Kd) (e s:Int) (_:vs=[.str k.str,.int e,.int s]) (_:k.point=true) (_:∀ p,H p=none->Q (.ref p) (upd H p (.tup [k.out e s,.int (k.side e s)]))):sp_Ja vs H Q E_
section
variable {P:Program}{w:World}{K:PySem.W.Frag}{mg:Str->Option Value}{base:Heap}{t:Adr}
theorem hC (i j:Int):decide (V.int i=V.int j)=decide (i=j):=by by_cases h:i=j <;> simp[h]
theorem scEo:FnScope ["kind"] ["kind"] (aj nX):={}
theorem pX (T:Txt K mg t):FnOk P w K mg base CX0 1 t.f_Jh1 t.d_Jh1 ["kind"] py:=by
 refine T.F_Jh1.ok scEo (fun vs H Q E h=>?_) (fun cdv A outer s H vs Q E hr h=>?_)
 ·obtain⟨_,rfl,_⟩:=h
  rfl
 ·obtain⟨k,rfl,q⟩:=h
  obtain⟨aE,eE,hE⟩:=T.x_ENDS
  have T_r_ENDS:RelV (.ref aE) t.u_ENDS:=by rw[eE]; rfl
  refine⟨_,(ae (aI (ap f7 (pv 0) (bG (by rfl) T.g_ENDS T_r_ENDS) (by rfl))
    (ai aS)
    av)
   (ai (aB (aM ix_K (bG (by rfl) T.g_ENDS T_r_ENDS) (pv 0))))),?_⟩
  refine⟨_,U,_,aE,endsD,U,U,hE,_,U,?_⟩
  rw[k.inEnds]
  exact⟨_,U,_,aE,endsD,_,U,U,hE,k.atEnds,ka,q⟩
theorem scIp:FnScope ["kind"] ["kind"] (aj oi):={}
theorem iU (T:Txt K mg t):FnOk P w K mg base CX0 1 t.f_J91 t.d_J91 ["kind"] pA:=by
 refine T.F_J91.ok scIp (fun vs H Q E h=>?_) (fun cdv A outer s H vs Q E hr h=>?_)
 ·obtain⟨_,rfl,_⟩:=h
  rfl
 ·obtain⟨k,rfl,q⟩:=h
  obtain⟨aE,eE,hE⟩:=T.x_ENDS
  have T_r_ENDS:RelV (.ref aE) t.u_ENDS:=by rw[eE]; rfl
  obtain⟨aP,oP,its,n,eP,h1,h2,h3,h4,h5⟩:=T.x_POINTS
  have T_r_POINTS:RelV (.ref aP) t.u_POINTS:=by rw[eP]; rfl
  refine⟨_,(ae (aI (ap f7 (pv 0) (bG (by rfl) T.g_ENDS T_r_ENDS) (by rfl))
    (ai aS)
    av)
   (ai (aB (gT jR (pv 0) (bG (by rfl) T.g_POINTS T_r_POINTS) (by rfl))))),?_⟩
  refine⟨_,U,_,aE,endsD,U,U,hE,_,U,?_⟩
  rw[k.inEnds]
  refine⟨_,U,aP,_,U,.inr (.inr ⟨oP,its,n,h1,h2,h3,h4,h5⟩),U,by decide,?_⟩
  rw[if_neg Bool.false_ne_true,k.inPoints]
  exact q
theorem scCe:FnScope ["kind","end","many"] ["kind","end"] (aj qJ):={}
theorem oJ (T:Txt K mg t):FnOk P w K mg base CX0 2 t.f_Jw t.d_Jw ["kind","end"] sp_Jw:=by
 refine T.F_Jw.ok scCe (fun vs H Q E h=>?_) (fun cdv A outer s H vs Q E hr h=>?_)
 ·obtain⟨_,_,rfl,_⟩:=h
  rfl
 ·obtain⟨k,e,rfl,e0,e1,q⟩:=h
  refine⟨_,(ae (aH (i:=2) scCe.nd rfl (Or.inl rfl) (pcl (pX T) hr T.m_Jh1 T.F_Jh1.kp (b_Jh1 T) (aa (pv 0) ah)))
   (ai (aI (PW.pt (cP (ap bO (pv 1) am (ar _)) (bQ (ap f8 (pv 1) (pv 2) (ar _)))))
    (ai aS)
    av))),?_⟩
  refine⟨_,U,k,U,?_⟩
  refine⟨_,U,_,_,U,U,_,U,?_⟩
  refine ifF (decide_eq_false (by omega)) ?_
  refine⟨_,U,_,U,_,_,U,U,_,U,?_⟩
  exact ifF (decide_eq_false (by omega)) q
theorem scCs:FnScope ["side"] ["side"] (aj qR):={}
theorem jr (T:Txt K mg t):FnOk P w K mg base CX0 1 t.f_Jo t.d_Jo ["side"] sp_Jo:=by
 refine T.F_Jo.ok scCs (fun vs H Q E h=>?_) (fun cdv A outer s H vs Q E hr h=>?_)
 ·obtain⟨_,rfl,_⟩:=h
  rfl
 ·obtain⟨z,rfl,hz,q⟩:=h
  refine⟨_,(ai (aI (PW.pt (iR (ap jp (pv 0) am (ar _)) (gM (ap jp (pv 0) am (ar _)))))
    (ai aS)
    av)),?_⟩
  refine⟨_,U,U,_,U,?_⟩
  rw[hC]
  refine rL (fun hc=>?_) (fun hc=>dq q)
  refine⟨_,U,U,_,U,?_⟩
  rw[hC]
  exact ifF (by simp; omega) q
theorem scPp:FnScope ["kind","end","side"] ["kind","end","side"] (aj rm):={}
theorem ok_Ja (T:Txt K mg t):FnOk P w K mg base CX0 1 t.f_Ja t.d_Ja ["kind","end","side"] sp_Ja:=by
 refine T.F_Ja.ok scPp (fun vs H Q E h=>?_) (fun cdv A outer s H vs Q E hr h=>?_)
 ·obtain⟨_,_,_,rfl,_⟩:=h
  rfl
 ·obtain⟨k,e,z,rfl,hk,q⟩:=h
  have ns:¬ k=.stop:=fun h=>by rw[h] at hk; cases hk
  refine⟨_,(ae (aI (ap br (pv 1) (bG (by rfl) T.g_STEM T.r_STEM) (ar _))
    (ai (aB (aF (aa (pv 2) (aa (cy (ap br (pv 0) aL (ar _)) (aQ cR am (pv 2)) (pv 2)) ah)))))
    av)
   (ai (aB (aF (aa (bG (by rfl) T.g_STEM T.r_STEM) (aa (cy (ap br (pv 0) aL (ar _)) (pv 1) (pv 2)) ah)))))),?_⟩
  refine⟨_,U,U,_,U,?_⟩
  rw[hC]
  refine iD (fun hc=>?_) (fun hc=>?_)
  ·have he:e=0:=of_decide_eq_true hc
   refine⟨_,U,_,U,U,_,U,?_⟩
   rw[k.isTurning]
   have o1:k.out e z=.int z:=by unfold Kd.out; rw[if_neg ns,if_pos hk,if_pos he]
   have o2:k.side e z=if k=.turning then 3 - z else z:=by unfold Kd.side; rw[if_pos hk,if_pos he]
   rw[o1,o2] at q
   refine iD (fun hc=>?_) (fun hc=>?_)
   ·rw[if_pos (of_decide_eq_true hc)] at q
    exact⟨_,U,_,_,U,U,(show 2<=sizeLine by decide),fun p hp=>q p hp⟩
   ·rw[if_neg (fun h=>hc (decide_eq_true h))] at q
    exact⟨_,U,(show 2<=sizeLine by decide),fun p hp=>q p hp⟩
  ·have he:¬ e=0:=fun h=>hc (decide_eq_true h)
   refine⟨_,U,U,_,U,?_⟩
   rw[k.isLazy]
   have o1:k.out e z=.int 0:=by unfold Kd.out; rw[if_neg ns,if_pos hk,if_neg he]
   have o2:k.side e z=if k=.lazy then e else z:=by unfold Kd.side; rw[if_pos hk,if_neg he]
   rw[o1,o2] at q
   refine iD (fun hc=>?_) (fun hc=>?_)
   ·rw[if_pos (of_decide_eq_true hc)] at q
    exact⟨_,U,(show 2<=sizeLine by decide),fun p hp=>q p hp⟩
   ·rw[if_neg (fun h=>hc (decide_eq_true h))] at q
    exact⟨_,U,(show 2<=sizeLine by decide),fun p hp=>q p hp⟩
theorem scPa:FnScope ["kind","end","side"] ["kind","end","side"] (aj nY):={}
theorem pY (T:Txt K mg t):FnOk P w K mg base CX0 3 t.f_Jg1 t.d_Jg1 ["kind","end","side"] sp_Jg1:=by
 refine T.F_Jg1.ok scPa (fun vs H Q E h=>?_) (fun cdv A outer s H vs Q E hr h=>?_)
 ·obtain⟨_,_,_,_,rfl,_⟩:=h
  rfl
 ·obtain⟨k,e,z,v,rfl,e0,e1,hs,q⟩:=h
  refine⟨_,(ae (ao (pcl (oJ T) hr T.m_Jw T.F_Jw.kp (rP T) (aa (pv 0) (aa (pv 1) ah))))
   (ae (aI (eU (pcl (iU T) hr T.m_J91 T.F_J91.kp (l0 T) (aa (pv 0) ah)))
    (ae (ao (pcl (jr T) hr T.m_Jo T.F_Jo.kp (nw T) (aa (pv 2) ah)))
     (ai (aB (pcl (ok_Ja T) hr T.m_Ja T.F_Ja.kp (b_Ja T) (aa (pv 0) (aa (pv 1) (aa (pv 2) ah)))))))
    av)
   (ae (aI (ap br (pv 0) aL (ar _))
    (ai (aB (aF (aa bq (aa (pv 2) ah)))))
    av)
   (ai (aB (aF (aa (aQ cR am (pv 1)) (aa (pv 2) ah)))))))),?_⟩
  refine⟨_,U,_,U,k,e,U,e0,e1,?_⟩
  refine⟨_,U,k,U,_,U,?_⟩
  refine iD (fun hc=>?_) (fun hc=>?_)
  ·obtain⟨rfl,hz⟩:=hs hc
   rw[if_pos hc] at q
   exact⟨_,U,z,U,hz,_,U,_,U,_,U,k,e,z,U,hc,q⟩
  ·rw[if_neg hc] at q
   refine⟨_,U,U,_,U,?_⟩
   rw[k.isStop]
   refine iD (fun hc2=>?_) (fun hc2=>?_)
   ·have hk:k=.stop:=of_decide_eq_true hc2
    subst hk
    exact⟨_,U,(show 2<=sizeLine by decide),fun p hp=>q p hp⟩
   ·have hk:¬ k=.stop:=fun h=>hc2 (decide_eq_true h)
    have o1:k.out e z=.int (1 - e):=by unfold Kd.out; rw[if_neg hk,if_neg hc]
    rw[o1] at q
    exact⟨_,U,_,_,U,U,_,U,(show 2<=sizeLine by decide),fun p hp=>q p hp⟩
end
structure YA where
 p:Addr
 dx:Addr
 tr:Addr
 k:Addr
 n:Addr
 r:Addr
 s:Addr
 m:Addr
 g:Addr
structure YR where
 next:Int
 kinds:List (Key×V)
 notes:List (Key×V)
 rods:List (Key×V)
 sides:List V
 mates:List (List Key×V)
 eng:V
 rung:List V
 trail:List V
noncomputable def fl (A:YA) (next:Int) (eng:V):List (Str×V) :=
 [("next_piece",.int next),("kinds",.ref A.k),("notes",.ref A.n),("rods_under",.ref A.r),("sides",.ref A.s),("mates",.ref A.m),("engine_end",eng),("rung",.ref A.g),("trail",.ref A.tr)]
noncomputable def yL (C:Addr) (A:YA) (y:YR):Kn :=
 [(A.tr,.lst y.trail),(A.p,.ins C A.dx (fl A y.next y.eng)),(A.dx,.own A.p),(A.k,.dK y.kinds),(A.n,.dK y.notes),(A.r,.dK y.rods),(A.s,.lst y.sides),(A.m,.dT y.mates),(A.g,.lst y.rung)]
noncomputable def y0:YR:=⟨0,[],[],[],[],[],.non,[],[]⟩
section
variable (A:YA) (next:Int) (eng:V)
theorem jy:(fl A next eng).lookup ("next_piece" : Str)=some (.int next):=by kernel_rfl
theorem dw:(fl A next eng).lookup ("kinds" : Str)=some (.ref A.k):=by kernel_rfl
theorem cF:(fl A next eng).lookup ("notes" : Str)=some (.ref A.n):=by kernel_rfl
theorem dv:(fl A next eng).lookup ("rods_under" : Str)=some (.ref A.r):=by kernel_rfl
theorem bZ:(fl A next eng).lookup ("sides" : Str)=some (.ref A.s):=by kernel_rfl
theorem cG:(fl A next eng).lookup ("mates" : Str)=some (.ref A.m):=by kernel_rfl
theorem i8:(fl A next eng).lookup ("engine_end" : Str)=some eng:=by kernel_rfl
theorem g8:(fl A next eng).lookup ("rung" : Str)=some (.ref A.g):=by kernel_rfl
theorem lM:(fl A next eng).lookup ("trail" : Str)=some (.ref A.tr):=by kernel_rfl
theorem g9 (q:Addr):aX "trail" (.ref q) (fl A next eng)=fl { A with tr:=q } next eng:=by kernel_rfl
theorem iF (n':Int):aX "next_piece" (.int n') (fl A next eng)=fl A n' eng:=by kernel_rfl
theorem bP (e':V):aX "engine_end" e' (fl A next eng)=fl A next e':=by kernel_rfl
end
theorem cn (A:YA) (next:Int) (eng:V):(fl A next eng).lookup ("lay" : Str)=none/\(fl A next eng).lookup ("new_rod" : Str)=none/\(fl A next eng).lookup ("throw" : Str)=none/\(fl A next eng).lookup ("rods" : Str)=none/\(fl A next eng).lookup ("rod" : Str)=none /\
  (fl A next eng).lookup ("side" : Str)=none/\(fl A next eng).lookup ("end_trail" : Str)=none/\(fl A next eng).lookup ("check_piece" : Str)=none/\(fl A next eng).lookup ("check_rod" : Str)=none :=
 ⟨by kernel_rfl,by kernel_rfl,by kernel_rfl,by kernel_rfl,by kernel_rfl,by kernel_rfl,by kernel_rfl,by kernel_rfl,by kernel_rfl⟩
inductive sp_init (C:Addr) (vs:List V) (H:Hp) (Q:VK) (E_:XK):Prop
 | mk (p dx:Addr) (L:Kn) (_:vs=[.ref p]) (_:Has H ((p,.ins C dx [])::(dx,.own p)::L)) (_:∀ H' A,A.p=p->Has H' (yL C A y0++L)->Q .non H'):sp_init C vs H Q E_
inductive sp_end_trail (C:Addr) (vs:List V) (H:Hp) (Q:VK) (E_:XK):Prop
 | mk (A:YA) (y:YR) (L:Kn) (_:vs=[.ref A.p]) (_:Has H (yL C A y++L)) (_:∀ H' q,Has H' (yL C { A with tr:=q } { y with trail:=[] }++L)->Q .non H'):sp_end_trail C vs H Q E_
variable{L:Kn}
theorem j4 {H:Hp}{C p dx a1 a2 a3 a4 a5 a7 a8:Addr}{fs:List (Str×V)} (h:Has H ((a8,.lst [])::(a7,.lst [])::(a5,.dT [])::(a4,.lst [])::(a3,.dK [])::(a2,.dK [])::(a1,.dK [])::(p,.ins C dx fs)::(dx,.own p)::L)) :
  Has H ([(a8,.lst []),(p,.ins C dx fs),(dx,.own p),(a1,.dK []),(a2,.dK []),(a3,.dK []),(a4,.lst []),(a5,.dT []),(a7,.lst [])]++L):=by
 refine h.perm ?_
 refine .cons _ ?_
 show List.Perm ([(a7,HO.lst []),(a5,.dT []),(a4,.lst []),(a3,.dK []),(a2,.dK []),(a1,.dK []),(p,.ins C dx fs),(dx,.own p)]++L) ([(p,.ins C dx fs),(dx,.own p),(a1,.dK []),(a2,.dK []),(a3,.dK []),(a4,.lst []),(a5,.dT []),(a7,.lst [])]++L)
 refine List.Perm.append_right L ?_
 have e:[(a7,HO.lst []),(a5,.dT []),(a4,.lst []),(a3,.dK []),(a2,.dK []),(a1,.dK []),(p,.ins C dx fs),(dx,.own p)]=[(a7,HO.lst []),(a5,.dT []),(a4,.lst []),(a3,.dK []),(a2,.dK []),(a1,.dK [])]++[(p,.ins C dx fs),(dx,.own p)]:=rfl
 rw[e]
 refine List.perm_append_comm.trans ?_
 refine .cons _ (.cons _ ?_)
 exact List.reverse_perm [(a1,HO.dK []),(a2,.dK []),(a3,.dK []),(a4,.lst []),(a5,.dT []),(a7,.lst [])]
section
variable {P:Program}{w:World}{K:PySem.W.Frag}{mg:Str->Option Value}{base:Heap}{t:Adr}
theorem scYi:FnScope ["self"] ["self"] (aj oB):={}
theorem qf (T:Txt K mg t):FnOk P w K mg base CX0 1 t.f_J01 t.d_J01 ["self"] (sp_init t.c_Yard):=by
 refine T.F_J01.ok scYi (fun vs H Q E h=>?_) (fun cdv A outer s H vs Q E hr h=>?_)
 ·obtain⟨_,_,_,rfl,_⟩:=h
  rfl
 ·obtain⟨p,dx,L,rfl,hH,q⟩:=h
  refine⟨_,(ae (aZ (pv 0) am rfl)
   (ae (aZ (pv 0) ff rfl)
   (ae (aZ (pv 0) ff rfl)
   (ae (aZ (pv 0) ff rfl)
   (ae (aZ (pv 0) (aU ah) rfl)
   (ae (aZ (pv 0) fc rfl)
   (ae (aZ (pv 0) bq rfl)
   (ae (aZ (pv 0) (aU ah) rfl)
   (ai (aZ (pv 0) (aU ah) rfl)))))))))),?_⟩
  refine⟨_,U,p,_,dx,_,U,hH.get 0 U,T.cl_Yard,T.n_Yard_next_piece,(show 0<1000 by decide),?_⟩
  have h1:=hH.puti 0 U (.ins t.c_Yard dx (aX ("next_piece" : Str) (V.int 0) ([]:List (Str×V))))
  rw[show aX ("next_piece" : Str) (V.int 0) ([]:List (Str×V))=([(("next_piece" : Str),V.int 0)]:List (Str×V)) from by kernel_rfl] at h1 ⊢
  generalize upd H p _=H1 at h1 ⊢
  intro a1 n1
  refine⟨_,U,p,_,dx,_,U,(h1.alloc n1 (.dK [])).get 1 U,T.cl_Yard,T.n_Yard_kinds,(show 1<1000 by decide),?_⟩
  have h2:=(h1.alloc n1 (.dK [])).puti 1 U (.ins t.c_Yard dx (aX ("kinds" : Str) (V.ref a1) ([(("next_piece" : Str),V.int 0)]:List (Str×V))))
  rw[show aX ("kinds" : Str) (V.ref a1) ([(("next_piece" : Str),V.int 0)]:List (Str×V))=([(("next_piece" : Str),V.int 0),(("kinds" : Str),V.ref a1)]:List (Str×V)) from by kernel_rfl] at h2 ⊢
  generalize upd (upd H1 a1 _) p _=H2 at h2 ⊢
  intro a2 n2
  refine⟨_,U,p,_,dx,_,U,(h2.alloc n2 (.dK [])).get 2 U,T.cl_Yard,T.n_Yard_notes,(show 2<1000 by decide),?_⟩
  have h3:=(h2.alloc n2 (.dK [])).puti 2 U (.ins t.c_Yard dx (aX ("notes" : Str) (V.ref a2) ([(("next_piece" : Str),V.int 0),(("kinds" : Str),V.ref a1)]:List (Str×V))))
  rw[show aX ("notes" : Str) (V.ref a2) ([(("next_piece" : Str),V.int 0),(("kinds" : Str),V.ref a1)]:List (Str×V))=([(("next_piece" : Str),V.int 0),(("kinds" : Str),V.ref a1),(("notes" : Str),V.ref a2)]:List (Str×V)) from by kernel_rfl] at h3 ⊢
  generalize upd (upd H2 a2 _) p _=H3 at h3 ⊢
  intro a3 n3
  refine⟨_,U,p,_,dx,_,U,(h3.alloc n3 (.dK [])).get 3 U,T.cl_Yard,T.n_Yard_rods_under,(show 3<1000 by decide),?_⟩
  have h4:=(h3.alloc n3 (.dK [])).puti 3 U (.ins t.c_Yard dx (aX ("rods_under" : Str) (V.ref a3) ([(("next_piece" : Str),V.int 0),(("kinds" : Str),V.ref a1),(("notes" : Str),V.ref a2)]:List (Str×V))))
  rw[show aX ("rods_under" : Str) (V.ref a3) ([(("next_piece" : Str),V.int 0),(("kinds" : Str),V.ref a1),(("notes" : Str),V.ref a2)]:List (Str×V))=([(("next_piece" : Str),V.int 0),(("kinds" : Str),V.ref a1),(("notes" : Str),V.ref a2),(("rods_under" : Str),V.ref a3)]:List (Str×V)) from by kernel_rfl] at h4 ⊢
  generalize upd (upd H3 a3 _) p _=H4 at h4 ⊢
  refine⟨by decide,fun a4 n4=>?_⟩
  refine⟨_,U,p,_,dx,_,U,(h4.alloc n4 (.lst [])).get 4 U,T.cl_Yard,T.n_Yard_sides,(show 4<1000 by decide),?_⟩
  have h5:=(h4.alloc n4 (.lst [])).puti 4 U (.ins t.c_Yard dx (aX ("sides" : Str) (V.ref a4) ([(("next_piece" : Str),V.int 0),(("kinds" : Str),V.ref a1),(("notes" : Str),V.ref a2),(("rods_under" : Str),V.ref a3)]:List (Str×V))))
  rw[show aX ("sides" : Str) (V.ref a4) ([(("next_piece" : Str),V.int 0),(("kinds" : Str),V.ref a1),(("notes" : Str),V.ref a2),(("rods_under" : Str),V.ref a3)]:List (Str×V))=([(("next_piece" : Str),V.int 0),(("kinds" : Str),V.ref a1),(("notes" : Str),V.ref a2),(("rods_under" : Str),V.ref a3),(("sides" : Str),V.ref a4)]:List (Str×V)) from by kernel_rfl] at h5 ⊢
  generalize upd (upd H4 a4 _) p _=H5 at h5 ⊢
  intro a5 n5
  refine⟨_,U,p,_,dx,_,U,(h5.alloc n5 (.dT [])).get 5 U,T.cl_Yard,T.n_Yard_mates,(show 5<1000 by decide),?_⟩
  have h6:=(h5.alloc n5 (.dT [])).puti 5 U (.ins t.c_Yard dx (aX ("mates" : Str) (V.ref a5) ([(("next_piece" : Str),V.int 0),(("kinds" : Str),V.ref a1),(("notes" : Str),V.ref a2),(("rods_under" : Str),V.ref a3),(("sides" : Str),V.ref a4)]:List (Str×V))))
  rw[show aX ("mates" : Str) (V.ref a5) ([(("next_piece" : Str),V.int 0),(("kinds" : Str),V.ref a1),(("notes" : Str),V.ref a2),(("rods_under" : Str),V.ref a3),(("sides" : Str),V.ref a4)]:List (Str×V))=([(("next_piece" : Str),V.int 0),(("kinds" : Str),V.ref a1),(("notes" : Str),V.ref a2),(("rods_under" : Str),V.ref a3),(("sides" : Str),V.ref a4),(("mates" : Str),V.ref a5)]:List (Str×V)) from by kernel_rfl] at h6 ⊢
  generalize upd (upd H5 a5 _) p _=H6 at h6 ⊢
  refine⟨_,U,p,_,dx,_,U,h6.get 5 U,T.cl_Yard,T.n_Jn_end,(show 6<1000 by decide),?_⟩
  have h7:=h6.puti 5 U (.ins t.c_Yard dx (aX ("engine_end" : Str) (V.non) ([(("next_piece" : Str),V.int 0),(("kinds" : Str),V.ref a1),(("notes" : Str),V.ref a2),(("rods_under" : Str),V.ref a3),(("sides" : Str),V.ref a4),(("mates" : Str),V.ref a5)]:List (Str×V))))
  rw[show aX ("engine_end" : Str) (V.non) ([(("next_piece" : Str),V.int 0),(("kinds" : Str),V.ref a1),(("notes" : Str),V.ref a2),(("rods_under" : Str),V.ref a3),(("sides" : Str),V.ref a4),(("mates" : Str),V.ref a5)]:List (Str×V))=([(("next_piece" : Str),V.int 0),(("kinds" : Str),V.ref a1),(("notes" : Str),V.ref a2),(("rods_under" : Str),V.ref a3),(("sides" : Str),V.ref a4),(("mates" : Str),V.ref a5),(("engine_end" : Str),V.non)]:List (Str×V)) from by kernel_rfl] at h7 ⊢
  generalize upd H6 p _=H7 at h7 ⊢
  refine⟨by decide,fun a7 n7=>?_⟩
  refine⟨_,U,p,_,dx,_,U,(h7.alloc n7 (.lst [])).get 6 U,T.cl_Yard,T.n_Yard_rung,(show 7<1000 by decide),?_⟩
  have h8:=(h7.alloc n7 (.lst [])).puti 6 U (.ins t.c_Yard dx (aX ("rung" : Str) (V.ref a7) ([(("next_piece" : Str),V.int 0),(("kinds" : Str),V.ref a1),(("notes" : Str),V.ref a2),(("rods_under" : Str),V.ref a3),(("sides" : Str),V.ref a4),(("mates" : Str),V.ref a5),(("engine_end" : Str),V.non)]:List (Str×V))))
  rw[show aX ("rung" : Str) (V.ref a7) ([(("next_piece" : Str),V.int 0),(("kinds" : Str),V.ref a1),(("notes" : Str),V.ref a2),(("rods_under" : Str),V.ref a3),(("sides" : Str),V.ref a4),(("mates" : Str),V.ref a5),(("engine_end" : Str),V.non)]:List (Str×V))=([(("next_piece" : Str),V.int 0),(("kinds" : Str),V.ref a1),(("notes" : Str),V.ref a2),(("rods_under" : Str),V.ref a3),(("sides" : Str),V.ref a4),(("mates" : Str),V.ref a5),(("engine_end" : Str),V.non),(("rung" : Str),V.ref a7)]:List (Str×V)) from by kernel_rfl] at h8 ⊢
  generalize upd (upd H7 a7 _) p _=H8 at h8 ⊢
  refine⟨by decide,fun a8 n8=>?_⟩
  refine⟨_,U,p,_,dx,_,U,(h8.alloc n8 (.lst [])).get 7 U,T.cl_Yard,T.n_Yard_trail,(show 8<1000 by decide),?_⟩
  refine q _ ⟨p,dx,a8,a1,a2,a3,a4,a5,a7⟩ rfl ?_
  have h9:=(h8.alloc n8 (.lst [])).puti 7 U (.ins t.c_Yard dx (aX ("trail" : Str) (V.ref a8) ([(("next_piece" : Str),V.int 0),(("kinds" : Str),V.ref a1),(("notes" : Str),V.ref a2),(("rods_under" : Str),V.ref a3),(("sides" : Str),V.ref a4),(("mates" : Str),V.ref a5),(("engine_end" : Str),V.non),(("rung" : Str),V.ref a7)]:List (Str×V))))
  rw[show aX ("trail" : Str) (V.ref a8) ([(("next_piece" : Str),V.int 0),(("kinds" : Str),V.ref a1),(("notes" : Str),V.ref a2),(("rods_under" : Str),V.ref a3),(("sides" : Str),V.ref a4),(("mates" : Str),V.ref a5),(("engine_end" : Str),V.non),(("rung" : Str),V.ref a7)]:List (Str×V))=([(("next_piece" : Str),V.int 0),(("kinds" : Str),V.ref a1),(("notes" : Str),V.ref a2),(("rods_under" : Str),V.ref a3),(("sides" : Str),V.ref a4),(("mates" : Str),V.ref a5),(("engine_end" : Str),V.non),(("rung" : Str),V.ref a7),(("trail" : Str),V.ref a8)]:List (Str×V)) from by kernel_rfl] at h9 ⊢
  exact j4 h9
end
noncomputable def bE (y:YR) (k:Kd) (note:Int) (rod:V):YR :=
 { y with next:=y.next+1,kinds:=aG y.kinds (Sum.inl y.next) (.str k.str),notes:=if k=.bell then aG y.notes (Sum.inl y.next) (.int note) else y.notes,rods:=if k.point then aG y.rods (Sum.inl y.next) (if rod=.non then .int y.sides.length else rod) else y.rods,sides:=if k.point/\rod=.non then y.sides++[.int 1] else y.sides,trail:=[] }
structure jF (y:YR):Prop where
 k:y.kinds.length<=10000
 n:y.notes.length<=10000
 r:y.rods.length<=10000
 s:y.sides.length<=10000
 m:y.mates.length<=30000
 g:y.rung.length<=300000
 t:y.trail.length<=300000
inductive sp_check_piece (C:Addr) (vs:List V) (H:Hp) (Q:VK) (E_:XK):Prop
 | mk (A:YA) (y:YR) (L:Kn) (n:Int) (v:V) (_:vs=[.ref A.p,.int n]) (_:Has H (yL C A y++L)) (_:au y.kinds (Sum.inl n)=some v) (_:Q .non H):sp_check_piece C vs H Q E_
inductive sp_check_rod (C:Addr) (vs:List V) (H:Hp) (Q:VK) (E_:XK):Prop
 | mk (A:YA) (y:YR) (L:Kn) (r:Int) (_:vs=[.ref A.p,.int r]) (_:Has H (yL C A y++L)) (_:0<=r) (_:r<y.sides.length) (_:Q .non H):sp_check_rod C vs H Q E_
inductive sp_Jp (vs:List V) (H:Hp) (Q:VK) (E_:XK):Prop
 | mk (n:Int) (_:vs=[.int n]) (_:0<=n) (_:n<=9999) (_:Q .non H):sp_Jp vs H Q E_
inductive sp_new_rod (C:Addr) (vs:List V) (H:Hp) (Q:VK) (E_:XK):Prop
 | mk (A:YA) (y:YR) (L:Kn) (s:Int) (_:vs=[.ref A.p,.int s]) (_:Has H (yL C A y++L)) (_:(s=1∨s=2)) (_:y.sides.length<=10000) (_:∀ H' q,Has H' (yL C { A with tr:=q } { y with sides:=y.sides++[.int s],trail:=[] }++L)->Q (.int y.sides.length) H'):sp_new_rod C vs H Q E_
inductive sp_throw (C:Addr) (vs:List V) (H:Hp) (Q:VK) (E_:XK):Prop
 | mk (A:YA) (y:YR) (L:Kn) (r s:Int) (_:vs=[.ref A.p,.int r,.int s]) (_:Has H (yL C A y++L)) (_:0<=r) (_:r<y.sides.length) (_:(s=1∨s=2)) (_:∀ H' q,Has H' (yL C { A with tr:=q } { y with sides:=y.sides.set r.toNat (.int s),trail:=[] }++L)->Q .non H'):sp_throw C vs H Q E_
inductive sp_rods (C:Addr) (vs:List V) (H:Hp) (Q:VK) (E_:XK):Prop
 | mk (A:YA) (y:YR) (L:Kn) (_:vs=[.ref A.p]) (_:Has H (yL C A y++L)) (_:jF y) (_:∀ H' l,Has H' ((l,.lst (intsV y.sides.length))::(yL C A y++L))->Q (.ref l) H'):sp_rods C vs H Q E_
inductive sp_side (C:Addr) (vs:List V) (H:Hp) (Q:VK) (E_:XK):Prop
 | mk (A:YA) (y:YR) (L:Kn) (r:Int) (v:V) (_:vs=[.ref A.p,.int r]) (_:Has H (yL C A y++L)) (_:0<=r) (_:y.sides[r.toNat]?=some v) (_:Q v H):sp_side C vs H Q E_
inductive sp_rod (C:Addr) (vs:List V) (H:Hp) (Q:VK) (E_:XK):Prop
 | mk (A:YA) (y:YR) (L:Kn) (n:Int) (u v:V) (_:vs=[.ref A.p,.int n]) (_:Has H (yL C A y++L)) (_:au y.kinds (Sum.inl n)=some u) (_:au y.rods (Sum.inl n)=some v) (_:Q v H):sp_rod C vs H Q E_
inductive sp_lay (C:Addr) (vs:List V) (H:Hp) (Q:VK) (E_:XK):Prop
 | mk (A:YA) (y:YR) (L:Kn) (k:Kd) (note:Int) (rod:V) (_:vs=[.ref A.p,.str k.str,.int note,rod]) (_:Has H (yL C A y++L)) (_:jF y) (_:(k=.bell->0<=note/\note<=9999)) (_:(k.point=true->rod≠.non->∃ r:Int,rod=.int r/\0<=r/\r<y.sides.length)) (_:∀ H' q,Has H' (yL C { A with tr:=q } (bE y k note rod)++L)->Q (.int y.next) H'):sp_lay C vs H Q E_
section
variable {P:Program}{w:World}{K:PySem.W.Frag}{mg:Str->Option Value}{base:Heap}{t:Adr}
theorem scEt:FnScope ["self"] ["self"] (aj rB):={}
theorem js (T:Txt K mg t):FnOk P w K mg base CX0 1 t.f_J7 t.d_J7 ["self"] (sp_end_trail t.c_Yard):=by
 refine T.F_J7.ok scEt (fun vs H Q E h=>?_) (fun cdv A outer s H vs Q E hr h=>?_)
 ·obtain⟨_,_,_,rfl,_⟩:=h
  rfl
 ·obtain⟨A,y,L,rfl,hH,q⟩:=h
  refine⟨_,(ai (aZ (pv 0) (aU ah) rfl)),?_⟩
  refine⟨by decide,fun a ha=>?_⟩
  have h1:=hH.alloc ha (.lst [])
  refine⟨_,U,A.p,_,A.dx,_,U,h1.get 2 U,T.cl_Yard,T.n_Yard_trail,(show 9<1000 by decide),?_⟩
  refine q _ a ?_
  rw[g9]
  have h2:=(h1.puti 2 U (.ins t.c_Yard A.dx (fl { A with tr:=a } y.next y.eng)))
  exact(h2.swap2).tail
theorem scCr:FnScope ["self","rod"] ["self","rod"] (aj rp):={}
theorem oS (T:Txt K mg t):FnOk P w K mg base CX0 1 t.f_J9 t.d_J9 ["self","rod"] (sp_check_rod t.c_Yard):=by
 refine T.F_J9.ok scCr (fun vs H Q E h=>?_) (fun cdv A outer s H vs Q E hr h=>?_)
 ·obtain⟨_,_,_,_,rfl,_⟩:=h
  rfl
 ·obtain⟨A,y,L,r,rfl,hH,r0,r1,q⟩:=h
  refine⟨_,(ai (aI (PW.pt (cP (ap bO (pv 1) am (ar _)) (bQ (ap f8 (pv 1) (aR aJ (by rfl) T.z_len (by rfl) (aa (aw (pv 0) rfl) ah)) (ar _)))))
    (ai aS)
    av)),?_⟩
  refine⟨_,U,_,_,U,U,_,U,ifF (decide_eq_false (by omega)) ?_⟩
  refine⟨_,U,_,U,A.p,_,A.dx,_,_,U,hH.get 1 U,T.cl_Yard,T.n_Yard_sides,bZ _ _ _,A.s,_,U,.inl (SqL.of (hH.get 6 U)),_,_,U,U,_,U,?_⟩
  exact ifF (decide_eq_false (by omega)) q
theorem scCn:FnScope ["note"] ["note"] (aj qQ):={}
theorem oM (T:Txt K mg t):FnOk P w K mg base CX0 1 t.f_Jp t.d_Jp ["note"] sp_Jp:=by
 refine T.F_Jp.ok scCn (fun vs H Q E h=>?_) (fun cdv A outer s H vs Q E hr h=>?_)
 ·obtain⟨_,rfl,_⟩:=h
  rfl
 ·obtain⟨n,rfl,n0,n1,q⟩:=h
  refine⟨_,(ai (aI (PW.pt (cP (ap bO (pv 0) am (ar _)) (bQ (ap iu (pv 0) (bG (by rfl) T.g_LAST_NOTE T.r_LAST_NOTE) (ar _)))))
    (ai aS)
    av)),?_⟩
  refine⟨_,U,_,_,U,U,_,U,ifF (decide_eq_false (by omega)) ?_⟩
  refine⟨_,U,_,_,U,U,_,U,ifF (decide_eq_false (by omega)) q⟩
theorem scCp:FnScope ["self","piece"] ["self","piece"] (aj rD):={}
theorem ls (T:Txt K mg t):FnOk P w K mg base CX0 1 t.f_J6 t.d_J6 ["self","piece"] (sp_check_piece t.c_Yard):=by
 refine T.F_J6.ok scCp (fun vs H Q E h=>?_) (fun cdv A outer s H vs Q E hr h=>?_)
 ·obtain⟨_,_,_,_,_,rfl,_⟩:=h
  rfl
 ·obtain⟨A,y,L,n,v,rfl,hH,hv,q⟩:=h
  have hu:=cD hr
  refine⟨_,(ai (aI (gN (f6 hu (pv 1) (aw (pv 0) rfl)))
    (ai aS)
    av)),?_⟩
  refine⟨_,U,_,U,A.p,_,A.dx,_,_,U,hH.get 1 U,T.cl_Yard,T.n_Yard_kinds,dw _ _ _,A.k,_,U,DGet.k (k:=Sum.inl n) (hH.get 3 U),_,U,?_⟩
  exact ifF (by rw[hv]; rfl) q
theorem scNr:FnScope ["self","side"] ["self","side"] (aj qW):={}
theorem ln (T:Txt K mg t):FnOk P w K mg base CX0 2 t.f_Jj t.d_Jj ["self","side"] (sp_new_rod t.c_Yard):=by
 refine T.F_Jj.ok scNr (fun vs H Q E h=>?_) (fun cdv A outer s H vs Q E hr h=>?_)
 ·obtain⟨_,_,_,_,rfl,_⟩:=h
  rfl
 ·obtain⟨A,y,L,z,rfl,hH,hz,sm,q⟩:=h
  refine⟨_,(ae (ao (pcl (jr T) hr T.m_Jo T.F_Jo.kp (nw T) (aa (pv 1) ah)))
   (ae (ao (bL PySem.F.plainAttrs_list PySem.F.slot_list_append PySem.F.type_list_append aV (aw (pv 0) rfl) (aa (pv 1) ah)))
   (ae (ao (aT (pv 0) T.cl_Yard T.M_J7 (js T) hr (nA T) .nil az))
   (ai (aB (aQ cR (aR aJ (by rfl) T.z_len (by rfl) (aa (aw (pv 0) rfl) ah)) am)))))),?_⟩
  refine⟨_,U,z,U,hz,?_⟩
  refine⟨_,U,A.p,_,A.dx,_,_,U,hH.get 1 U,T.cl_Yard,T.n_Yard_sides,bZ _ _ _,.inl ⟨U,_,SqL.of (hH.get 6 U)⟩,_,U,A.s,_,_,U,U,hH.get 6 U,sizeOk (by omega),?_⟩
  have h1:Has _ (yL t.c_Yard A { y with sides:=y.sides++[.int z] }++L):=hH.puti 6 U (.lst (y.sides++[.int z]))
  refine⟨_,U,A.p,A.dx,_,U,h1.get 1 U,(cn _ _ _).2.2.2.2.2.2.1,A,_,L,U,h1,fun H' a h2=>?_⟩
  refine⟨_,U,A.p,_,A.dx,_,_,U,h2.get 1 U,T.cl_Yard,T.n_Yard_sides,bZ _ _ _,A.s,_,U,.inl (SqL.of (h2.get 6 U)),_,_,U,U,?_⟩
  have e:((y.sides++[V.int z]).length:Int) - 1=y.sides.length:=by rw[sA,sK]; omega
  show Q (.int (((y.sides++[V.int z]).length:Int) - 1)) H'
  rw[e]
  exact q H' a h2
theorem scSi:FnScope ["self","rod"] ["self","rod"] (aj oq):={}
theorem qc (T:Txt K mg t):FnOk P w K mg base CX0 2 t.f_J61 t.d_J61 ["self","rod"] (sp_side t.c_Yard):=by
 refine T.F_J61.ok scSi (fun vs H Q E h=>?_) (fun cdv A outer s H vs Q E hr h=>?_)
 ·obtain⟨_,_,_,_,_,rfl,_⟩:=h
  rfl
 ·obtain⟨A,y,L,r,v,rfl,hH,r0,hv,q⟩:=h
  have r1:r<y.sides.length:=by have:=(List.getElem?_eq_some_iff.mp hv).1; omega
  have er:(r.toNat:Int)=r:=by omega
  refine⟨_,(ae (ao (ax (pv 0) T.cl_Yard T.M_J9 (oS T) hr (rX T) .nil az (aa (pv 1) ah)))
   (ai (aB (aM aN (aw (pv 0) rfl) (pv 1))))),?_⟩
  refine⟨_,U,A.p,A.dx,_,U,hH.get 1 U,(cn _ _ _).2.2.2.2.2.2.2.2,_,U,A,y,L,r,U,hH,r0,r1,?_⟩
  exact⟨_,U,A.p,_,A.dx,_,_,U,hH.get 1 U,T.cl_Yard,T.n_Yard_sides,bZ _ _ _,_,U,A.s,_,r,v,U,U,SqL.of (hH.get 6 U),(by rw[<- er]; exact aC hv),q⟩
theorem scRo:FnScope ["self","piece"] ["self","piece"] (aj oe):={}
theorem p6 (T:Txt K mg t):FnOk P w K mg base CX0 2 t.f_Jc1 t.d_Jc1 ["self","piece"] (sp_rod t.c_Yard):=by
 refine T.F_Jc1.ok scRo (fun vs H Q E h=>?_) (fun cdv A outer s H vs Q E hr h=>?_)
 ·obtain⟨_,_,_,_,_,_,rfl,_⟩:=h
  rfl
 ·obtain⟨A,y,L,n,u,v,rfl,hH,hk,hv,q⟩:=h
  have hu:=cD hr
  refine⟨_,(ae (ao (ax (pv 0) T.cl_Yard T.M_J6 (ls T) hr (qy T) .nil az (aa (pv 1) ah)))
   (ae (aI (gN (f6 hu (pv 1) (aw (pv 0) rfl)))
    (ai aS)
    av)
   (ai (aB (d4 hu (aw (pv 0) rfl) (pv 1)))))),?_⟩
  refine⟨_,U,A.p,A.dx,_,U,hH.get 1 U,(cn _ _ _).2.2.2.2.2.2.2.1,_,U,A,y,L,n,u,U,hH,hk,?_⟩
  refine⟨_,U,_,U,A.p,_,A.dx,_,_,U,hH.get 1 U,T.cl_Yard,T.n_Yard_rods_under,dv _ _ _,A.r,_,U,DGet.k (k:=Sum.inl n) (hH.get 5 U),_,U,ifF (by rw[hv]; rfl) ?_⟩
  refine⟨_,U,A.p,_,A.dx,_,_,U,hH.get 1 U,T.cl_Yard,T.n_Yard_rods_under,dv _ _ _,_,U,A.r,_,U,?_,q⟩
  rw[<- hv]
  exact DGet.k (k:=Sum.inl n) (hH.get 5 U)
theorem scLy:FnScope ["self","kind","note","rod","point","piece"] ["self","kind","note","rod"] (aj og):={}
theorem ci (T:Txt K mg t):FnOk P w K mg base CX0 3 t.f_Jb1 t.d_Jb1 ["self","kind","note","rod"] (sp_lay t.c_Yard):=by
 obtain⟨ds_nr,hd_Jj_1,hb_Jj_1⟩:=jD T
 refine T.F_Jb1.ok scLy (fun vs H Q E h=>?_) (fun cdv A outer s H vs Q E hr h=>?_)
 ·obtain⟨_,_,_,_,_,_,rfl,_⟩:=h
  rfl
 ·obtain⟨A,y,L,k,note,rod,rfl,hH,sm,hnote,hrod,q⟩:=h
  have hu:=cD hr
  refine⟨_,(ae (aH (i:=4) scLy.nd rfl (Or.inl rfl) (pcl (iU T) hr T.m_J91 T.F_J91.kp (l0 T) (aa (pv 1) ah)))
   (ae (aI (ap br (pv 1) aL (ar _))
    (ai (ao (pcl (oM T) hr T.m_Jp T.F_Jp.kp (rR T) (aa (pv 2) ah))))
    av)
   (ae (aI (PW.pt (iR (eU (pv 4)) (gM (ap d5 (pv 3) bq (ar _)))))
    (ai (ao (ax (pv 0) T.cl_Yard T.M_J9 (oS T) hr (rX T) .nil az (aa (pv 3) ah))))
    av)
   (ae (aH (i:=5) scLy.nd rfl (Or.inl rfl) (aw (pv 0) rfl))
   (ae (jO (pv 0) am qp)
   (ae (cJ hu (aw (pv 0) rfl) (pv 5) (pv 1) rfl)
   (ae (aI (ap br (pv 1) aL (ar _))
    (ai (cJ hu (aw (pv 0) rfl) (pv 5) (pv 2) rfl))
    av)
   (ae (aI (eU (pv 4))
    (ai (cJ hu (aw (pv 0) rfl) (pv 5) (cy (ap fh (pv 3) bq (ar _)) (aT (pv 0) T.cl_Yard T.M_Jj (ln T) hr hb_Jj_1 hd_Jj_1 az) (pv 3)) rfl))
    av)
   (ae (ao (aT (pv 0) T.cl_Yard T.M_J7 (js T) hr (nA T) .nil az))
   (ai (aB (pv 5)))))))))))),?_⟩
  refine⟨_,U,k,U,?_⟩
  refine⟨_,U,U,_,U,ifJ (fun hc g=>?_) ?_⟩
  ·rw[k.isBell] at hc
   have hb:=hnote (of_decide_eq_true hc)
   exact⟨_,U,note,U,hb.1,hb.2,g⟩
  refine⟨_,U,_,U,?_⟩
  refine(fun(g:_)=>if2 (fun hp=>⟨_,U,U,_,U,ifJ (fun hc g'=>?a) g⟩) (fun hp=>dq g)) ?b
  case a=>
   have hn:rod≠.non:=by simpa using hc
   obtain⟨r,rfl,r0,r1⟩:=hrod hp hn
   exact⟨_,U,A.p,A.dx,_,U,hH.get 1 U,(cn _ _ _).2.2.2.2.2.2.2.2,_,U,A,y,L,r,U,hH,r0,r1,g'⟩
  refine⟨_,U,A.p,_,A.dx,_,_,U,hH.get 1 U,T.cl_Yard,T.n_Yard_next_piece,jy _ _ _,?_⟩
  refine⟨_,U,A.p,_,A.dx,_,_,U,hH.get 1 U,T.cl_Yard,T.n_Yard_next_piece,jy _ _ _,_,_,U,U,_,_,hH.get 1 U,(show 9<1000 by decide),?_⟩
  rw[iF]
  have h1:Has _ (yL t.c_Yard A { y with next:=y.next+1 }++L):=hH.puti 1 U (.ins t.c_Yard A.dx (fl A (y.next+1) y.eng))
  generalize upd H A.p _=H1 at h1 ⊢
  refine⟨_,U,_,U,A.p,_,A.dx,_,_,U,h1.get 1 U,T.cl_Yard,T.n_Yard_kinds,dw _ _ _,_,U,A.k,_,U,DPut.k (k:=Sum.inl y.next) (h1.get 3 U) (sizeOk (show y.kinds.length<=1000000 by have:=sm.k; omega)),?_⟩
  have h2:Has _ (yL t.c_Yard A { y with next:=y.next+1,kinds:=aG y.kinds (Sum.inl y.next) (.str k.str) }++L):=h1.puti 3 U (.dK (aG y.kinds (Sum.inl y.next) (.str k.str)))
  generalize upd H1 A.k _=H2 at h2 ⊢
  refine⟨_,U,U,_,U,?_⟩
  rw[k.isBell]
  have fin:∀ (H3:Hp) (A3:YA) (y3:YR),A3.p=A.p->(∀ q,{ A3 with tr:=q }={ A with tr:=q })->{ y3 with trail:=[] }=bE y k note rod->Has H3 (yL t.c_Yard A3 y3++L) ->
    kI (nP (kJ t.c_Yard "end_trail" (sp_end_trail t.c_Yard) [] E0 (mC 0) hX)) (qE (mC 5)) { nx:=fun _ H'=>Q .non H',rt:=Q } [some (.ref A.p),some (.str k.str),some (.int note),some rod,some (.bl k.point),some (.int y.next)] H3:=fun H3 A3 y3 e1 e2 e3 h3=>by
   have g1:=h3.get 1 rfl
   rw[e1] at g1
   refine⟨_,U,A.p,A3.dx,_,U,g1,(cn _ _ _).2.2.2.2.2.2.1,A3,y3,L,(by rw[e1]; rfl),h3,fun H4 a h4=>⟨_,U,?_⟩⟩
   rw[e2,e3] at h4
   exact q H4 a h4
  refine ifd (fun hb=>?_) (fun hb=>?_)
  ·subst hb
   refine⟨_,U,_,U,A.p,_,A.dx,_,_,U,h2.get 1 U,T.cl_Yard,T.n_Yard_notes,cF _ _ _,_,U,A.n,_,U,DPut.k (k:=Sum.inl y.next) (h2.get 4 U) (sizeOk (show y.notes.length<=1000000 by have:=sm.n; omega)),?_⟩
   have h3:Has _ (yL t.c_Yard A { y with next:=y.next+1,kinds:=aG y.kinds (Sum.inl y.next) (.str Kd.bell.str),notes:=aG y.notes (Sum.inl y.next) (.int note) }++L):=h2.puti 4 U (.dK (aG y.notes (Sum.inl y.next) (.int note)))
   refine⟨_,U,_,U,dq ?_⟩
   exact fin _ A _ rfl (fun _=>rfl) rfl h3
  ·refine⟨_,U,_,U,if2 (fun hp=>?_) (fun hp=>?_)⟩
   ·refine⟨_,U,U,_,U,ifd (fun hn=>?_) (fun hn=>?_)⟩
    ·subst hn
     refine⟨_,U,A.p,A.dx,_,U,h2.get 1 U,(cn _ _ _).2.1,A,_,L,1,U,h2,.inl rfl,sm.s,fun H3 a h3=>?_⟩
     refine⟨_,U,A.p,_,A.dx,_,_,U,h3.get 1 U,T.cl_Yard,T.n_Yard_rods_under,dv _ _ _,_,U,A.r,_,U,DPut.k (k:=Sum.inl y.next) (h3.get 5 U) (sizeOk (show y.rods.length<=1000000 by have:=sm.r; omega)),?_⟩
     have h4:Has _ (yL t.c_Yard { A with tr:=a } { y with next:=y.next+1,kinds:=aG y.kinds (Sum.inl y.next) (.str k.str),rods:=aG y.rods (Sum.inl y.next) (.int y.sides.length),sides:=y.sides++[.int 1],trail:=[] }++L):=h3.puti 5 U (.dK (aG y.rods (Sum.inl y.next) (.int y.sides.length)))
     exact fin _ { A with tr:=a } _ rfl (fun _=>rfl) (by unfold bE; rw[if_neg hb,if_pos hp,if_pos rfl,if_pos ⟨hp,U⟩]) h4
    ·refine⟨_,U,_,U,A.p,_,A.dx,_,_,U,h2.get 1 U,T.cl_Yard,T.n_Yard_rods_under,dv _ _ _,_,U,A.r,_,U,DPut.k (k:=Sum.inl y.next) (h2.get 5 U) (sizeOk (show y.rods.length<=1000000 by have:=sm.r; omega)),?_⟩
     have h3:Has _ (yL t.c_Yard A { y with next:=y.next+1,kinds:=aG y.kinds (Sum.inl y.next) (.str k.str),rods:=aG y.rods (Sum.inl y.next) rod }++L):=h2.puti 5 U (.dK (aG y.rods (Sum.inl y.next) rod))
     exact fin _ A _ rfl (fun _=>rfl) (by unfold bE; rw[if_neg hb,if_pos hp,if_neg hn,if_neg (fun z=>hn z.2)]) h3
   ·exact fin _ A _ rfl (fun _=>rfl) (by unfold bE; rw[if_neg hb,if_neg (by rw[hp]; exact Bool.false_ne_true),if_neg (fun z=>by rw[hp] at z; exact Bool.false_ne_true z.1)]) h2
end
noncomputable abbrev kE (n e:Int):List Key:=[Sum.inl n,Sum.inl e]
theorem b7 (A:YA) (next:Int) (eng:V):(fl A next eng).lookup ("check_there" : Str)=none/\(fl A next eng).lookup ("mate" : Str)=none/\(fl A next eng).lookup ("link" : Str)=none/\(fl A next eng).lookup ("unlink" : Str)=none :=
 ⟨by kernel_rfl,by kernel_rfl,by kernel_rfl,by kernel_rfl⟩
noncomputable def There (y:YR) (n e:Int):Prop:=∃ k:Kd,au y.kinds (Sum.inl n)=some (.str k.str)/\0<=e/\e<k.many
inductive sp_check_there (C:Addr) (vs:List V) (H:Hp) (Q:VK) (E_:XK):Prop
 | mk (A:YA) (y:YR) (L:Kn) (b:Addr) (n e:Int) (j:Nat) (_:vs=[.ref A.p,.ref b]) (_:Has H (yL C A y++L)) (_:L[j]?=some (b,.tup [.int n,.int e])) (_:There y n e) (_:Q .non H):sp_check_there C vs H Q E_
inductive sp_mate (C:Addr) (vs:List V) (H:Hp) (Q:VK) (E_:XK):Prop
 | mk (A:YA) (y:YR) (L:Kn) (b:Addr) (n e:Int) (j:Nat) (_:vs=[.ref A.p,.ref b]) (_:Has H (yL C A y++L)) (_:L[j]?=some (b,.tup [.int n,.int e])) (_:There y n e) (_:Q ((au y.mates (kE n e)).getD .non) H):sp_mate C vs H Q E_
inductive sp_link (C:Addr) (vs:List V) (H:Hp) (Q:VK) (E_:XK):Prop
 | mk (A:YA) (y:YR) (L:Kn) (b1 b2:Addr) (n1 e1 n2 e2:Int) (j1 j2:Nat) (_:vs=[.ref A.p,.ref b1,.ref b2]) (_:Has H (yL C A y++L)) (_:L[j1]?=some (b1,.tup [.int n1,.int e1])) (_:L[j2]?=some (b2,.tup [.int n2,.int e2])) (_:There y n1 e1) (_:There y n2 e2) (_:¬ kE n1 e1=kE n2 e2) (_:au y.mates (kE n1 e1)=none) (_:au y.mates (kE n2 e2)=none) (_:y.mates.length<=30000) (_:∀ H' q,Has H' (yL C { A with tr:=q } { y with mates:=aG (aG y.mates (kE n1 e1) (.ref b2)) (kE n2 e2) (.ref b1),trail:=[] }++L)->Q .non H'):sp_link C vs H Q E_
inductive sp_unlink (C:Addr) (vs:List V) (H:Hp) (Q:VK) (E_:XK):Prop
 | mk (A:YA) (y:YR) (L:Kn) (b1 b2:Addr) (n1 e1 n2 e2:Int) (j1 j2:Nat) (v:V) (_:vs=[.ref A.p,.ref b1]) (_:Has H (yL C A y++L)) (_:L[j1]?=some (b1,.tup [.int n1,.int e1])) (_:L[j2]?=some (b2,.tup [.int n2,.int e2])) (_:There y n1 e1) (_:¬ kE n2 e2=kE n1 e1) (_:au y.mates (kE n1 e1)=some (.ref b2)) (_:au y.mates (kE n2 e2)=some v) (_:∀ H' q,Has H' (yL C { A with tr:=q } { y with mates:=oV (oV y.mates (kE n1 e1)) (kE n2 e2),trail:=[] }++L)->Q .non H'):sp_unlink C vs H Q E_
section
variable {P:Program}{w:World}{K:PySem.W.Frag}{mg:Str->Option Value}{base:Heap}{t:Adr}
theorem scCt:FnScope ["self","end","piece","place"] ["self","end"] (aj rE):={}
theorem jt (T:Txt K mg t):FnOk P w K mg base CX0 3 t.f_J5 t.d_J5 ["self","end"] (sp_check_there t.c_Yard):=by
 refine T.F_J5.ok scCt (fun vs H Q E h=>?_) (fun cdv A outer s H vs Q E hr h=>?_)
 ·obtain⟨_,_,_,_,_,_,_,rfl,_⟩:=h
  rfl
 ·obtain⟨A,y,L,b,n,e,j,rfl,hH,hj,⟨k,hk,e0,e1⟩,q⟩:=h
  have hu:=cD hr
  refine⟨_,(ae (ce (pv 1) (bt rfl (ay (aq (i:=2) scCt.nd rfl (Or.inl rfl)) (ay (aq (i:=3) scCt.nd rfl (Or.inl rfl)) ba))))
   (ae (ao (ax (pv 0) T.cl_Yard T.M_J6 (ls T) hr (qy T) .nil az (aa (pv 2) ah)))
   (ai (ao (pcl (oJ T) hr T.m_Jw T.F_Jw.kp (rP T) (aa (d4 hu (aw (pv 0) rfl) (pv 2)) (aa (pv 3) ah))))))),?_⟩
  have gb:=hH.get (j+9) (by simpa [yL] using hj)
  refine⟨_,U,b,_,U,SqT.of gb,U,_,_,U,_,_,U,U,?_⟩
  refine⟨_,U,A.p,A.dx,_,U,hH.get 1 U,(cn _ _ _).2.2.2.2.2.2.2.1,_,U,A,y,L,n,_,U,hH,hk,?_⟩
  refine⟨_,U,A.p,_,A.dx,_,_,U,hH.get 1 U,T.cl_Yard,T.n_Yard_kinds,dw _ _ _,_,U,A.k,_,U,?_,_,U,k,e,U,e0,e1,q⟩
  rw[<- hk]
  exact DGet.k (k:=Sum.inl n) (hH.get 3 U)
theorem scMt:FnScope ["self","end"] ["self","end"] (aj or):={}
theorem qd (T:Txt K mg t):FnOk P w K mg base CX0 4 t.f_J51 t.d_J51 ["self","end"] (sp_mate t.c_Yard):=by
 refine T.F_J51.ok scMt (fun vs H Q E h=>?_) (fun cdv A outer s H vs Q E hr h=>?_)
 ·obtain⟨_,_,_,_,_,_,_,rfl,_⟩:=h
  rfl
 ·obtain⟨A,y,L,b,n,e,j,rfl,hH,hj,th,q⟩:=h
  have hu:=cD hr
  refine⟨_,(ae (ao (ax (pv 0) T.cl_Yard T.M_J5 (jt T) hr (nB T) .nil az (aa (pv 1) ah)))
   (ai (aB (fg hu (aw (pv 0) rfl) (pv 1) ⟨U,U,U,U⟩)))),?_⟩
  have gb:=hH.get (j+9) (by simpa [yL] using hj)
  refine⟨_,U,A.p,A.dx,_,U,hH.get 1 U,(b7 _ _ _).1,_,U,A,y,L,b,n,e,j,U,hH,hj,th,?_⟩
  exact⟨_,U,A.p,_,A.dx,_,_,U,hH.get 1 U,T.cl_Yard,T.n_Yard_mates,cG _ _ _,A.m,U,.inr ⟨_,.inl (hH.get 7 U)⟩,_,U,_,DGet.t (k:=kE n e) (hH.get 7 U) gb,q⟩
theorem scLk:FnScope ["self","one","other","end"] ["self","one","other"] (aj oz):={}
theorem bS (T:Txt K mg t):FnOk P w K mg base CX0 4 t.f_J21 t.d_J21 ["self","one","other"] (sp_link t.c_Yard):=by
 refine T.F_J21.ok scLk (fun vs H Q E h=>?_) (fun cdv A outer s H vs Q E hr h=>?_)
 ·obtain⟨_,_,_,_,_,_,_,_,_,_,_,rfl,_⟩:=h
  rfl
 ·obtain⟨A,y,L,b1,b2,n1,e1,n2,e2,j1,j2,rfl,hH,hj1,hj2,t1,t2,ne,v1,v2,hl,q⟩:=h
  have hu:=cD hr
  refine⟨_,(ae (ao (ax (pv 0) T.cl_Yard T.M_J5 (jt T) hr (nB T) .nil az (aa (pv 1) ah)))
   (ae (ao (ax (pv 0) T.cl_Yard T.M_J5 (jt T) hr (nB T) .nil az (aa (pv 2) ah)))
   (ae (aI (ap (pR hr.units) (pv 1) (pv 2) (ar _))
    (ai aS)
    av)
   (ae (bi PassesOwn.never rfl (pK (aF (aa (pv 1) (aa (pv 2) ah)))) (aq (i:=3) scLk.nd rfl (Or.inl rfl))
    (ai (aI (gN (k9 hu (pv 3) (aw (pv 0) rfl)))
      (ai aS)
      av)))
   (ae (cJ hu (aw (pv 0) rfl) (pv 1) (pv 2) rfl)
   (ae (cJ hu (aw (pv 0) rfl) (pv 2) (pv 1) rfl)
   (ai (ao (aT (pv 0) T.cl_Yard T.M_J7 (js T) hr (nA T) .nil az))))))))),?_⟩
  have g1:=hH.get (j1+9) (by simpa [yL] using hj1)
  have g2:=hH.get (j2+9) (by simpa [yL] using hj2)
  refine⟨_,U,A.p,A.dx,_,U,hH.get 1 U,(b7 _ _ _).1,_,U,A,y,L,b1,n1,e1,j1,U,hH,hj1,t1,?_⟩
  refine⟨_,U,A.p,A.dx,_,U,hH.get 1 U,(b7 _ _ _).1,_,U,A,y,L,b2,n2,e2,j2,U,hH,hj2,t2,?_⟩
  have ne':¬ [n1,e1]=[n2,e2]:=fun z=>ne (by cases z; rfl)
  refine⟨_,U,_,U,b1,b2,[n1,e1],[n2,e2],U,U,g1,g2,_,U,ifF (decide_eq_false ne') ?_⟩
  refine⟨_,U,_,U,(show 2<=sizeLine by decide),fun p hp=>?_⟩
  have h1:=(hH.alloc hp (.tup [.ref b1,.ref b2]))
  generalize upd H p _=H1 at h1 ⊢
  refine⟨p,U,⟨_,SqT.of (h1.get 0 U)⟩,m8 (xs:=[.ref b1,.ref b2]) (fun i σ H'=>H'=H1/\∃ o,σ=[some (.ref A.p),some (.ref b1),some (.ref b2),o]) ⟨U,_,U⟩ (fun i σ H' _ ⟨e,_⟩=>by rw[e]; exact SqT.of (h1.get 0 U)) ?_ ?_⟩
  ·rintro i x σ H' hx ⟨rfl,o,rfl⟩
   have k1:=h1.get (j1+10) (by simpa [yL] using hj1)
   have k2:=h1.get (j2+10) (by simpa [yL] using hj2)
   match i,hx with
   | 0,hx=>
    cases hx
    refine⟨_,U,_,U,A.p,_,A.dx,_,_,U,h1.get 2 U,T.cl_Yard,T.n_Yard_mates,cG _ _ _,A.m,_,U,DGet.t (k:=kE n1 e1) (h1.get 8 U) k1,_,U,ifF (by rw[v1]; rfl) ⟨U,_,U⟩⟩
   | 1,hx=>
    cases hx
    refine⟨_,U,_,U,A.p,_,A.dx,_,_,U,h1.get 2 U,T.cl_Yard,T.n_Yard_mates,cG _ _ _,A.m,_,U,DGet.t (k:=kE n2 e2) (h1.get 8 U) k2,_,U,ifF (by rw[v2]; rfl) ⟨U,_,U⟩⟩
  ·rintro σ H' ⟨rfl,o,rfl⟩
   have h2:=h1.tail
   have k1:=h2.get (j1+9) (by simpa [yL] using hj1)
   refine⟨_,U,_,U,A.p,_,A.dx,_,_,U,h2.get 1 U,T.cl_Yard,T.n_Yard_mates,cG _ _ _,_,U,A.m,_,U,DPut.t (k:=kE n1 e1) (h2.get 7 U) k1 (sizeOk (by omega)),?_⟩
   have h3:Has _ (yL t.c_Yard A { y with mates:=aG y.mates (kE n1 e1) (.ref b2) }++L):=h2.puti 7 U (.dT (aG y.mates (kE n1 e1) (.ref b2)))
   generalize upd H' A.m _=H3 at h3 ⊢
   have k2:=h3.get (j2+9) (by simpa [yL] using hj2)
   refine⟨_,U,_,U,A.p,_,A.dx,_,_,U,h3.get 1 U,T.cl_Yard,T.n_Yard_mates,cG _ _ _,_,U,A.m,_,U,DPut.t (k:=kE n2 e2) (h3.get 7 U) k2 (sizeOk (Nat.le_trans (bf _ _ _) (by omega))),?_⟩
   have h4:Has _ (yL t.c_Yard A { y with mates:=aG (aG y.mates (kE n1 e1) (.ref b2)) (kE n2 e2) (.ref b1) }++L):=h3.puti 7 U (.dT (aG (aG y.mates (kE n1 e1) (.ref b2)) (kE n2 e2) (.ref b1)))
   exact⟨_,U,A.p,A.dx,_,U,h4.get 1 U,(cn _ _ _).2.2.2.2.2.2.1,A,_,L,U,h4,fun H' a h2=>q H' a h2⟩
end
theorem gq (A:YA) (next:Int) (eng:V):(fl A next eng).lookup ("put" : Str)=none/\(fl A next eng).lookup ("off" : Str)=none/\(fl A next eng).lookup ("carry" : Str)=none/\(fl A next eng).lookup ("pieces" : Str)=none/\(fl A next eng).lookup ("kind" : Str)=none /\
  (fl A next eng).lookup ("note" : Str)=none/\(fl A next eng).lookup ("engine" : Str)=none/\(fl A next eng).lookup ("bells" : Str)=none/\(fl A next eng).lookup ("steps" : Str)=none :=
 ⟨by kernel_rfl,by kernel_rfl,by kernel_rfl,by kernel_rfl,by kernel_rfl,by kernel_rfl,by kernel_rfl,by kernel_rfl,by kernel_rfl⟩
inductive sp_put (C:Addr) (vs:List V) (H:Hp) (Q:VK) (E_:XK):Prop
 | mk (A:YA) (y:YR) (L:Kn) (b:Addr) (n e:Int) (j:Nat) (_:vs=[.ref A.p,.ref b]) (_:Has H (yL C A y++L)) (_:L[j]?=some (b,.tup [.int n,.int e])) (_:There y n e) (_:∀ H' q,Has H' (yL C { A with tr:=q } { y with eng:=.ref b,trail:=[] }++L)->Q .non H'):sp_put C vs H Q E_
inductive sp_off (C:Addr) (vs:List V) (H:Hp) (Q:VK) (E_:XK):Prop
 | mk (A:YA) (y:YR) (L:Kn) (_:vs=[.ref A.p]) (_:Has H (yL C A y++L)) (_:∀ H' q,Has H' (yL C { A with tr:=q } { y with eng:=.non,trail:=[] }++L)->Q .non H'):sp_off C vs H Q E_
inductive sp_engine (C:Addr) (vs:List V) (H:Hp) (Q:VK) (E_:XK):Prop
 | mk (A:YA) (y:YR) (L:Kn) (_:vs=[.ref A.p]) (_:Has H (yL C A y++L)) (_:Q y.eng H):sp_engine C vs H Q E_
inductive sp_steps (C:Addr) (vs:List V) (H:Hp) (Q:VK) (E_:XK):Prop
 | mk (A:YA) (y:YR) (L:Kn) (_:vs=[.ref A.p]) (_:Has H (yL C A y++L)) (_:Q (.int y.trail.length) H):sp_steps C vs H Q E_
inductive sp_bells (C:Addr) (vs:List V) (H:Hp) (Q:VK) (E_:XK):Prop
 | mk (A:YA) (y:YR) (L:Kn) (_:vs=[.ref A.p]) (_:Has H (yL C A y++L)) (_:∀ H' l,Has H' ((l,.lst y.rung)::(yL C A y++L))->Q (.ref l) H'):sp_bells C vs H Q E_
inductive sp_pieces (C:Addr) (vs:List V) (H:Hp) (Q:VK) (E_:XK):Prop
 | mk (A:YA) (y:YR) (L:Kn) (_:vs=[.ref A.p]) (_:Has H (yL C A y++L)) (_:∀ H' l,Has H' ((l,.lst (y.kinds.map fun kv=>kV kv.1))::(yL C A y++L))->Q (.ref l) H'):sp_pieces C vs H Q E_
inductive sp_ykind (C:Addr) (vs:List V) (H:Hp) (Q:VK) (E_:XK):Prop
 | mk (A:YA) (y:YR) (L:Kn) (n:Int) (v:V) (_:vs=[.ref A.p,.int n]) (_:Has H (yL C A y++L)) (_:au y.kinds (Sum.inl n)=some v) (_:Q v H):sp_ykind C vs H Q E_
inductive sp_ynote (C:Addr) (vs:List V) (H:Hp) (Q:VK) (E_:XK):Prop
 | mk (A:YA) (y:YR) (L:Kn) (n:Int) (u v:V) (_:vs=[.ref A.p,.int n]) (_:Has H (yL C A y++L)) (_:au y.kinds (Sum.inl n)=some u) (_:au y.notes (Sum.inl n)=some v) (_:Q v H):sp_ynote C vs H Q E_
section
variable {P:Program}{w:World}{K:PySem.W.Frag}{mg:Str->Option Value}{base:Heap}{t:Adr}
theorem scPu:FnScope ["self","end"] ["self","end"] (aj oh):={}
theorem p7 (T:Txt K mg t):FnOk P w K mg base CX0 4 t.f_Ja1 t.d_Ja1 ["self","end"] (sp_put t.c_Yard):=by
 refine T.F_Ja1.ok scPu (fun vs H Q E h=>?_) (fun cdv A outer s H vs Q E hr h=>?_)
 ·obtain⟨_,_,_,_,_,_,_,rfl,_⟩:=h
  rfl
 ·obtain⟨A,y,L,b,n,e,j,rfl,hH,hj,th,q⟩:=h
  refine⟨_,(ae (ao (ax (pv 0) T.cl_Yard T.M_J5 (jt T) hr (nB T) .nil az (aa (pv 1) ah)))
   (ae (aZ (pv 0) (pv 1) rfl)
   (ai (ao (aT (pv 0) T.cl_Yard T.M_J7 (js T) hr (nA T) .nil az))))),?_⟩
  refine⟨_,U,A.p,A.dx,_,U,hH.get 1 U,(b7 _ _ _).1,_,U,A,y,L,b,n,e,j,U,hH,hj,th,?_⟩
  refine⟨_,U,_,U,A.p,_,A.dx,_,U,hH.get 1 U,T.cl_Yard,T.n_Jn_end,(show 9<1000 by decide),?_⟩
  rw[bP]
  have h1:Has _ (yL t.c_Yard A { y with eng:=.ref b }++L):=hH.puti 1 U (.ins t.c_Yard A.dx (fl A y.next (.ref b)))
  exact⟨_,U,A.p,A.dx,_,U,h1.get 1 U,(cn _ _ _).2.2.2.2.2.2.1,A,_,L,U,h1,fun H' a h2=>q H' a h2⟩
theorem scEg:FnScope ["self"] ["self"] (aj qS):={}
theorem oN (T:Txt K mg t):FnOk P w K mg base CX0 1 t.f_Jn t.d_Jn ["self"] (sp_engine t.c_Yard):=by
 refine T.F_Jn.ok scEg (fun vs H Q E h=>?_) (fun cdv A outer s H vs Q E hr h=>?_)
 ·obtain⟨_,_,_,rfl,_⟩:=h
  rfl
 ·obtain⟨A,y,L,rfl,hH,q⟩:=h
  refine⟨_,(ai (aB (aw (pv 0) rfl))),?_⟩
  exact⟨_,U,A.p,_,A.dx,_,_,U,hH.get 1 U,T.cl_Yard,T.n_Jn_end,i8 _ _ _,q⟩
theorem scBe:FnScope ["self"] ["self"] (aj qO):={}
theorem ok_Jr (T:Txt K mg t):FnOk P w K mg base CX0 1 t.f_Jr t.d_Jr ["self"] (sp_bells t.c_Yard):=by
 refine T.F_Jr.ok scBe (fun vs H Q E h=>?_) (fun cdv A outer s H vs Q E hr h=>?_)
 ·obtain⟨_,_,_,rfl,_⟩:=h
  rfl
 ·obtain⟨A,y,L,rfl,hH,q⟩:=h
  refine⟨_,(ai (aB (bu bh (by rfl) T.z_list (by rfl) (aa (aw (pv 0) rfl) ah)))),?_⟩
  exact⟨_,U,A.p,_,A.dx,_,_,U,hH.get 1 U,T.cl_Yard,T.n_Yard_rung,g8 _ _ _,A.g,_,U,.inl (SqL.of (hH.get 8 U)),fun l hl=>q _ l (hH.alloc hl _)⟩
theorem scYk:FnScope ["self","piece"] ["self","piece"] (aj ou):={}
theorem qe (T:Txt K mg t):FnOk P w K mg base CX0 2 t.f_J41 t.d_J41 ["self","piece"] (sp_ykind t.c_Yard):=by
 refine T.F_J41.ok scYk (fun vs H Q E h=>?_) (fun cdv A outer s H vs Q E hr h=>?_)
 ·obtain⟨_,_,_,_,_,rfl,_⟩:=h
  rfl
 ·obtain⟨A,y,L,n,v,rfl,hH,hv,q⟩:=h
  have hu:=cD hr
  refine⟨_,(ae (ao (ax (pv 0) T.cl_Yard T.M_J6 (ls T) hr (qy T) .nil az (aa (pv 1) ah)))
   (ai (aB (d4 hu (aw (pv 0) rfl) (pv 1))))),?_⟩
  refine⟨_,U,A.p,A.dx,_,U,hH.get 1 U,(cn _ _ _).2.2.2.2.2.2.2.1,_,U,A,y,L,n,v,U,hH,hv,?_⟩
  refine⟨_,U,A.p,_,A.dx,_,_,U,hH.get 1 U,T.cl_Yard,T.n_Yard_kinds,dw _ _ _,_,U,A.k,_,U,?_,q⟩
  rw[<- hv]
  exact DGet.k (k:=Sum.inl n) (hH.get 3 U)
end
structure PA where
 p:Addr
 dx:Addr
 m:Addr
 w:Addr
 s:Addr
noncomputable def pfl (A:PA):List (Str×V):=[("mark_sides",.ref A.m),("counter_widths",.ref A.w),("stretches",.ref A.s)]
theorem oG (A:PA):(pfl A).lookup ("mark_sides" : Str)=some (.ref A.m):=by kernel_rfl
theorem oF (A:PA):(pfl A).lookup ("counter_widths" : Str)=some (.ref A.w):=by kernel_rfl
theorem jo (A:PA):(pfl A).lookup ("stretches" : Str)=some (.ref A.s):=by kernel_rfl
theorem cq (A:PA):(pfl A).lookup ("many" : Str)=none/\(pfl A).lookup ("marks" : Str)=none/\(pfl A).lookup ("widths" : Str)=none/\(pfl A).lookup ("row_at" : Str)=none/\(pfl A).lookup ("check_beginning" : Str)=none/\(pfl A).lookup ("check_rows" : Str)=none/\(pfl A).lookup ("check_part" : Str)=none :=
 ⟨by kernel_rfl,by kernel_rfl,by kernel_rfl,by kernel_rfl,by kernel_rfl,by kernel_rfl,by kernel_rfl⟩
theorem pM (A:PA):(pfl A).lookup ("check_called" : Str)=none:=by kernel_rfl
inductive Rw where
 | bell (n:Int)
 | call (s:Int)
 | fin
noncomputable def Rw.ws:Rw->Str
 | .bell _ => "bell"
 | .call _ => "call"
 | .fin => "end"
noncomputable def Rw.ns:Rw->List Int
 | .bell n=>[n]
 | .call s=>[s]
 | .fin=>[]
noncomputable def Rw.v (x:Rw):List V:=.str x.ws::x.ns.map V.int
noncomputable def Rw.ps:Rw->List Str
 | .bell _=>["note"]
 | .call _=>["stretch"]
 | .fin=>[]
noncomputable def Rw.last:Rw->Bool
 | .fin=>true
 | _=>false
noncomputable def Rw.ok (nm nc nr k ns:Nat):Rw->Prop
 | .bell n=>0<=n/\n<=9999
 | .call s=>(k:Int)<s/\s<ns
 | .fin=>True
theorem Rw.len (x:Rw):x.ps.length=x.ns.length:=by cases x <;> rfl
theorem Rw.psl (x:Rw):x.ps.length<=1000:=by cases x <;> simp[Rw.ps]
theorem Rw.nsl (x:Rw):x.ns.length+1<=4:=by cases x <;> simp[Rw.ns]
theorem Rw.lastIn:∀ (x:Rw),x.last=true->(!inV (.str x.ws) [.str "ask",.str "go",.str "end"])=false
 | .fin,_=>(by decide +kernel:(!inV (.str ("end" : Str)) [.str "ask",.str "go",.str "end"])=false)
 | .bell _,h=>nomatch h
 | .call _,h=>nomatch h
theorem cutok {n:Nat} (h1:1<=n) (h2:n<=4):¬ (HT.sIx n 0 (some 1)=0/\HT.sIx n n none=n):=by
 match n with
 | 1=>decide
 | 2=>decide
 | 3=>decide
 | 4=>decide
noncomputable def partsD:List (Str×List Str):=[("bell",["note"]),("set",["mark","side"]),("ask",["mark","row","row"]),("bump",["counter","row"]),("go",["row"]),("call",["stretch"]),("end",[])]
theorem Rw.parts (x:Rw):partsD.lookup x.ws=some x.ps:=by cases x <;> rfl
noncomputable def rwV (rs:List (Addr×Rw)):List V:=rs.map fun x=>V.ref x.1
noncomputable abbrev Ss:=List (Addr×List (Addr×Rw))
noncomputable def ssV (ss:Ss):List V:=ss.map fun z=>V.ref z.1
noncomputable def l9 (nm nc nr k ns:Nat) (p:Str) (n:Int):Prop :=
 (p = "note" /\ 0<=n/\n<=9999)∨(p = "stretch" /\ (k:Int)<n/\n<ns)
theorem Rw.part {nm nc nr k ns:Nat}{x:Rw} (h:x.ok nm nc nr k ns) {i:Nat}{p:Str}{n:Int} (hp:x.ps[i]?=some p) (hn:x.ns[i]?=some n):l9 nm nc nr k ns p n:=by
 cases x with
 | bell k=>
  match i with
  | 0=>cases hp; cases hn; exact .inl ⟨U,h⟩
  | i+1=>cases hp
 | call s=>
  match i with
  | 0=>cases hp; cases hn; exact .inr ⟨U,h.1,h.2⟩
  | i+1=>cases hp
 | fin=>cases hp
structure PIn (C:Addr) (A:PA) (ms ws:List Int) (ss:Ss) (L:Kn):Prop where
 p:(A.p,HO.ins C A.dx (pfl A)) ∈ L
 m:(A.m,HO.lst (ms.map V.int)) ∈ L
 w:(A.w,HO.lst (ws.map V.int)) ∈ L
 s:(A.s,HO.lst (ssV ss)) ∈ L
 l:∀ z ∈ ss,(z.1,HO.lst (rwV z.2)) ∈ L
 r:∀ z ∈ ss,∀ x ∈ z.2,(x.1,HO.tup x.2.v) ∈ L
structure PInN (C:Addr) (A:PA) (ms ws:List Int) (ss:Ss) (N:Kn):Prop where
 p:(A.p,HO.ins C A.dx (pfl A)) ∈ N
 m:(A.m,HO.lst (ms.map V.int)) ∈ N
 w:(A.w,HO.lst (ws.map V.int)) ∈ N
 s:(A.s,HO.lst (ssV ss)) ∈ N
 l:∀ z ∈ ss,(z.1,HO.lst (rwV z.2)) ∈ N
theorem PIn.mono {C:Addr}{A:PA}{ms ws:List Int}{ss:Ss}{L L':Kn} (h:PIn C A ms ws ss L) (s:∀ z ∈ L,z ∈ L'):PIn C A ms ws ss L' :=
 ⟨s _ h.p,s _ h.m,s _ h.w,s _ h.s,fun z hz=>s _ (h.l z hz),fun z hz x hx=>s _ (h.r z hz x hx)⟩
noncomputable def Good (nm nc:Nat) (ss:Ss):Prop:=∀ (k:Nat) z,ss[k]?=some z->(∀ x ∈ z.2,x.2.ok nm nc z.2.length k ss.length)/\∃ a y,z.2.getLast?=some (a,y)/\y.last=true
theorem cX {ss:Ss}{k:Nat}{z:Addr×List (Addr×Rw)} (h:ss[k]?=some z):(ssV ss)[k]?=some (.ref z.1):=by unfold ssV; rw[sx,h]; rfl
theorem mJ {rs:List (Addr×Rw)}{k:Nat}{z:Addr×Rw} (h:rs[k]?=some z):(rwV rs)[k]?=some (.ref z.1):=by unfold rwV; rw[sx,h]; rfl
theorem Good.tr {nm nc:Nat}{ss ss':Ss} (e:ss'.map (·.2)=ss.map (·.2)) (h:Good nm nc ss):Good nm nc ss':=by
 intro k z hz
 have hl:ss'.length=ss.length:=by simpa using congrArg List.length e
 have e2:(ss.map (·.2))[k]?=some z.2:=by rw[<- e,sx,hz]; rfl
 rw[sx] at e2
 obtain⟨z',h1,h2⟩:=Option.map_eq_some_iff.mp e2
 have:=h k z' h1
 rw[h2] at this
 rw[hl]
 exact this
inductive sp_Jq (vs:List V) (H:Hp) (Q:VK) (E_:XK):Prop
 | mk (n:Int) (m:Nat) (_:vs=[.int n,.int m]) (_:0<=n) (_:n<m) (_:Q .non H):sp_Jq vs H Q E_
inductive sp_Jm (vs:List V) (H:Hp) (Q:VK) (E_:XK):Prop
 | mk (n:Int) (_:vs=[.int n]) (_:1<=n) (_:n<=8) (_:Q .non H):sp_Jm vs H Q E_
inductive sp_greatest (vs:List V) (H:Hp) (Q:VK) (E_:XK):Prop
 | mk (n:Nat) (_:vs=[.int n]) (_:n<=8) (_:Q (.int (1*2 ^ n - 1)) H):sp_greatest vs H Q E_
inductive sp_many (C:Addr) (vs:List V) (H:Hp) (Q:VK) (E_:XK):Prop
 | mk (A:PA) (st:List V) (_:vs=[.ref A.p]) (_:H A.p=some (.ins C A.dx (pfl A))) (_:H A.s=some (.lst st)) (_:Q (.int st.length) H):sp_many C vs H Q E_
inductive sp_pmarks (C:Addr) (vs:List V) (H:Hp) (Q:VK) (E_:XK):Prop
 | mk (A:PA) (ms:List V) (L:Kn) (_:vs=[.ref A.p]) (_:Has H L) (_:(A.p,HO.ins C A.dx (pfl A)) ∈ L) (_:(A.m,HO.lst ms) ∈ L) (_:∀ H' l,Has H' ((l,.lst ms)::L)->Q (.ref l) H'):sp_pmarks C vs H Q E_
inductive sp_pwidths (C:Addr) (vs:List V) (H:Hp) (Q:VK) (E_:XK):Prop
 | mk (A:PA) (ms:List V) (L:Kn) (_:vs=[.ref A.p]) (_:Has H L) (_:(A.p,HO.ins C A.dx (pfl A)) ∈ L) (_:(A.w,HO.lst ms) ∈ L) (_:∀ H' l,Has H' ((l,.lst ms)::L)->Q (.ref l) H'):sp_pwidths C vs H Q E_
inductive sp_row_at (C:Addr) (vs:List V) (H:Hp) (Q:VK) (E_:XK):Prop
 | mk (A:PA) (st:List V) (k:Nat) (rl:Addr) (rs:List V) (n:Nat) (v:V) (_:vs=[.ref A.p,.int k,.int n]) (_:H A.p=some (.ins C A.dx (pfl A))) (_:H A.s=some (.lst st)) (_:st[k]?=some (.ref rl)) (_:H rl=some (.lst rs)) (_:rs[n]?=some v) (_:Q v H):sp_row_at C vs H Q E_
inductive sp_check_beginning (C:Addr) (vs:List V) (H:Hp) (Q:VK) (E_:XK):Prop
 | mk (A:PA) (ms ws:List Int) (ss:Ss) (L:Kn) (_:vs=[.ref A.p]) (_:Has H L) (_:PIn C A ms ws ss L) (_:(∀ x ∈ ms,x=1∨x=2)) (_:(∀ x ∈ ws,1<=x/\x<=8)) (_:ss≠[]) (_:Q .non H):sp_check_beginning C vs H Q E_
inductive sp_check_called (C:Addr) (vs:List V) (H:Hp) (Q:VK) (E_:XK):Prop
 | mk (A:PA) (ms ws:List Int) (ss:Ss) (L:Kn) (n:Int) (k:Nat) (_:vs=[.ref A.p,.int n,.int k]) (_:Has H L) (_:PIn C A ms ws ss L) (_:(k:Int)<n) (_:n<ss.length) (_:Q .non H):sp_check_called C vs H Q E_
inductive sp_check_part (C:Addr) (vs:List V) (H:Hp) (Q:VK) (E_:XK):Prop
 | mk (A:PA) (ms ws:List Int) (ss:Ss) (L:Kn) (k:Nat) (p:Str) (n:Int) (z:Addr×List (Addr×Rw)) (_:vs=[.ref A.p,.str p,.int n,.int k]) (_:Has H L) (_:PIn C A ms ws ss L) (_:ss[k]?=some z) (_:l9 ms.length ws.length z.2.length k ss.length p n) (_:Q .non H):sp_check_part C vs H Q E_
inductive sp_check_rows (C:Addr) (vs:List V) (H:Hp) (Q:VK) (E_:XK):Prop
 | mk (A:PA) (ms ws:List Int) (ss:Ss) (L:Kn) (k:Nat) (z:Addr×List (Addr×Rw)) (_:vs=[.ref A.p,.int k]) (_:Has H L) (_:PIn C A ms ws ss L) (_:ss[k]?=some z) (_:(∀ x ∈ z.2,x.2.ok ms.length ws.length z.2.length k ss.length)) (_:(∃ a y,z.2.getLast?=some (a,y)/\y.last=true)) (_:∀ H',Has H' L->Q .non H'):sp_check_rows C vs H Q E_
inductive sp_Pinit (C:Addr) (vs:List V) (H:Hp) (Q:VK) (E_:XK):Prop
 | mk (p dx m0 w0 s0:Addr) (ms ws:List Int) (ss:Ss) (L:Kn) (_:vs=[.ref p,.ref m0,.ref w0,.ref s0]) (_:Has H ((p,.ins C dx [])::(dx,.own p)::L)) (_:(m0,HO.lst (ms.map V.int)) ∈ L) (_:(w0,HO.lst (ws.map V.int)) ∈ L) (_:(s0,HO.lst (ssV ss)) ∈ L) (_:(∀ z ∈ ss,(z.1,HO.lst (rwV z.2)) ∈ L)) (_:(∀ z ∈ ss,∀ x ∈ z.2,(x.1,HO.tup x.2.v) ∈ L)) (_:(∀ x ∈ ms,x=1∨x=2)) (_:(∀ x ∈ ws,1<=x/\x<=8)) (_:ss≠[]) (_:ss.length<=1000) (_:Good ms.length ws.length ss) (_:∀ H' A ss' N,A.p=p->ss'.map (·.2)=ss.map (·.2)->PInN C A ms ws ss' N->PIn C A ms ws ss' (N++L)->Has H' (N++L)->Q .non H'):sp_Pinit C vs H Q E_
section
variable {P:Program}{w:World}{K:PySem.W.Frag}{mg:Str->Option Value}{base:Heap}{t:Adr}
theorem scCm:FnScope ["mark","many"] ["mark","many"] (aj qP):={}
theorem ok_Jq (T:Txt K mg t):FnOk P w K mg base CX0 1 t.f_Jq t.d_Jq ["mark","many"] sp_Jq:=by
 refine T.F_Jq.ok scCm (fun vs H Q E h=>?_) (fun cdv A outer s H vs Q E hr h=>?_)
 ·obtain⟨_,_,rfl,_⟩:=h
  rfl
 ·obtain⟨n,m,rfl,n0,n1,q⟩:=h
  refine⟨_,(ai (aI (PW.pt (cP (ap bO (pv 0) am (ar _)) (bQ (ap f8 (pv 0) (pv 1) (ar _)))))
    (ai aS)
    av)),?_⟩
  refine⟨_,U,_,_,U,U,_,U,ifF (decide_eq_false (by omega)) ?_⟩
  exact⟨_,U,_,U,_,_,U,U,_,U,ifF (decide_eq_false (by omega)) q⟩
theorem scCk:FnScope ["counter","many"] ["counter","many"] (aj rk):={}
theorem ok_Jb (T:Txt K mg t):FnOk P w K mg base CX0 1 t.f_Jb t.d_Jb ["counter","many"] sp_Jq:=by
 refine T.F_Jb.ok scCk (fun vs H Q E h=>?_) (fun cdv A outer s H vs Q E hr h=>?_)
 ·obtain⟨_,_,rfl,_⟩:=h
  rfl
 ·obtain⟨n,m,rfl,n0,n1,q⟩:=h
  refine⟨_,(ai (aI (PW.pt (cP (ap bO (pv 0) am (ar _)) (bQ (ap f8 (pv 0) (pv 1) (ar _)))))
    (ai aS)
    av)),?_⟩
  refine⟨_,U,_,_,U,U,_,U,ifF (decide_eq_false (by omega)) ?_⟩
  exact⟨_,U,_,U,_,_,U,U,_,U,ifF (decide_eq_false (by omega)) q⟩
theorem scCw:FnScope ["row","many"] ["row","many"] (aj qI):={}
theorem oI (T:Txt K mg t):FnOk P w K mg base CX0 1 t.f_Jx t.d_Jx ["row","many"] sp_Jq:=by
 refine T.F_Jx.ok scCw (fun vs H Q E h=>?_) (fun cdv A outer s H vs Q E hr h=>?_)
 ·obtain⟨_,_,rfl,_⟩:=h
  rfl
 ·obtain⟨n,m,rfl,n0,n1,q⟩:=h
  refine⟨_,(ai (aI (PW.pt (cP (ap bO (pv 0) am (ar _)) (bQ (ap f8 (pv 0) (pv 1) (ar _)))))
    (ai aS)
    av)),?_⟩
  refine⟨_,U,_,_,U,U,_,U,ifF (decide_eq_false (by omega)) ?_⟩
  exact⟨_,U,_,U,_,_,U,U,_,U,ifF (decide_eq_false (by omega)) q⟩
theorem scCi:FnScope ["width"] ["width"] (aj qT):={}
theorem ok_Jm (T:Txt K mg t):FnOk P w K mg base CX0 1 t.f_Jm t.d_Jm ["width"] sp_Jm:=by
 refine T.F_Jm.ok scCi (fun vs H Q E h=>?_) (fun cdv A outer s H vs Q E hr h=>?_)
 ·obtain⟨_,rfl,_⟩:=h
  rfl
 ·obtain⟨n,rfl,n0,n1,q⟩:=h
  refine⟨_,(ai (aI (PW.pt (cP (ap bO (pv 0) am (ar _)) (bQ (ap iu (pv 0) (bG (by rfl) T.g_WIDEST T.r_WIDEST) (ar _)))))
    (ai aS)
    av)),?_⟩
  refine⟨_,U,_,_,U,U,_,U,ifF (decide_eq_false (by omega)) ?_⟩
  exact⟨_,U,_,_,U,U,_,U,ifF (decide_eq_false (by omega)) q⟩
theorem scCq:FnScope ["stretch","many"] ["stretch","many"] (aj rj):={}
theorem lr (T:Txt K mg t):FnOk P w K mg base CX0 1 t.f_Jc t.d_Jc ["stretch","many"] sp_Jq:=by
 refine T.F_Jc.ok scCq (fun vs H Q E h=>?_) (fun cdv A outer s H vs Q E hr h=>?_)
 ·obtain⟨_,_,rfl,_⟩:=h
  rfl
 ·obtain⟨n,m,rfl,n0,n1,q⟩:=h
  refine⟨_,(ai (aI (PW.pt (cP (ap bO (pv 0) am (ar _)) (bQ (ap f8 (pv 0) (pv 1) (ar _)))))
    (ai aS)
    av)),?_⟩
  refine⟨_,U,_,_,U,U,_,U,ifF (decide_eq_false (by omega)) ?_⟩
  exact⟨_,U,_,U,_,_,U,U,_,U,ifF (decide_eq_false (by omega)) q⟩
theorem scPm:FnScope ["self"] ["self"] (aj qX):={}
theorem fu (T:Txt K mg t):FnOk P w K mg base CX0 1 t.f_Ji t.d_Ji ["self"] (sp_many t.c_Program):=by
 refine T.F_Ji.ok scPm (fun vs H Q E h=>?_) (fun cdv A outer s H vs Q E hr h=>?_)
 ·obtain⟨_,_,rfl,_⟩:=h
  rfl
 ·obtain⟨A,st,rfl,g1,g2,q⟩:=h
  refine⟨_,(ai (aB (aR aJ (by rfl) T.z_len (by rfl) (aa (aw (pv 0) rfl) ah)))),?_⟩
  exact⟨_,U,A.p,_,A.dx,_,_,U,g1,T.cl_Program,T.n_Program_Jt,jo _,A.s,_,U,.inl (SqL.of g2),q⟩
theorem scPk:FnScope ["self"] ["self"] (aj q5):={}
theorem ok_Je (T:Txt K mg t):FnOk P w K mg base CX0 1 t.f_Je t.d_Je ["self"] (sp_pmarks t.c_Program):=by
 refine T.F_Je.ok scPk (fun vs H Q E h=>?_) (fun cdv A outer s H vs Q E hr h=>?_)
 ·obtain⟨_,_,_,rfl,_⟩:=h
  rfl
 ·obtain⟨A,ms,L,rfl,hH,m1,m2,q⟩:=h
  refine⟨_,(ai (aB (bu bh (by rfl) T.z_list (by rfl) (aa (aw (pv 0) rfl) ah)))),?_⟩
  exact⟨_,U,A.p,_,A.dx,_,_,U,hH.at_ _ m1,T.cl_Program,T.n_Program_mark_sides,oG _,A.m,_,U,.inl (SqL.of (hH.at_ _ m2)),fun l hl=>q _ l (hH.alloc hl _)⟩
theorem scPw:FnScope ["self"] ["self"] (aj rA):={}
theorem ok_J8 (T:Txt K mg t):FnOk P w K mg base CX0 1 t.f_J8 t.d_J8 ["self"] (sp_pwidths t.c_Program):=by
 refine T.F_J8.ok scPw (fun vs H Q E h=>?_) (fun cdv A outer s H vs Q E hr h=>?_)
 ·obtain⟨_,_,_,rfl,_⟩:=h
  rfl
 ·obtain⟨A,ms,L,rfl,hH,m1,m2,q⟩:=h
  refine⟨_,(ai (aB (bu bh (by rfl) T.z_list (by rfl) (aa (aw (pv 0) rfl) ah)))),?_⟩
  exact⟨_,U,A.p,_,A.dx,_,_,U,hH.at_ _ m1,T.cl_Program,T.n_Program_counter_widths,oF _,A.w,_,U,.inl (SqL.of (hH.at_ _ m2)),fun l hl=>q _ l (hH.alloc hl _)⟩
theorem scCb:FnScope ["self","side","width"] ["self"] (aj rJ):={}
theorem ok_J0 (T:Txt K mg t):FnOk P w K mg base CX0 2 t.f_J0 t.d_J0 ["self"] (sp_check_beginning t.c_Program):=by
 refine T.F_J0.ok scCb (fun vs H Q E h=>?_) (fun cdv A outer s H vs Q E hr h=>?_)
 ·obtain⟨_,_,_,_,_,rfl,_⟩:=h
  rfl
 ·obtain⟨A,ms,ws,ss,L,rfl,hH,pin,hm,hw,hst,q⟩:=h
  have hL:∀ {z:Addr×HO},z ∈ L->H z.1=some z.2:=fun m=>hH.at_ _ m
  refine⟨_,(ae (bi PassesOwn.never rfl (bF (aw (pv 0) rfl)) (aq (i:=1) scCb.nd rfl (Or.inl rfl))
    (ai (ao (pcl (jr T) hr T.m_Jo T.F_Jo.kp (nw T) (aa (pv 1) ah)))))
   (ae (bi PassesOwn.never rfl (bF (aw (pv 0) rfl)) (aq (i:=2) scCb.nd rfl (Or.inl rfl))
    (ai (ao (pcl (ok_Jm T) hr T.m_Jm T.F_Jm.kp (b_Jm T) (aa (pv 2) ah)))))
   (ai (aI (eZ (db (aw (pv 0) rfl) (by intro _; rfl)))
    (ai aS)
    av)))),?_⟩
  refine⟨_,U,A.p,_,A.dx,_,_,U,hL pin.p,T.cl_Program,T.n_Program_mark_sides,oG _,A.m,U,⟨_,SqL.of (hL pin.m)⟩,cE (xs:=ms.map V.int) (fun i σ H'=>∃ (o1 o2:Option V),σ=[some (.ref A.p),o1,o2]/\H'=H) ⟨_,_,U,U⟩ (fun i σ H' _ ⟨_,_,_,e⟩=>by rw[e]; exact SqL.of (hL pin.m)) ?_ ?_⟩
  ·rintro i x σ H' hx ⟨o1,o2,rfl,rfl⟩
   rw[sx] at hx
   obtain⟨n,hn,rfl⟩:=Option.map_eq_some_iff.mp hx
   exact⟨_,U,n,U,hm n (si hn),_,_,U,U⟩
  ·rintro σ H' ⟨o1,o2,rfl,rfl⟩
   refine⟨_,U,A.p,_,A.dx,_,_,U,hL pin.p,T.cl_Program,T.n_Program_counter_widths,oF _,A.w,U,⟨_,SqL.of (hL pin.w)⟩,cE (xs:=ws.map V.int) (fun i σ H1=>∃ (o1 o2:Option V),σ=[some (.ref A.p),o1,o2]/\H1=H') ⟨_,_,U,U⟩ (fun i σ H1 _ ⟨_,_,_,e⟩=>by rw[e]; exact SqL.of (hL pin.w)) ?_ ?_⟩
   ·rintro i x σ H1 hx ⟨o1,o2,rfl,rfl⟩
    rw[sx] at hx
    obtain⟨n,hn,rfl⟩:=Option.map_eq_some_iff.mp hx
    have:=hw n (si hn)
    exact⟨_,U,n,U,this.1,this.2,_,_,U,U⟩
   ·rintro σ H1 ⟨o1,o2,rfl,rfl⟩
    refine⟨_,U,A.p,_,A.dx,_,_,U,hL pin.p,T.cl_Program,T.n_Program_Jt,jo _,true,.inl ⟨_,SqL.of (hL pin.s),?_⟩,dq q⟩
    cases ss with
    | nil=>exact absurd rfl hst
    | cons a b=>rfl
theorem scCc:FnScope ["self","called","stretch"] ["self","called","stretch"] (aj rH):={}
theorem ok_J1 (T:Txt K mg t):FnOk P w K mg base CX0 2 t.f_J1 t.d_J1 ["self","called","stretch"] (sp_check_called t.c_Program):=by
 refine T.F_J1.ok scCc (fun vs H Q E h=>?_) (fun cdv A outer s H vs Q E hr h=>?_)
 ·obtain⟨_,_,_,_,_,_,_,rfl,_⟩:=h
  rfl
 ·obtain⟨A,ms,ws,ss,L,n,k,rfl,hH,pin,h0,h1,q⟩:=h
  have hL:∀ {z:Addr×HO},z ∈ L->H z.1=some z.2:=fun m=>hH.at_ _ m
  refine⟨_,(ae (ao (pcl (lr T) hr T.m_Jc T.F_Jc.kp (qx T) (aa (pv 1) (aa (aT (pv 0) T.cl_Program T.M_Ji (fu T) hr (ja T) .nil az) ah))))
   (ai (aI (ap op_le (pv 1) (pv 2) (ar _))
    (ai aS)
    av))),?_⟩
  refine⟨_,U,_,U,A.p,A.dx,_,U,hL pin.p,(cq _).1,A,_,U,hL pin.p,hL pin.s,n,_,U,by omega,(by unfold ssV; rw[su]; exact h1),?_⟩
  exact⟨_,U,_,U,_,_,U,U,_,U,ifF (decide_eq_false (by omega)) q⟩
end
theorem fU {X:Cx}{K:PySem.W.Frag} (hK:X.K=K):dG X (.type "list") (fun xs H Q=>∃ p ys,xs=[.ref p]/\(SqL K H p ys∨SqT K H p ys)/\∀ l,H l=none->Q (.ref l) (upd H l (.lst ys))):=by subst hK; exact bh
section
variable {P:Program}{w:World}{K:PySem.W.Frag}{mg:Str->Option Value}{base:Heap}{t:Adr}
theorem scPt:FnScope ["self","part","number","stretch"] ["self","part","number","stretch"] (aj rF):={}
theorem ok_J3 (T:Txt K mg t):FnOk P w K mg base CX0 3 t.f_J3 t.d_J3 ["self","part","number","stretch"] (sp_check_part t.c_Program):=by
 refine T.F_J3.ok scPt (fun vs H Q E h=>?_) (fun cdv A outer s H vs Q E hr h=>?_)
 ·obtain⟨_,_,_,_,_,_,_,_,_,rfl,_⟩:=h
  rfl
 ·obtain⟨A,ms,ws,ss,L,k,p,n,z,rfl,hH,pin,hz,hp,q⟩:=h
  have hL:∀ {z:Addr×HO},z ∈ L->H z.1=some z.2:=fun m=>hH.at_ _ m
  have hzm:=si hz
  refine⟨_,(ai (aI (ap br (pv 1) aL (ar _))
    (ai (ao (pcl (oM T) hr T.m_Jp T.F_Jp.kp (rR T) (aa (pv 2) ah))))
    (ai (aI (ap br (pv 1) aL (ar _))
      (ai (ao (pcl (ok_Jq T) hr T.m_Jq T.F_Jq.kp (b_Jq T) (aa (pv 2) (aa (aR aJ (by rfl) T.z_len (by rfl) (aa (aw (pv 0) rfl) ah)) ah)))))
      (ai (aI (ap br (pv 1) aL (ar _))
        (ai (ao (pcl (jr T) hr T.m_Jo T.F_Jo.kp (nw T) (aa (pv 2) ah))))
        (ai (aI (ap br (pv 1) aL (ar _))
          (ai (ao (pcl (ok_Jb T) hr T.m_Jb T.F_Jb.kp (b_Jb T) (aa (pv 2) (aa (aR aJ (by rfl) T.z_len (by rfl) (aa (aw (pv 0) rfl) ah)) ah)))))
          (ai (aI (ap br (pv 1) aL (ar _))
            (ai (ao (pcl (oI T) hr T.m_Jx T.F_Jx.kp (rO T) (aa (pv 2) (aa (aR aJ (by rfl) T.z_len (by rfl) (aa (aM aN (aw (pv 0) rfl) (pv 3)) ah)) ah)))))
            (ai (ao (ax (pv 0) T.cl_Program T.M_J1 (ok_J1 T) hr (b_J1 T) .nil az (aa (pv 2) (aa (pv 3) ah))))))))))))))),?_⟩
  rcases hp with ⟨rfl,h0,h1⟩ | ⟨rfl,h0,h1⟩
  ·refine⟨_,U,U,_,U,ifT (by decide +kernel) ?_⟩
   exact⟨_,U,n,U,h0,h1,q⟩
  ·refine⟨_,U,U,_,U,ifF (by decide +kernel) ?_⟩
   refine⟨_,U,U,_,U,ifF (by decide +kernel) ?_⟩
   refine⟨_,U,U,_,U,ifF (by decide +kernel) ?_⟩
   refine⟨_,U,U,_,U,ifF (by decide +kernel) ?_⟩
   refine⟨_,U,U,_,U,ifF (by decide +kernel) ?_⟩
   exact⟨_,U,A.p,A.dx,_,U,hL pin.p,pM _,_,U,_,U,A,ms,ws,ss,L,n,k,U,hH,pin,h0,h1,q⟩
theorem scPr:FnScope ["self","stretch","rows","row","part","number"] ["self","stretch"] (aj rG):={}
theorem ok_J2 (T:Txt K mg t):FnOk P w K mg base CX0 4 t.f_J2 t.d_J2 ["self","stretch"] (sp_check_rows t.c_Program):=by
 refine T.F_J2.ok scPr (fun vs H Q E h=>?_) (fun cdv A outer s H vs Q E hr h=>?_)
 ·obtain⟨_,_,_,_,_,_,_,rfl,_⟩:=h
  rfl
 ·obtain⟨A,ms,ws,ss,L,k,z,rfl,hH,pin,hz,hok,⟨la,ly,hla,hlast⟩,q⟩:=h
  obtain⟨aE,eE,hE⟩:=T.x_PARTS
  have T_r_PARTS:RelV (.ref aE) t.u_PARTS:=by rw[eE]; rfl
  obtain⟨aP,oP,its,nn,eP,k1,k2,k3,k4,k5⟩:=T.x_LAST_WORDS
  have T_r_LAST_WORDS:RelV (.ref aP) t.u_LAST_WORDS:=by rw[eP]; rfl
  have hzm:=si hz
  refine⟨_,(ae (aH (i:=2) scPr.nd rfl (Or.inl rfl) (aM aN (aw (pv 0) rfl) (pv 1)))
   (ae (aI (eZ (db (pv 2) (by intro _; rfl)))
    (ai aS)
    av)
   (ae (bi PassesOwn.never rfl (bF (pv 2)) (aq (i:=3) scPr.nd rfl (Or.inl rfl))
    (ai (bi PassesOwn.never rfl (kY (by rfl) T.z_zip (aa (pP (bG (by rfl) T.g_PARTS T_r_PARTS) (aM aY (pv 3) am) (fun _ _=>rfl)) (aa (cx pC (pv 3) (dg am) dh) ah))) (bt rfl (ay (aq (i:=4) scPr.nd rfl (Or.inl rfl)) (ay (aq (i:=5) scPr.nd rfl (Or.inl rfl)) ba)))
      (ai (ao (ax (pv 0) T.cl_Program T.M_J3 (ok_J3 T) hr (b_J3 T) .nil az (aa (pv 4) (aa (pv 5) (aa (pv 1) ah)))))))))
   (ai (aI (ap gX (aM aY (aM aN (pv 2) (pe_un oZ am) (fun _ _=>rfl)) am) (bG (by rfl) T.g_LAST_WORDS T_r_LAST_WORDS) (by rfl))
    (ai aS)
    av))))),?_⟩
  have hL:∀ {H':Hp}{z:Addr×HO},Has H' L->z ∈ L->H' z.1=some z.2:=fun h m=>h.at_ _ m
  have hne:rwV z.2≠[]:=by
   intro e
   have:z.2=[]:=by simpa [rwV] using e
   rw[this] at hla
   cases hla
  refine⟨_,U,A.p,_,A.dx,_,_,U,hL hH pin.p,T.cl_Program,T.n_Program_Jt,jo _,_,U,A.s,_,_,_,U,U,SqL.of (hL hH pin.s),aC (cX hz),?_⟩
  refine⟨_,U,true,.inl ⟨_,SqL.of (hL hH (pin.l z hzm)),?_⟩,dq ?_⟩
  ·cases e:rwV z.2 with
   | nil=>exact absurd e hne
   | cons a b=>rfl
  refine⟨_,U,z.1,U,⟨_,SqL.of (hL hH (pin.l z hzm))⟩,cE (xs:=rwV z.2) (fun i σ H'=>∃ (o1 o2 o3:Option V),σ=[some (.ref A.p),some (.int k),some (.ref z.1),o1,o2,o3]/\Has H' L) ⟨_,_,_,U,hH⟩ (fun i σ H' _ ⟨_,_,_,_,e⟩=>SqL.of (hL e (pin.l z hzm))) ?_ ?_⟩
  ·rintro i x σ H' hx ⟨o1,o2,o3,rfl,h1⟩
   unfold rwV at hx
   rw[sx] at hx
   obtain⟨n,hn,rfl⟩:=Option.map_eq_some_iff.mp hx
   have hnm:=si hn
   have m2:=hok n hnm
   have g1:=hL h1 (pin.r z hzm n hnm)
   have hcut:bV (.str n.2.ws::n.2.ns.map V.int) (some 1) none=n.2.ns.map V.int:=by cases n.2 <;> rfl
   refine⟨_,U,n.1,_,_,_,U,U,SqT.of g1,aC (j:=0) rfl,_,aE,_,n.2.ps,U,U,hE,n.2.parts,n.2.psl,fun b hb=>?_⟩
   refine⟨_,U,_,U,n.1,_,U,SqT.of g1,?_,fun p hp=>?_⟩
   ·unfold Rw.v
    exact cutok (by rw[sG,su]; omega) (by rw[sG,su]; exact n.2.nsl)
   unfold Rw.v
   rw[hcut]
   have h2:=h1.alloc hp (.tup (n.2.ns.map V.int))
   refine⟨b,p,U,⟨_,hb _⟩,⟨_,SqT.of (h2.get 0 U)⟩,lL (xs:=n.2.ps.map V.str) (ys:=n.2.ns.map V.int) (by rw[su,su]; exact n.2.len) (fun i σ H'=>∃ (o2 o3:Option V),σ=[some (.ref A.p),some (.int k),some (.ref z.1),some (.ref n.1),o2,o3]/\Has H' ((p,.tup (n.2.ns.map V.int))::L)) ⟨_,_,U,h2⟩ (fun i σ H' _ ⟨_,_,_,e⟩=>⟨hb _,SqT.of (e.get 0 U)⟩) ?_ ?_⟩
   ·rintro j x y σ H3 p3 hx hy ⟨o4,o5,rfl,h3⟩ hp3
    rw[sx] at hx hy
    obtain⟨x,hx1,rfl⟩:=Option.map_eq_some_iff.mp hx
    obtain⟨y,hy1,rfl⟩:=Option.map_eq_some_iff.mp hy
    have h4:=h3.alloc hp3 (.tup [.str x,.int y])
    refine⟨p3,_,U,SqT.of (h4.get 0 U),U,_,_,U,_,_,U,U,?_⟩
    exact⟨_,U,A.p,A.dx,_,U,hL h4.tail.tail pin.p,(cq _).2.2.2.2.2.2,_,U,_,U,_,U,A,ms,ws,ss,L,k,x,y,z,U,h4.tail.tail,pin,hz,Rw.part m2 hx1 hy1,_,_,U,h4.tail⟩
   ·rintro σ H3 ⟨o4,o5,rfl,h3⟩
    exact⟨_,_,_,U,h3.tail⟩
  ·rintro σ H' ⟨o1,o2,o3,rfl,h1⟩
   obtain⟨rs',ers⟩:=List.getLast?_eq_some_iff.mp hla
   have eV:rwV z.2=rwV rs'++[.ref la]:=by rw[ers]; unfold rwV; rw[sw]; rfl
   have g1:=hL h1 (pin.l z hzm)
   have g2:=hL h1 (pin.r z hzm (la,ly) (by rw[ers]; simp))
   rw[eV] at g1
   exact⟨_,U,1,U,z.1,_,_,_,U,U,SqL.of g1,l7 _ _,la,_,_,_,U,U,SqT.of g2,aC (j:=0) rfl,aP,_,U,.inr (.inr ⟨oP,its,nn,k1,k2,k3,k4,k5⟩),U,U,_,U,ifF (ly.lastIn hlast) (q _ h1)⟩
theorem scPn:FnScope ["self","marks","widths","stretches","stretch"] ["self","marks","widths","stretches"] (aj pD):={}
theorem ok_Jh (T:Txt K mg t):FnOk P w K mg base CX0 5 t.f_Jh t.d_Jh ["self","marks","widths","stretches"] (sp_Pinit t.c_Program):=by
 refine T.F_Jh.ok scPn (fun vs H Q E h=>?_) (fun cdv A outer s H vs Q E hr h=>?_)
 ·obtain⟨_,_,_,_,_,_,_,_,_,rfl,_⟩:=h
  rfl
 ·obtain⟨p,dx,m0,w0,s0,ms,ws,ss,L,rfl,hH,mm0,mw0,ms0,ml,mr,hms,hws,hne,hlen,hgood,q⟩:=h
  refine⟨_,(ae (aZ (pv 0) (bu bh (by rfl) T.z_list (by rfl) (aa (pv 1) ah)) rfl)
   (ae (aZ (pv 0) (bu bh (by rfl) T.z_list (by rfl) (aa (pv 2) ah)) rfl)
   (ae (aZ (pv 0) (fZ (esc:=aj pD) (k:=1) ["rows","self","marks","widths","stretches","stretch"] rfl (bF (pv 3)) (fun _ _ _ _ _=>by exact(aq (i:=0) (show List.Nodup (["rows","self","marks","widths","stretches","stretch"]:List Str) from by decide +kernel) rfl (Or.inl rfl))) (fun _ _ _ _ _=>by exact bI) (fun _ _ _ _ _=>by exact(bu (fU (K:=K) rfl) (by rfl) T.z_list (by rfl) (aa (pv 0) ah))) rfl (by decide +kernel) (by decide +kernel) rfl (by decide +kernel) (by rfl) (fun _ _ h _=>h) (by decide +kernel)) rfl)
   (ae (ao (aT (pv 0) T.cl_Program T.M_J0 (ok_J0 T) hr (b_J0 T) .nil az))
   (ai (bi PassesOwn.never rfl (bp (by rfl) T.z_range (aa (aT (pv 0) T.cl_Program T.M_Ji (fu T) hr (ja T) .nil az) ah)) (aq (i:=4) scPn.nd rfl (Or.inl rfl))
    (ai (ao (ax (pv 0) T.cl_Program T.M_J2 (ok_J2 T) hr (b_J2 T) .nil az (aa (pv 4) ah)))))))))),?_⟩
  refine⟨_,U,m0,_,U,.inl (SqL.of (hH.tail.tail.at_ _ mm0)),fun a1 ha1=>?_⟩
  have h1:=hH.alloc ha1 (.lst (ms.map V.int))
  refine⟨_,U,p,_,dx,_,U,h1.get 1 U,T.cl_Program,T.n_Program_mark_sides,(show 0<1000 by decide),?_⟩
  have h2:=h1.puti 1 U (.ins t.c_Program dx [("mark_sides",.ref a1)])
  refine⟨_,U,w0,_,U,.inl (SqL.of (h2.tail.tail.tail.at_ _ mw0)),fun a2 ha2=>?_⟩
  have h3:=h2.alloc ha2 (.lst (ws.map V.int))
  refine⟨_,U,p,_,dx,_,U,h3.get 2 U,T.cl_Program,T.n_Program_counter_widths,(show 1<1000 by decide),?_⟩
  have h4:=h3.puti 2 U (.ins t.c_Program dx [("mark_sides",.ref a1),("counter_widths",.ref a2)])
  refine⟨_,U,s0,U,⟨_,SqL.of (h4.tail.tail.tail.tail.at_ _ ms0)⟩,fun D hD=>?_⟩
  have inL:∀ {H':Hp}{N:Kn}{z c1 c2 c3 c4 c5:Addr×HO},Has H' (c1::(N++(c2::c3::c4::c5::L)))->z ∈ L->H' z.1=some z.2:=fun h m=>h.at_ _ (r9 _ (se _ (by simp[m])))
  refine⟨fun n m zs H'=>∃ (s1:Ss) (N:Kn),m=ss.length - n/\n<=ss.length/\s1.map (·.2)=(ss.take n).map (·.2)/\zs=ssV s1/\(∀ z ∈ s1,(z.1,HO.lst (rwV z.2)) ∈ N)/\Has H' ((D,.lst zs)::(N++((a2,.lst (ws.map V.int))::(a1,.lst (ms.map V.int))::(p,.ins t.c_Program dx [("mark_sides",.ref a1),("counter_widths",.ref a2)])::(dx,.own p)::L))),⟨_,[],[],U,Nat.zero_le _,U,U,by simp,h4.alloc hD _⟩,?_⟩
  rintro n m zs H5 ⟨s1,N,rfl,hn,es1,rfl,hN,h5⟩
  refine⟨h5.get 0 U,?_⟩
  have g0:=inL h5 ms0
  have ls1:s1.length=n:=by
   have:=congrArg List.length es1
   simp at this
   omega
  by_cases hlt:n<ss.length
  ·have hx0:(ssV ss)[n]?=some (.ref ss[n].1):=cX (sq hlt)
   refine .inr ⟨⟨_,_,SqL.of g0,hx0⟩,?_⟩
   rintro x H6 ⟨rfl,hx⟩
   have e1:=hx _ (SqL.of g0)
   rw[hx0] at e1
   cases e1
   refine⟨U,dH ?_⟩
   refine⟨_,U,ss[n].1,_,U,.inl (SqL.of (inL h5 (ml _ (List.getElem_mem hlt)))),fun rl hrl=>?_⟩
   have h6:=h5.alloc hrl (.lst (rwV ss[n].2))
   refine⟨sizeOk (by unfold ssV; rw[su]; omega),h6.get 1 U,ss.length - (n+1),by omega,s1++[(rl,ss[n].2)],(rl,.lst (rwV ss[n].2))::N,U,hlt,?_,?_,?_,?_⟩
   ·rw[sw,es1,List.take_succ,sw,sq hlt]
    rfl
   ·unfold ssV
    rw[sw]
    rfl
   ·intro z hz
    rcases sC.mp hz with hz | hz
    ·exact r9 _ (hN z hz)
    ·cases sy.mp hz
     exact sg
   ·exact(h6.puti 1 U _).swap2
  ·have en:n=ss.length:=by omega
   rw[en,List.take_length] at es1
   refine .inl ⟨⟨_,SqL.of g0,by unfold ssV; rw[su]; omega⟩,?_⟩
   have h6:=Has.comm (X:=(D,HO.lst (ssV s1))::N) (Y:=[(a2,.lst (ws.map V.int)),(a1,.lst (ms.map V.int)),(p,.ins t.c_Program dx [("mark_sides",.ref a1),("counter_widths",.ref a2)]),(dx,.own p)]) h5
   refine⟨_,U,p,_,dx,_,U,h6.get 2 U,T.cl_Program,T.n_Program_Jt,(show 2<1000 by decide),?_⟩
   have h7:=h6.puti 2 U (.ins t.c_Program dx (pfl ⟨p,dx,a1,a2,D⟩))
   have ef:aX "stretches" (.ref D) [("mark_sides",.ref a1),("counter_widths",.ref a2)]=pfl ⟨p,dx,a1,a2,D⟩:=by kernel_rfl
   have h8:=h7
   rw[<- ef] at h8
   rw[ef] at h8 ⊢
   obtain⟨N2,eN2⟩:∃ N2:Kn,[(a2,HO.lst (ws.map V.int)),(a1,.lst (ms.map V.int)),(p,.ins t.c_Program dx (pfl ⟨p,dx,a1,a2,D⟩)),(dx,.own p)]++((D,HO.lst (ssV s1))::N)=N2:=⟨_,U⟩
   have h9:Has (upd H5 p (.ins t.c_Program dx (pfl ⟨p,dx,a1,a2,D⟩))) (N2++L):=by rw[<- eN2]; exact h7
   have pin:PIn t.c_Program ⟨p,dx,a1,a2,D⟩ ms ws s1 (N2++L):=by
    rw[<- eN2]
    refine⟨by simp,by simp,by simp,by simp,fun z hz=>?_,fun z hz x hx=>?_⟩
    ·exact sk _ (by simp[hN z hz])
    ·have:z.2 ∈ ss.map (·.2):=by rw[<- es1]; exact sF hz
     obtain⟨z',h1,h2⟩:=sQ.mp this
     exact se _ (mr z' h1 x (by rw[h2]; exact hx))
   have pinN:PInN t.c_Program ⟨p,dx,a1,a2,D⟩ ms ws s1 N2:=by
    rw[<- eN2]
    exact⟨by simp,by simp,by simp,by simp,fun z hz=>by simp[hN z hz]⟩
   obtain⟨A,hA⟩:∃ A:PA,(⟨p,dx,a1,a2,D⟩:PA)=A:=⟨_,U⟩
   have hp:p=A.p:=by rw[<- hA]
   rw[hA] at pin pinN
   clear h7 h8 h6 h5
   generalize upd H5 p (.ins t.c_Program dx (pfl ⟨p,dx,a1,a2,D⟩))=H6 at h9 ⊢
   clear hA eN2
   subst hp
   have hL:∀ {H':Hp}{z:Addr×HO},Has H' (N2++L)->z ∈ N2++L->H' z.1=some z.2:=fun h m=>h.at_ _ m
   have lss:s1.length=ss.length:=by rw[ls1,en]
   refine⟨_,U,A.p,A.dx,_,U,hL h9 pin.p,(cq _).2.2.2.2.1,A,ms,ws,s1,_,U,h9,pin,hms,hws,(by intro e; rw[e] at lss; exact hne (List.length_eq_zero_iff.mp lss.symm)),?_⟩
   refine⟨_,U,A.p,A.dx,_,U,hL h9 pin.p,(cq _).1,A,_,U,hL h9 pin.p,hL h9 pin.s,_,U,(by omega),(by unfold ssV; rw[su]; omega),bw (fun i σ H'=>∃ (o:Option V),σ=[some (.ref A.p),some (.ref m0),some (.ref w0),some (.ref s0),o]/\Has H' (N2++L)) ⟨_,U,h9⟩ ?_ ?_⟩
   ·rintro i σ H1 hi ⟨o,rfl,h8⟩
    have hi:i<s1.length:=by
     have:i<((ssV s1).length:Int).toNat:=hi
     unfold ssV at this
     rw[su] at this
     omega
    have hz:=sq hi
    have hg:=(hgood.tr es1) i _ hz
    rw[Int.zero_add]
    exact⟨_,U,A.p,A.dx,_,U,hL h8 pin.p,(cq _).2.2.2.2.2.1,_,U,A,ms,ws,s1,_,i,_,U,h8,pin,hz,hg.1,hg.2,fun H2 h9=>⟨_,U,h9⟩⟩
   ·rintro σ H1 ⟨o,rfl,h8⟩
    exact q _ A s1 N2 rfl es1 pinN pin h8
end
theorem fR {α:Type}:∀ (L:List α) (i:Nat) (hi:i<L.length),L.Perm (L[i]::L.eraseIdx i)
 | x::L,0,_=>List.Perm.refl _
 | x::L,i+1,hi=>by
  have:=fR L i (by simpa using hi)
  simp only[List.getElem_cons_succ,List.eraseIdx_cons_succ]
  exact(this.cons x).trans (List.Perm.swap _ _ _)
theorem qu {H:Hp} (h:Has H L) (i:Nat) {x:Addr×HO} (e:L[i]?=some x):Has H (x::L.eraseIdx i):=by
 obtain⟨hi,rfl⟩:=List.getElem?_eq_some_iff.mp e
 exact h.perm (fR L i hi)
theorem dt {H:Hp}{L L':Kn} (h:Has H L) (e:L=L'):Has H L':=e ▸ h
theorem sz {n:Nat} (h:n<=1000000):n<=sizeLine:=Nat.le_of_lt (sizeOk h)
theorem sz_ (n:Nat) (h:n<=1000000:=by decide):n<=sizeLine:=sz h
theorem Kd.out_point {k:Kd} (h:k.point=true) (e s:Int):k.out e s=if e=0 then .int s else .int 0:=by
 have ns:¬ k=.stop:=fun h'=>by rw[h'] at h; cases h
 unfold Kd.out; rw[if_neg ns,if_pos h]
theorem Kd.out_int {k:Kd} (h:¬ k=.stop) (e s:Int):∃ i,k.out e s=.int i:=by
 unfold Kd.out; rw[if_neg h]
 split
 ·split
  ·exact⟨_,U⟩
  ·exact⟨_,U⟩
 ·exact⟨_,U⟩
theorem Kd.many_point {k:Kd} (h:k.point=true):k.many=3:=by cases k <;> first | rfl | cases h
theorem Kd.side12 {k:Kd}{e s:Int} (e0:0<=e) (e1:e<k.many) (h:s=1∨s=2):k.side e s=1∨k.side e s=2:=by
 unfold Kd.side
 split
 ·rename_i hp
  have:=Kd.many_point hp
  split
  ·split <;> omega
  ·split <;> omega
 ·exact h
noncomputable abbrev En:=Addr×Int×Int
structure Wd where
 kf:Int->Option Kd
 nf:Int->Int
 rf:Int->Int
 mf:Int->Int->Option En
structure Sd where
 ss:List Int
 at_:Option En
 rg:List Int
noncomputable def Wd.sv (w:Wd) (s:Sd) (n:Int):Int:=s.ss.getD (w.rf n).toNat 0
noncomputable def Wd.ok (w:Wd) (z:En):Prop:=∃ k,w.kf z.2.1=some k/\0<=z.2.2/\z.2.2<k.many
noncomputable def aW (w:Wd) (s:Sd) (z:En) (k:Kd) (z':En):Sd :=
 ⟨if k.point then s.ss.set (w.rf z.2.1).toNat (k.side z.2.2 (w.sv s z.2.1)) else s.ss,some z',if k=.bell then s.rg++[w.nf z.2.1] else s.rg⟩
noncomputable def Wd.nx (w:Wd) (s:Sd):Option Sd :=
 match s.at_ with
 | none=>none
 | some z=>match w.kf z.2.1 with
  | none=>none
  | some k=>match k.out z.2.2 (w.sv s z.2.1) with
   | .int o=>(w.mf z.2.1 o).map (aW w s z k)
   | _=>none
noncomputable def Wd.why (w:Wd) (s:Sd):V :=
 match s.at_ with
 | none=>.str "none"
 | some z=>match w.kf z.2.1 with
  | none=>.non
  | some k=>match k.out z.2.2 (w.sv s z.2.1) with
   | .int o=>(match w.mf z.2.1 o with | none=>.str "loose" | some _=>.non)
   | _=>.str "stop"
noncomputable def Wd.go (w:Wd):Nat->Sd->Sd
 | 0,s=>s
 | n+1,s=>match w.nx s with | none=>s | some s'=>w.go n s'
noncomputable def Wd.hist (w:Wd):Nat->Sd->List Sd
 | 0,_=>[]
 | n+1,s=>match w.nx s with | none=>[] | some s'=>s::w.hist n s'
noncomputable def Wd.tv (w:Wd) (s:Sd) (z:En):V:=match w.kf z.2.1 with | some k=>if k.point then .int (w.sv s z.2.1) else .non | none=>.non
noncomputable def Wd.tr (w:Wd) (s:Sd):HO:=match s.at_ with | some z=>.tup [.ref z.1,w.tv s z] | none=>.tup []
noncomputable def trK (w:Wd) (ts:List (Addr×Sd)):Kn:=ts.map fun x=>(x.1,w.tr x.2)
noncomputable def trV (ts:List (Addr×Sd)):List V:=ts.map fun x=>V.ref x.1
noncomputable def enV:Option En->V
 | none=>.non
 | some z=>.ref z.1
structure Rep (w:Wd) (s:Sd) (y:YR):Prop where
 kd:∀ n k,w.kf n=some k->au y.kinds (Sum.inl n)=some (.str k.str)
 no:∀ n k,w.kf n=some k->au y.notes (Sum.inl n)=if k=.bell then some (.int (w.nf n)) else none
 ro:∀ n k,w.kf n=some k->au y.rods (Sum.inl n)=if k.point=true then some (.int (w.rf n)) else none
 rr:∀ n k,w.kf n=some k->k.point=true->0<=w.rf n/\w.rf n<s.ss.length
 sd:y.sides=s.ss.map V.int
 s12:∀ x ∈ s.ss,x=1∨x=2
 mt:∀ n e,au y.mates (kE n e)=(w.mf n e).map fun z=>V.ref z.1
 mo:∀ n e z,w.mf n e=some z->w.ok z
 en:y.eng=enV s.at_
 eo:∀ z,s.at_=some z->w.ok z
 rg:y.rung=s.rg.map V.int
structure Pool (w:Wd) (s:Sd) (L:Kn):Prop where
 m:∀ n e z,w.mf n e=some z->∃ j:Nat,L[j]?=some (z.1,HO.tup [.int z.2.1,.int z.2.2])
 e:∀ z,s.at_=some z->∃ j:Nat,L[j]?=some (z.1,HO.tup [.int z.2.1,.int z.2.2])
variable{s:Sd}
theorem Rep.s1 {w:Wd}{y:YR} (R:Rep w s y) {n:Int}{k:Kd} (hk:w.kf n=some k) (hp:k.point=true):w.sv s n=1∨w.sv s n=2:=by
 obtain⟨h0,h1⟩:=R.rr n k hk hp
 refine R.s12 _ ?_
 unfold Wd.sv
 rw[List.getD_eq_getElem?_getD,sq (by omega)]
 exact List.getElem_mem _
theorem Rep.sideAt {w:Wd}{y:YR} (R:Rep w s y) {n:Int}{k:Kd} (hk:w.kf n=some k) (hp:k.point=true):y.sides[(w.rf n).toNat]?=some (.int (w.sv s n)):=by
 obtain⟨h0,h1⟩:=R.rr n k hk hp
 rw[R.sd,sx,sq (by omega)]
 unfold Wd.sv
 rw[List.getD_eq_getElem?_getD,sq (by omega)]
 rfl
theorem Kd.out_in {k:Kd}{e s o:Int} (e0:0<=e) (e1:e<k.many) (hs:k.point=true->s=1∨s=2) (h:k.out e s=.int o):0<=o/\o<k.many:=by
 unfold Kd.out at h
 by_cases c:k=.stop
 ·rw[if_pos c] at h; cases h
 rw[if_neg c] at h
 by_cases p:k.point=true
 ·rw[if_pos p] at h
  have m:=Kd.many_point p
  rcases hs p with r | r <;> split at h <;> (injection h with h; omega)
 ·rw[if_neg p] at h
  have m:k.many = 2:=by cases k <;> first | rfl | (exfalso; exact c rfl) | (exfalso; exact p rfl)
  injection h with h
  omega
theorem ie (w:Wd) (s:Sd) (z:En) (k:Kd) (z':En):(aW w s z k z').at_=some z':=rfl
theorem mV {w:Wd}{s s':Sd} (h:w.nx s=some s'):∃ (z:En) (k:Kd) (o:Int) (z':En),s.at_=some z/\w.kf z.2.1=some k/\k.out z.2.2 (w.sv s z.2.1)=.int o/\w.mf z.2.1 o=some z'/\s'=aW w s z k z':=by
 unfold Wd.nx at h
 split at h
 ·cases h
 ·rename_i z hz
  split at h
  ·cases h
  ·rename_i k hk
   split at h
   ·rename_i o ho
    obtain⟨z',hm,e⟩:=Option.map_eq_some_iff.mp h
    exact⟨z,k,o,z',hz,hk,ho,hm,e.symm⟩
   ·cases h
theorem nx_of {w:Wd}{z:En}{k:Kd}{o:Int}{z':En} (hz:s.at_=some z) (hk:w.kf z.2.1=some k) (ho:k.out z.2.2 (w.sv s z.2.1)=.int o) (hm:w.mf z.2.1 o=some z'):w.nx s=some (aW w s z k z'):=by
 unfold Wd.nx
 simp only[hz,hk,ho,hm,Option.map_some]
theorem iP {w:Wd}{y y':YR}{z:En}{k:Kd}{z':En}{o:Int} (R:Rep w s y) (hz:s.at_=some z) (hk:w.kf z.2.1=some k) (hm:w.mf z.2.1 o=some z')
  (e1:y'.kinds=y.kinds) (e2:y'.notes=y.notes) (e3:y'.rods=y.rods) (e4:y'.mates=y.mates) (e5:y'.sides=(aW w s z k z').ss.map V.int) (e6:y'.eng=.ref z'.1) (e7:y'.rung=(aW w s z k z').rg.map V.int) :
  Rep w (aW w s z k z') y':=by
 have hl:(aW w s z k z').ss.length=s.ss.length:=by
  unfold aW; dsimp only; split
  ·exact List.length_set
  ·rfl
 refine⟨fun n k h=>by rw[e1]; exact R.kd n k h,fun n k h=>by rw[e2]; exact R.no n k h,fun n k h=>by rw[e3]; exact R.ro n k h,fun n k h1 h2=>by rw[hl]; exact R.rr n k h1 h2,e5,fun x hx=>?_,fun n e=>by rw[e4]; exact R.mt n e,R.mo,e6,fun u hu=>?_,e7⟩
 ·unfold aW at hx
  dsimp only at hx
  split at hx
  ·rename_i hp
   rcases List.mem_or_eq_of_mem_set hx with hx | hx
   ·exact R.s12 x hx
   ·obtain⟨k',h1,h2,h3⟩:=R.eo z hz
    rw[hk] at h1
    cases h1
    rw[hx]
    exact Kd.side12 h2 h3 (R.s1 hk hp)
  ·exact R.s12 x hx
 ·rw[ie] at hu
  cases hu
  exact R.mo _ _ _ hm
theorem Pool.step {w:Wd}{s s':Sd}{L:Kn} (p:Pool w s L) (h:w.nx s=some s'):Pool w s' L:=by
 obtain⟨z,k,o,z',_,_,_,hm,rfl⟩:=mV h
 refine⟨p.m,fun u hu=>?_⟩
 rw[ie] at hu
 cases hu
 exact p.m _ _ _ hm
inductive Nxt (w:Wd) (s:Sd):List V->Prop
 | held (h:w.nx s=none) (x:Str) (e:w.why s=.str x):Nxt w s [.str x,.non,.non]
 | goes (z:En) (k:Kd) (o:Int) (z':En) (hz:s.at_=some z) (hk:w.kf z.2.1=some k) (ho:k.out z.2.2 (w.sv s z.2.1)=.int o) (hm:w.mf z.2.1 o=some z') :
   Nxt w s [.non,.ref z'.1,if k.point then .int (k.side z.2.2 (w.sv s z.2.1)) else .non]
inductive sp_carry (C:Addr) (vs:List V) (H:Hp) (Q:VK) (E_:XK):Prop
 | mk (A:YA) (y:YR) (L:Kn) (w:Wd) (s:Sd) (z:En) (k:Kd) (z':En) (_:vs=[.ref A.p,.ref z'.1,if k.point then .int (k.side z.2.2 (w.sv s z.2.1)) else .non]) (_:Has H (yL C A y++L)) (_:Rep w s y) (_:s.at_=some z) (_:w.kf z.2.1=some k) (_:(∃ j:Nat,L[j]?=some (z.1,HO.tup [.int z.2.1,.int z.2.2]))) (_:y.trail.length<=900000) (_:y.rung.length<=900000) (_:∀ H' a,Has H' (yL C A { y with sides:=(aW w s z k z').ss.map V.int,eng:=.ref z'.1,rung:=(aW w s z k z').rg.map V.int,trail:=y.trail++[.ref a] }++((a,w.tr s)::L))->Q .non H'):sp_carry C vs H Q E_
inductive sp_next (C:Addr) (vs:List V) (H:Hp) (Q:VK) (E_:XK):Prop
 | mk (A:YA) (y:YR) (L:Kn) (w:Wd) (s:Sd) (_:vs=[.ref A.p]) (_:Has H (yL C A y++L)) (_:Rep w s y) (_:Pool w s L) (_:∀ H' p xs,Nxt w s xs->Has H' ((p,.tup xs)::(yL C A y++L))->Q (.ref p) H'):sp_next C vs H Q E_
inductive sp_held (C:Addr) (vs:List V) (H:Hp) (Q:VK) (E_:XK):Prop
 | mk (A:YA) (y:YR) (L:Kn) (w:Wd) (s:Sd) (_:vs=[.ref A.p]) (_:Has H (yL C A y++L)) (_:Rep w s y) (_:Pool w s L) (_:∀ H',Has H' (yL C A y++L)->Q (w.why s) H'):sp_held C vs H Q E_
inductive sp_run (C:Addr) (vs:List V) (H:Hp) (Q:VK) (E_:XK):Prop
 | mk (A:YA) (y:YR) (L:Kn) (w:Wd) (s:Sd) (ts:List (Addr×Sd)) (m:Int) (_:vs=[.ref A.p,.int m]) (_:Has H (yL C A y++(trK w ts++L))) (_:Rep w s y) (_:Pool w s L) (_:y.trail=trV ts) (_:ts.length+m<=900000) (_:y.rung.length+m<=900000) (_:ts.length<=900000) (_:y.rung.length<=900000) (_:∀ H' y' ts',Has H' (yL C A y'++(trK w (ts++ts')++L))->Rep w (w.go m.toNat s) y'->y'.trail=trV (ts++ts')->ts'.map (·.2)=w.hist m.toNat s->y'.next=y.next->y'.kinds=y.kinds->y'.notes=y.notes->y'.rods=y.rods->y'.mates=y.mates->Pool w (w.go m.toNat s) L->Q (.int ts'.length) H'):sp_run C vs H Q E_
theorem kr {w:Wd} (h:s.at_=none):w.nx s=none/\w.why s=.str "none":=by
 unfold Wd.nx Wd.why; simp only[h]; exact⟨trivial,trivial⟩
theorem eG {w:Wd}{z:En}{k:Kd} (hz:s.at_=some z) (hk:w.kf z.2.1=some k) (ho:k.out z.2.2 (w.sv s z.2.1)=.non):w.nx s=none/\w.why s=.str "stop":=by
 unfold Wd.nx Wd.why; simp only[hz,hk,ho]; exact⟨trivial,trivial⟩
theorem fV {w:Wd}{z:En}{k:Kd}{o:Int} (hz:s.at_=some z) (hk:w.kf z.2.1=some k) (ho:k.out z.2.2 (w.sv s z.2.1)=.int o) (hm:w.mf z.2.1 o=none):w.nx s=none/\w.why s=.str "loose":=by
 unfold Wd.nx Wd.why; simp only[hz,hk,ho,hm,Option.map_none]; exact⟨trivial,trivial⟩
theorem kt {w:Wd}{z:En}{k:Kd}{o:Int}{z':En} (hz:s.at_=some z) (hk:w.kf z.2.1=some k) (ho:k.out z.2.2 (w.sv s z.2.1)=.int o) (hm:w.mf z.2.1 o=some z'):w.why s=.non:=by
 unfold Wd.why; simp only[hz,hk,ho,hm]
theorem Nxt.why {w:Wd}{xs:List V} (h:Nxt w s xs):xs.length=3/\xs[0]?=some (w.why s):=by
 cases h with
 | held h x e=>rw[e]; exact⟨U,U⟩
 | goes z k o z' hz hk ho hm=>rw[kt hz hk ho hm]; exact⟨U,U⟩
theorem mZ (w:Wd) {s s':Sd} (h:w.nx s=some s') (n:Nat):w.go (n+1) s=w.go n s':=by show(match w.nx s with | none=>s | some s'=>w.go n s')=_; rw[h]
theorem j5 (w:Wd) {s s':Sd} (h:w.nx s=some s') (n:Nat):w.hist (n+1) s=s::w.hist n s':=by show(match w.nx s with | none=>[] | some s'=>s::w.hist n s')=_; rw[h]
theorem m5 (w:Wd) (h:w.nx s=none):∀ n,w.go n s=s
 | 0=>rfl
 | n+1=>by show(match w.nx s with | none=>s | some s'=>w.go n s')=_; rw[h]
theorem j6 (w:Wd) (h:w.nx s=none):∀ n,w.hist n s=[]
 | 0=>rfl
 | n+1=>by show(match w.nx s with | none=>[] | some s'=>s::w.hist n s')=_; rw[h]
theorem kG (w:Wd) (ts:List (Addr×Sd)) (a:Addr) (s:Sd) (L:Kn):trK w (ts++[(a,s)])++L=trK w ts++((a,w.tr s)::L):=by
 unfold trK; rw[sw,sr]; rfl
theorem ic {w:Wd}{s:Sd}{z:En}{k:Kd}{z':En}:(aW w s z k z').rg.length<=s.rg.length+1:=by
 unfold aW; dsimp only; split
 ·simp
 ·omega
theorem Pool.app {w:Wd} (p:Pool w s L) (M:Kn):Pool w s (M++L):=by
 have sh:∀ {x:Addr×HO},(∃ j:Nat,L[j]?=some x)->∃ j:Nat,(M++L)[j]?=some x:=fun {x} ⟨j,h⟩=>⟨M.length+j,by rw[sM (by omega),show M.length+j - M.length=j by omega]; exact h⟩
 exact⟨fun n e z h=>sh (p.m n e z h),fun z h=>sh (p.e z h)⟩
inductive runInv (C:Addr) (A:YA) (y:YR) (L:Kn) (W:Wd) (s:Sd) (ts:List (Addr×Sd)) (m:Int) (r:Nat) (σ:St) (H:Hp):Prop
 | mk (i:Nat) (y1:YR) (ts1:List (Addr×Sd)) (s1:Sd) (o1 o2 o3:Option V) (_:r=m.toNat - i) (_:i<=m.toNat) (_:σ=[some (.ref A.p),some (.int m),some (.int i),o1,o2,o3]) (_:Has H (yL C A y1++(trK W (ts++ts1)++L))) (_:Rep W s1 y1) (_:Pool W s1 L) (_:y1.trail=trV (ts++ts1)) (_:ts1.length=i) (_:W.go m.toNat s=W.go (m.toNat - i) s1) (_:W.hist m.toNat s=ts1.map (·.2)++W.hist (m.toNat - i) s1) (_:y1.rung.length<=y.rung.length+i) (_:y1.next=y.next) (_:y1.kinds=y.kinds) (_:y1.notes=y.notes) (_:y1.rods=y.rods) (_:y1.mates=y.mates):runInv C A y L W s ts m r σ H
section
variable {P:Program}{w:World}{K:PySem.W.Frag}{mg:Str->Option Value}{base:Heap}{t:Adr}
theorem scCy:FnScope ["self","end","side","piece","rod"] ["self","end","side"] (aj qN):={}
theorem ok_Js (T:Txt K mg t):FnOk P w K mg base CX0 1 t.f_Js t.d_Js ["self","end","side"] (sp_carry t.c_Yard):=by
 refine T.F_Js.ok scCy (fun vs H Q E h=>?_) (fun cdv A outer s H vs Q E hr h=>?_)
 ·obtain⟨_,_,_,_,_,_,_,_,rfl,_⟩:=h
  rfl
 ·obtain⟨A,y,L,W,s1,z,k,z',rfl,hH,R,hz,hk,⟨j,hj⟩,tl,rl,q⟩:=h
  have hu:=cD hr
  refine⟨_,(ae (aH (i:=3) scCy.nd rfl (Or.inl rfl) (aM aY (aw (pv 0) rfl) am))
   (ae (aH (i:=4) scCy.nd rfl (Or.inl rfl) (fg hu (aw (pv 0) rfl) (pv 3) ⟨U,U,U,U⟩))
   (ae (ao (bL PySem.F.plainAttrs_list PySem.F.slot_list_append PySem.F.type_list_append aV (aw (pv 0) rfl) (@aa _ _ _ _ _ (aF (aa (aw (pv 0) rfl) (aa (cy (ap fh (pv 4) bq (ar _)) bq (aM aN (aw (pv 0) rfl) (pv 4))) ah))) ah (by rfl))))
   (ae (aI (ap d5 (pv 4) bq (ar _))
    (ai (ce (pv 2) (pL (aw (pv 0) rfl) (pv 4) kL)))
    av)
   (ae (aI (gN (k9 hu (pv 3) (aw (pv 0) rfl)))
    (ai (ao (bL PySem.F.plainAttrs_list PySem.F.slot_list_append PySem.F.type_list_append aV (aw (pv 0) rfl) (aa (d4 hu (aw (pv 0) rfl) (pv 3)) ah))))
    av)
   (ai (aZ (pv 0) (pv 1) rfl))))))),?_⟩
  have gz:=hH.get (j+9) (by simpa [yL] using hj)
  have en:y.eng=.ref z.1:=by rw[R.en,hz]; rfl
  refine⟨_,U,A.p,_,A.dx,_,_,U,hH.get 1 U,T.cl_Yard,T.n_Jn_end,i8 _ _ _,z.1,_,_,_,en,U,SqT.of gz,U,?_⟩
  refine⟨_,U,A.p,_,A.dx,_,_,U,hH.get 1 U,T.cl_Yard,T.n_Yard_rods_under,dv _ _ _,A.r,U,.inl ⟨_,.inl (hH.get 5 U)⟩,_,U,_,DGet.k (k:=Sum.inl z.2.1) (hH.get 5 U),?_⟩
  refine⟨_,U,A.p,_,A.dx,_,_,U,hH.get 1 U,T.cl_Yard,T.n_Yard_trail,lM _ _ _,.inl ⟨U,_,SqL.of (hH.get 0 U)⟩,?_⟩
  refine⟨_,U,A.p,_,A.dx,_,_,U,hH.get 1 U,T.cl_Yard,T.n_Jn_end,i8 _ _ _,_,U,U,_,U,?_⟩
  rw[R.ro _ _ hk,en]
  have etr:W.tr s1=.tup [.ref z.1,if k.point then .int (W.sv s1 z.2.1) else .non]:=by unfold Wd.tr; rw[hz]; show HO.tup [.ref z.1,W.tv s1 z]=_; unfold Wd.tv; rw[hk]
  by_cases hp:k.point=true
  ·rw[if_pos hp] at etr ⊢
   try rw[if_pos hp]
   obtain⟨r0,r1⟩:=R.rr _ _ hk hp
   have sa:=R.sideAt hk hp
   refine ifF rfl ?_
   refine⟨_,U,A.p,_,A.dx,_,_,U,hH.get 1 U,T.cl_Yard,T.n_Yard_sides,bZ _ _ _,_,U,A.s,_,W.rf z.2.1,_,U,U,SqL.of (hH.get 6 U),(by rw[show W.rf z.2.1=(((W.rf z.2.1).toNat:Nat):Int) by omega]; exact aC sa),?_⟩
   refine⟨(show 2<=sizeLine by decide),fun a ha=>?_⟩
   have h1:=hH.alloc ha (.tup [.ref z.1,.int (W.sv s1 z.2.1)])
   refine⟨A.tr,_,_,U,U,h1.get 1 U,sizeOk (by omega),?_⟩
   have h2:=Has.comm (X:=[_]) (Y:=yL t.c_Yard A { y with trail:=y.trail++[.ref a] }) (R:=L) (h1.puti 1 U (.lst (y.trail++[.ref a])))
   generalize upd (upd H a _) A.tr _=H2 at h2 ⊢
   replace h2:Has H2 (yL t.c_Yard A { y with trail:=y.trail++[.ref a] }++((a,W.tr s1)::L)):=by rw[etr]; exact h2
   clear h1 ha
   refine⟨_,U,U,_,U,ifT rfl ?_⟩
   have sl:y.sides.length=s1.ss.length:=by rw[R.sd,su]
   have hjx:ixN y.sides.length (W.rf z.2.1)=some (W.rf z.2.1).toNat:=by unfold ixN; rw[if_pos r0,if_pos (by omega)]
   refine⟨_,U,_,U,A.p,_,A.dx,_,_,U,h2.get 1 U,T.cl_Yard,T.n_Yard_sides,bZ _ _ _,_,U,A.s,_,_,_,U,U,h2.get 6 U,hjx,?_⟩
   have h3:=h2.puti 6 U (.lst (y.sides.set (W.rf z.2.1).toNat (.int (k.side z.2.2 (W.sv s1 z.2.1)))))
   have es:(aW W s1 z k z').ss.map V.int=y.sides.set (W.rf z.2.1).toNat (.int (k.side z.2.2 (W.sv s1 z.2.1))):=by unfold aW; dsimp only; rw[if_pos hp,List.map_set,R.sd]
   have hT:Has _ (yL t.c_Yard A { y with sides:=y.sides.set (W.rf z.2.1).toNat (.int (k.side z.2.2 (W.sv s1 z.2.1))),trail:=y.trail++[.ref a] }++((a,W.tr s1)::L)):=h3
   refine⟨_,U,_,U,A.p,_,A.dx,_,_,U,hT.get 1 U,T.cl_Yard,T.n_Yard_notes,cF _ _ _,A.n,_,U,DGet.k (k:=Sum.inl z.2.1) (hT.get 4 U),_,U,if2 (fun hb=>?_) (fun hb=>?_)⟩
   ·have kb:k=.bell:=by
     rw[R.no _ _ hk] at hb
     by_cases c:k=.bell
     ·exact c
     ·rw[if_neg c] at hb; cases hb
    have nv:au y.notes (Sum.inl z.2.1)=some (.int (W.nf z.2.1)):=by rw[R.no _ _ hk,if_pos kb]
    refine⟨_,U,A.p,_,A.dx,_,_,U,hT.get 1 U,T.cl_Yard,T.n_Yard_rung,g8 _ _ _,.inl ⟨U,_,SqL.of (hT.get 8 U)⟩,_,U,A.p,_,A.dx,_,_,U,hT.get 1 U,T.cl_Yard,T.n_Yard_notes,cF _ _ _,_,U,A.n,_,U,(by rw[<- nv]; exact DGet.k (k:=Sum.inl z.2.1) (hT.get 4 U)),A.g,_,_,U,U,hT.get 8 U,sizeOk (show y.rung.length<=1000000 by omega),?_⟩
    have h4:Has _ (yL t.c_Yard A { y with sides:=y.sides.set (W.rf z.2.1).toNat (.int (k.side z.2.2 (W.sv s1 z.2.1))),rung:=y.rung++[.int (W.nf z.2.1)],trail:=y.trail++[.ref a] }++((a,W.tr s1)::L)):=hT.puti 8 U (.lst (y.rung++[.int (W.nf z.2.1)]))
    refine⟨_,U,_,U,A.p,_,A.dx,_,U,h4.get 1 U,T.cl_Yard,T.n_Jn_end,(show 9<1000 by decide),?_⟩
    rw[bP]
    have h5:=h4.puti 1 U (.ins t.c_Yard A.dx (fl A y.next (.ref z'.1)))
    have er:(aW W s1 z k z').rg.map V.int=y.rung++[.int (W.nf z.2.1)]:=by unfold aW; dsimp only; rw[if_pos kb,sw,R.rg]; rfl
    refine q _ a ?_
    rw[er,es]
    exact h5
   ·have kb:¬ k=.bell:=fun c=>by rw[R.no _ _ hk,if_pos c] at hb; cases hb
    refine⟨_,U,_,U,A.p,_,A.dx,_,U,hT.get 1 U,T.cl_Yard,T.n_Jn_end,(show 9<1000 by decide),?_⟩
    rw[bP]
    have h5:=hT.puti 1 U (.ins t.c_Yard A.dx (fl A y.next (.ref z'.1)))
    have er:(aW W s1 z k z').rg.map V.int=y.rung:=by unfold aW; dsimp only; rw[if_neg kb,R.rg]
    refine q _ a ?_
    rw[er,es]
    exact h5
  ·rw[if_neg hp] at etr ⊢
   try rw[if_neg hp]
   refine ifT rfl ?_
   refine⟨(show 2<=sizeLine by decide),fun a ha=>?_⟩
   have h1:=hH.alloc ha (.tup [.ref z.1,.non])
   refine⟨A.tr,_,_,U,U,h1.get 1 U,sizeOk (by omega),?_⟩
   have h2:=Has.comm (X:=[_]) (Y:=yL t.c_Yard A { y with trail:=y.trail++[.ref a] }) (R:=L) (h1.puti 1 U (.lst (y.trail++[.ref a])))
   generalize upd (upd H a _) A.tr _=H2 at h2 ⊢
   replace h2:Has H2 (yL t.c_Yard A { y with trail:=y.trail++[.ref a] }++((a,W.tr s1)::L)):=by rw[etr]; exact h2
   clear h1 ha
   refine⟨_,U,U,_,U,ifF rfl ?_⟩
   have h3:=h2
   have es:(aW W s1 z k z').ss.map V.int=y.sides:=by unfold aW; dsimp only; rw[if_neg hp,R.sd]
   have hT:Has _ (yL t.c_Yard A { y with sides:=y.sides,trail:=y.trail++[.ref a] }++((a,W.tr s1)::L)):=h3
   refine⟨_,U,_,U,A.p,_,A.dx,_,_,U,hT.get 1 U,T.cl_Yard,T.n_Yard_notes,cF _ _ _,A.n,_,U,DGet.k (k:=Sum.inl z.2.1) (hT.get 4 U),_,U,if2 (fun hb=>?_) (fun hb=>?_)⟩
   ·have kb:k=.bell:=by
     rw[R.no _ _ hk] at hb
     by_cases c:k=.bell
     ·exact c
     ·rw[if_neg c] at hb; cases hb
    have nv:au y.notes (Sum.inl z.2.1)=some (.int (W.nf z.2.1)):=by rw[R.no _ _ hk,if_pos kb]
    refine⟨_,U,A.p,_,A.dx,_,_,U,hT.get 1 U,T.cl_Yard,T.n_Yard_rung,g8 _ _ _,.inl ⟨U,_,SqL.of (hT.get 8 U)⟩,_,U,A.p,_,A.dx,_,_,U,hT.get 1 U,T.cl_Yard,T.n_Yard_notes,cF _ _ _,_,U,A.n,_,U,(by rw[<- nv]; exact DGet.k (k:=Sum.inl z.2.1) (hT.get 4 U)),A.g,_,_,U,U,hT.get 8 U,sizeOk (show y.rung.length<=1000000 by omega),?_⟩
    have h4:Has _ (yL t.c_Yard A { y with sides:=y.sides,rung:=y.rung++[.int (W.nf z.2.1)],trail:=y.trail++[.ref a] }++((a,W.tr s1)::L)):=hT.puti 8 U (.lst (y.rung++[.int (W.nf z.2.1)]))
    refine⟨_,U,_,U,A.p,_,A.dx,_,U,h4.get 1 U,T.cl_Yard,T.n_Jn_end,(show 9<1000 by decide),?_⟩
    rw[bP]
    have h5:=h4.puti 1 U (.ins t.c_Yard A.dx (fl A y.next (.ref z'.1)))
    have er:(aW W s1 z k z').rg.map V.int=y.rung++[.int (W.nf z.2.1)]:=by unfold aW; dsimp only; rw[if_pos kb,sw,R.rg]; rfl
    refine q _ a ?_
    rw[er,es]
    exact h5
   ·have kb:¬ k=.bell:=fun c=>by rw[R.no _ _ hk,if_pos c] at hb; cases hb
    refine⟨_,U,_,U,A.p,_,A.dx,_,U,hT.get 1 U,T.cl_Yard,T.n_Jn_end,(show 9<1000 by decide),?_⟩
    rw[bP]
    have h5:=hT.puti 1 U (.ins t.c_Yard A.dx (fl A y.next (.ref z'.1)))
    have er:(aW W s1 z k z').rg.map V.int=y.rung:=by unfold aW; dsimp only; rw[if_neg kb,R.rg]
    refine q _ a ?_
    rw[er,es]
    exact h5
theorem scNs:FnScope ["yard","stand","piece","end","kind","side","out","behind","mate"] ["yard"] (aj qK):={}
theorem oK (T:Txt K mg t):FnOk P w K mg base CX0 5 t.f_Jv t.d_Jv ["yard"] (sp_next t.c_Yard):=by
 refine T.F_Jv.ok scNs (fun vs H Q E h=>?_) (fun cdv A outer s H vs Q E hr h=>?_)
 ·obtain⟨_,_,_,_,_,rfl,_⟩:=h
  rfl
 ·obtain⟨A,y,L,W,s1,rfl,hH,R,PL,q⟩:=h
  have three:3<=sizeLine:=by decide
  refine⟨_,(ae (aH (i:=1) scNs.nd rfl (Or.inl rfl) (aT (pv 0) T.cl_Yard T.M_Jn (oN T) hr (rS T) .nil az))
   (ae (aI (ap fh (pv 1) bq (ar _))
    (ai (aB (aF (aa aL (aa bq (aa bq ah))))))
    av)
   (ae (ce (pv 1) (bt rfl (ay (aq (i:=2) scNs.nd rfl (Or.inl rfl)) (ay (aq (i:=3) scNs.nd rfl (Or.inl rfl)) ba))))
   (ae (aH (i:=4) scNs.nd rfl (Or.inl rfl) (ax (pv 0) T.cl_Yard T.M_J41 (qe T) hr (b_J41 T) .nil az (aa (pv 2) ah)))
   (ae (aH (i:=5) scNs.nd rfl (Or.inl rfl) (cy (eU (pcl (iU T) hr T.m_J91 T.F_J91.kp (l0 T) (aa (pv 4) ah))) (ax (pv 0) T.cl_Yard T.M_J61 (qc T) hr (b_J61 T) .nil az (aa (ax (pv 0) T.cl_Yard T.M_Jc1 (p6 T) hr (b_Jc1 T) .nil az (aa (pv 2) ah)) ah)) bq))
   (ae (ce (pcl (pY T) hr T.m_Jg1 T.F_Jg1.kp (b_Jg1 T) (aa (pv 4) (aa (pv 3) (aa (pv 5) ah)))) (bt rfl (ay (aq (i:=6) scNs.nd rfl (Or.inl rfl)) (ay (aq (i:=7) scNs.nd rfl (Or.inl rfl)) ba))))
   (ae (aI (ap fh (pv 6) bq (ar _))
    (ai (aB (aF (aa aL (aa bq (aa bq ah))))))
    av)
   (ae (aH (i:=8) scNs.nd rfl (Or.inl rfl) (ax (pv 0) T.cl_Yard T.M_J51 (qd T) hr (b_J51 T) .nil az (@aa _ _ _ _ _ (aF (aa (pv 2) (aa (pv 6) ah))) ah (by rfl))))
   (ae (aI (ap fh (pv 8) bq (ar _))
    (ai (aB (aF (aa aL (aa bq (aa bq ah))))))
    av)
   (ai (aB (aF (aa bq (aa (pv 8) (aa (pv 7) ah))))))))))))))),?_⟩
  refine⟨_,U,A.p,A.dx,_,U,hH.get 1 U,(gq _ _ _).2.2.2.2.2.2.1,A,y,L,U,hH,?_⟩
  refine⟨_,U,U,_,U,?_⟩
  rw[R.en]
  cases hz:s1.at_ with
  | none=>
   obtain⟨n1,n2⟩:=kr (w:=W) hz
   exact fE ⟨three,fun p hp=>q _ p _ (.held n1 _ n2) (hH.alloc hp _)⟩
  | some z=>
   obtain⟨j,hj⟩:=PL.e z hz
   obtain⟨k,hk,e0,e1⟩:=R.eo z hz
   have gz:=hH.get (j+9) (by simpa [yL] using hj)
   have vk:au y.kinds (Sum.inl z.2.1)=some (.str k.str):=R.kd _ _ hk
   refine dq ?_
   refine⟨_,U,z.1,_,U,SqT.of gz,U,_,_,U,_,_,U,U,?_⟩
   refine⟨_,U,A.p,A.dx,_,U,hH.get 1 U,(gq _ _ _).2.2.2.2.1,_,U,A,y,L,z.2.1,_,U,hH,vk,?_⟩
   refine⟨_,U,k,U,_,U,?_⟩
   have thr:∀ o:Int,k.out z.2.2 (W.sv s1 z.2.1)=.int o->There y z.2.1 o:=fun o ho=>by
    have:=Kd.out_in e0 e1 (fun hp=>R.s1 hk hp) ho
    exact⟨k,vk,this.1,this.2⟩
   refine if2 (fun hp=>?_) (fun hp=>?_)
   ·obtain⟨r0,r1⟩:=R.rr _ _ hk hp
    have vr:au y.rods (Sum.inl z.2.1)=some (.int (W.rf z.2.1)):=by rw[R.ro _ _ hk,if_pos hp]
    refine⟨_,U,A.p,A.dx,_,U,hH.get 1 U,(cn _ _ _).2.2.2.2.2.1,_,U,A.p,A.dx,_,U,hH.get 1 U,(cn _ _ _).2.2.2.2.1,_,U,A,y,L,z.2.1,_,_,U,hH,vk,vr,A,y,L,W.rf z.2.1,_,U,hH,r0,R.sideAt hk hp,?_⟩
    refine⟨_,U,_,U,_,U,k,z.2.2,W.sv s1 z.2.1,V.int (W.sv s1 z.2.1),U,e0,e1,(fun h=>⟨U,R.s1 hk hp⟩),fun p hp1=>?_⟩
    have h1:=hH.alloc hp1 (.tup [k.out z.2.2 (W.sv s1 z.2.1),if k.point then .int (k.side z.2.2 (W.sv s1 z.2.1)) else V.int (W.sv s1 z.2.1)])
    refine⟨p,_,U,SqT.of (h1.get 0 U),U,_,_,U,_,_,U,U,?_⟩
    replace h1:=h1.tail
    generalize upd H p _=H1 at h1 ⊢
    refine⟨_,U,U,_,U,?_⟩
    by_cases c:k.out z.2.2 (W.sv s1 z.2.1)=.non
    ·obtain⟨n1,n2⟩:=eG hz hk c
     exact ifT (decide_eq_true c) ⟨three,fun p hp=>q _ p _ (.held n1 _ n2) (h1.alloc hp _)⟩
    ·refine ifF (decide_eq_false c) ?_
     obtain⟨o,ho⟩:=Kd.out_int (k:=k) (fun e=>c (by unfold Kd.out; rw[if_pos e])) z.2.2 (W.sv s1 z.2.1)
     rw[ho]
     refine⟨_,U,A.p,A.dx,_,U,h1.get 1 U,(b7 _ _ _).2.1,_,U,_,U,(show 2<=sizeLine by decide),fun b hb=>?_⟩
     have h2:=Has.comm (X:=[(b,.tup [.int z.2.1,.int o])]) (Y:=yL t.c_Yard A y) (R:=L) (h1.alloc hb (.tup [.int z.2.1,.int o]))
     generalize upd H1 b _=H2 at h2 ⊢
     refine⟨A,y,_,b,z.2.1,o,0,U,h2,U,thr o ho,?_⟩
     have h3:=(Has.comm (X:=yL t.c_Yard A y) (Y:=[(b,.tup [.int z.2.1,.int o])]) (R:=L) h2).tail
     refine⟨_,U,U,_,U,?_⟩
     rw[R.mt]
     cases hm:W.mf z.2.1 o with
     | none=>
      obtain⟨n1,n2⟩:=fV hz hk ho hm
      exact fE ⟨three,fun p hp=>q _ p _ (.held n1 _ n2) (h3.alloc hp _)⟩
     | some z'=>
      exact dq ⟨_,U,_,U,three,fun p hp=>q _ p _ (.goes z k o z' hz hk ho hm) (by rw[if_pos (by assumption:k.point=true)]; have:=h3.alloc hp (.tup [.non,.ref z'.1,.int (k.side z.2.2 (W.sv s1 z.2.1))]); simpa [*] using this)⟩
   ·refine⟨_,U,_,U,_,U,k,z.2.2,W.sv s1 z.2.1,V.non,U,e0,e1,(fun h=>absurd h (by rw[hp]; decide)),fun p hp1=>?_⟩
    have h1:=hH.alloc hp1 (.tup [k.out z.2.2 (W.sv s1 z.2.1),if k.point then .int (k.side z.2.2 (W.sv s1 z.2.1)) else V.non])
    refine⟨p,_,U,SqT.of (h1.get 0 U),U,_,_,U,_,_,U,U,?_⟩
    replace h1:=h1.tail
    generalize upd H p _=H1 at h1 ⊢
    refine⟨_,U,U,_,U,?_⟩
    by_cases c:k.out z.2.2 (W.sv s1 z.2.1)=.non
    ·obtain⟨n1,n2⟩:=eG hz hk c
     exact ifT (decide_eq_true c) ⟨three,fun p hp=>q _ p _ (.held n1 _ n2) (h1.alloc hp _)⟩
    ·refine ifF (decide_eq_false c) ?_
     obtain⟨o,ho⟩:=Kd.out_int (k:=k) (fun e=>c (by unfold Kd.out; rw[if_pos e])) z.2.2 (W.sv s1 z.2.1)
     rw[ho]
     refine⟨_,U,A.p,A.dx,_,U,h1.get 1 U,(b7 _ _ _).2.1,_,U,_,U,(show 2<=sizeLine by decide),fun b hb=>?_⟩
     have h2:=Has.comm (X:=[(b,.tup [.int z.2.1,.int o])]) (Y:=yL t.c_Yard A y) (R:=L) (h1.alloc hb (.tup [.int z.2.1,.int o]))
     generalize upd H1 b _=H2 at h2 ⊢
     refine⟨A,y,_,b,z.2.1,o,0,U,h2,U,thr o ho,?_⟩
     have h3:=(Has.comm (X:=yL t.c_Yard A y) (Y:=[(b,.tup [.int z.2.1,.int o])]) (R:=L) h2).tail
     refine⟨_,U,U,_,U,?_⟩
     rw[R.mt]
     cases hm:W.mf z.2.1 o with
     | none=>
      obtain⟨n1,n2⟩:=fV hz hk ho hm
      exact fE ⟨three,fun p hp=>q _ p _ (.held n1 _ n2) (h3.alloc hp _)⟩
     | some z'=>
      exact dq ⟨_,U,_,U,three,fun p hp=>q _ p _ (.goes z k o z' hz hk ho hm) (by exact h3.alloc hp _)⟩
theorem scHe:FnScope ["yard"] ["yard"] (aj kN):={}
theorem mR (T:Txt K mg t):FnOk P w K mg base CX0 6 t.f_held t.d_held ["yard"] (sp_held t.c_Yard):=by
 refine T.F_held.ok scHe (fun vs H Q E h=>?_) (fun cdv A outer s H vs Q E hr h=>?_)
 ·obtain⟨_,_,_,_,_,rfl,_⟩:=h
  rfl
 ·obtain⟨A,y,L,W,s1,rfl,hH,R,PL,q⟩:=h
  refine⟨_,(ai (aB (aM aY (pcl (oK T) hr T.m_Jv T.F_Jv.kp (rQ T) (aa (pv 0) ah)) am))),?_⟩
  refine⟨_,U,A,y,L,W,s1,U,hH,R,PL,fun H1 p xs nx h1=>?_⟩
  exact⟨p,_,_,_,U,U,SqT.of (h1.get 0 U),aC (j:=0) nx.why.2,q _ h1.tail⟩
theorem scRn:FnScope ["yard","most","done","why","end","side"] ["yard","most"] (aj nR):={}
theorem pT (T:Txt K mg t):FnOk P w K mg base CX0 6 t.f_run t.d_run ["yard","most"] (sp_run t.c_Yard):=by
 refine T.F_run.ok scRn (fun vs H Q E h=>?_) (fun cdv A outer s H vs Q E hr h=>?_)
 ·obtain⟨_,_,_,_,_,_,_,rfl,_⟩:=h
  rfl
 ·obtain⟨A,y,L,W,s0,ts,m,rfl,hH,R,PL,tl,b1,b2,b3,b4,q⟩:=h
  refine⟨_,(ae (aH (i:=2) scRn.nd rfl (Or.inl rfl) am)
   (ae (df PassesOwn.never (ap bO (pv 2) (pv 1) (ar _))
    (ae (ce (pcl (oK T) hr T.m_Jv T.F_Jv.kp (rQ T) (aa (pv 0) ah)) (bt rfl (ay (aq (i:=3) scRn.nd rfl (Or.inl rfl)) (ay (aq (i:=4) scRn.nd rfl (Or.inl rfl)) (ay (aq (i:=5) scRn.nd rfl (Or.inl rfl)) ba)))))
     (ae (aI (ap d5 (pv 3) bq (ar _))
      (ai kU)
      av)
     (ae (ao (ax (pv 0) T.cl_Yard T.M_Js (ok_Js T) hr (b_Js T) .nil az (aa (pv 4) (aa (pv 5) ah))))
     (ai (pJ (i:=2) scRn.nd rfl (Or.inl rfl) am qo))))))
   (ai (aB (pv 2))))),?_⟩
  refine⟨runInv t.c_Yard A y L W s0 ts m,⟨_,0,y,[],s0,_,_,_,U,Nat.zero_le _,U,by rw[sR]; exact hH,R,PL,by rw[sR]; exact tl,U,U,U,Nat.le_refl _,U,U,U,U,U⟩,?_⟩
  rintro r σ H1 ⟨i,y1,ts1,s1,o1,o2,o3,rfl,im,rfl,h1,R1,P1,tl1,li,eg,eh,rg,f1,f2,f3,f4,f5⟩
  refine⟨_,U,_,U,_,_,U,U,_,U,if2 (fun hc=>?_) (fun hc=>?_)⟩
  ·have hlt:(i:Int)<m:=of_decide_eq_true hc
   refine⟨fun σ' H'=>∃ r',r'<m.toNat - i/\runInv t.c_Yard A y L W s0 ts m r' σ' H',fun _ _ h=>h,?_⟩
   refine⟨_,U,A,y1,_,W,s1,U,h1,R1,P1.app _,fun H2 p xs nx h2=>?_⟩
   cases nx with
   | held hn x e=>
    refine⟨p,_,U,SqT.of (h2.get 0 U),U,_,_,U,_,_,U,_,_,U,U,?_⟩
    refine⟨_,U,U,_,U,ifT rfl ?_⟩
    rw[m5 W hn] at eg
    rw[j6 W hn,sR] at eh
    refine⟨_,U,?_⟩
    have:=q H2 y1 ts1 h2.tail (by rw[eg]; exact R1) tl1 eh.symm f1 f2 f3 f4 f5 (by rw[eg]; exact P1)
    rw[li] at this
    exact this
   | goes z k o z' hz hk ho hm=>
    have hn:=nx_of hz hk ho hm
    refine⟨p,_,U,SqT.of (h2.get 0 U),U,_,_,U,_,_,U,_,_,U,U,?_⟩
    refine⟨_,U,U,_,U,ifF rfl ?_⟩
    replace h2:=h2.tail
    have tll:y1.trail.length=ts.length+i:=by rw[tl1]; unfold trV; rw[su,sA,li]
    refine⟨_,U,A.p,A.dx,_,U,h2.get 1 U,(gq _ _ _).2.2.1,_,U,_,U,A,y1,_,W,s1,z,k,z',U,h2,R1,hz,hk,(P1.app _).e z hz,by omega,by omega,fun H3 a h3=>?_⟩
    refine⟨_,U,_,_,U,U,?_⟩
    have em:m.toNat - i=(m.toNat - (i+1))+1:=by omega
    rw[em,mZ W hn] at eg
    rw[em,j5 W hn] at eh
    refine⟨m.toNat - (i+1),by omega,i+1,{ y1 with sides:=(aW W s1 z k z').ss.map V.int,eng:=.ref z'.1,rung:=(aW W s1 z k z').rg.map V.int,trail:=y1.trail++[.ref a] },ts1++[(a,s1)],aW W s1 z k z',_,_,_,U,by omega,U,?_,iP R1 hz hk hm rfl rfl rfl rfl rfl rfl rfl,P1.step hn,?_,by simp[li],eg,by rw[eh]; simp,?_,f1,f2,f3,f4,f5⟩
    ·rw[<- sr ts ts1,kG]
     exact h3.perm (List.Perm.append_left _ List.perm_middle.symm)
    ·show y1.trail++[.ref a]=_
     rw[tl1]; unfold trV; simp
    ·show((aW W s1 z k z').rg.map V.int).length<=_
     have:=ic (w:=W) (s:=s1) (z:=z) (k:=k) (z':=z')
     have e:=congrArg List.length R1.rg
     rw[su] at e ⊢
     omega
  ·have hge:¬ (i:Int)<m:=of_decide_eq_false hc
   have e0:m.toNat - i=0:=by omega
   rw[e0] at eg eh
   refine⟨_,U,?_⟩
   have:=q H1 y1 ts1 h1 (by rw[eg]; exact R1) tl1 (by rw[eh]; exact(sR _).symm) f1 f2 f3 f4 f5 (by rw[eg]; exact P1)
   rw[li] at this
   exact this
end
noncomputable abbrev Pr:=Addr×Int×Int
noncomputable def prV (ps:List Pr):List V:=ps.map fun z=>.ref z.1
noncomputable def Rw.onw (k n:Int):Rw->List (Int×Int)
 | .call s=>[(s,0),(k,n+1)]
 | .fin=>[]
 | .bell _=>[(k,n+1)]
noncomputable def PrK (ps:List Pr):Kn:=ps.map fun z=>(z.1,HO.tup [.int z.2.1,.int z.2.2])
inductive sp_Ji1 (vs:List V) (H:Hp) (Q:VK) (E_:XK):Prop
 | mk (r:Addr) (x:Rw) (k n:Int) (L:Kn) (_:vs=[.ref r,.int k,.int n]) (_:Has H L) (_:(r,HO.tup x.v) ∈ L) (_:∀ H' l ps,ps.map (·.2)=x.onw k n->Has H' ((l,.lst (prV ps))::(PrK ps++L))->Q (.ref l) H'):sp_Ji1 vs H Q E_
section
variable {P:Program}{w:World}{K:PySem.W.Frag}{mg:Str->Option Value}{base:Heap}{t:Adr}
theorem scOn:FnScope ["row","stretch","number","word","behind"] ["row","stretch","number"] (aj nW):={}
theorem pW (T:Txt K mg t):FnOk P w K mg base CX0 1 t.f_Ji1 t.d_Ji1 ["row","stretch","number"] sp_Ji1:=by
 refine T.F_Ji1.ok scOn (fun vs H Q E h=>?_) (fun cdv A outer s H vs Q E hr h=>?_)
 ·obtain⟨_,_,_,_,_,rfl,_⟩:=h
  rfl
 ·obtain⟨r,x,k,n,L,rfl,hH,mr,q⟩:=h
  have gr:=hH.at_ _ mr
  dsimp only at gr
  refine⟨_,(ae (aH (i:=3) scOn.nd rfl (Or.inl rfl) (aM aY (pv 0) am))
   (ae (aH (i:=4) scOn.nd rfl (Or.inl rfl) (aF (aa (pv 1) (aa (aQ bA (pv 2) am) ah))))
   (ae (aI (ap br (pv 3) aL (ar _))
    (ai (aB (aU (@aa _ _ _ _ _ (aF (aa (pv 1) (aa (aM aY (pv 0) am) ah))) (@aa _ _ _ _ _ (aF (aa (pv 1) (aa (aM aY (pv 0) am) ah))) ah (by rfl)) (by rfl)))))
    av)
   (ae (aI (ap br (pv 3) aL (ar _))
    (ai (aB (aU (@aa _ _ _ _ _ (pv 4) (@aa _ _ _ _ _ (aF (aa (pv 1) (aa (aM aY (pv 0) am) ah))) ah (by rfl)) (by rfl)))))
    av)
   (ae (aI (ap br (pv 3) aL (ar _))
    (ai (aB (aU (@aa _ _ _ _ _ (aF (aa (pv 1) (aa (aM aY (pv 0) am) ah))) ah (by rfl)))))
    av)
   (ae (aI (ap br (pv 3) aL (ar _))
    (ai (aB (aU (@aa _ _ _ _ _ (aF (aa (aM aY (pv 0) am) (aa am ah))) (@aa _ _ _ _ _ (pv 4) ah (by rfl)) (by rfl)))))
    av)
   (ae (aI (ap br (pv 3) aL (ar _))
    (ai (aB (aU ah)))
    av)
   (ai (aB (aU (aa (pv 4) ah))))))))))),?_⟩
  rw[]
  refine⟨_,U,r,_,_,_,U,U,SqT.of gr,aC (j:=0) rfl,?_⟩
  dsimp only[List.set]
  refine⟨_,U,_,U,_,_,U,U,(sz_ 2),fun b hb=>?_⟩
  dsimp only[List.set] at hb ⊢
  have h1:=hH.alloc hb (.tup [.int k,.int (n+1)])
  have gr1:=h1.at_ _ (r9 _ mr)
  dsimp only at gr1
  cases x with
  | call c=>
   refine⟨_,U,U,_,U,ifF (sne "call" "ask") ?_⟩
   refine⟨_,U,U,_,U,ifF (sne "call" "bump") ?_⟩
   refine⟨_,U,U,_,U,ifF (sne "call" "go") ?_⟩
   refine⟨_,U,U,_,U,ifT (decide_eq_true rfl) ?_⟩
   refine⟨_,U,r,_,_,_,U,U,SqT.of gr1,aC (j:=1) rfl,(sz_ 2),fun p1 hp1=>?_⟩
   have h2:=h1.alloc hp1 (.tup [.int c,.int 0])
   refine⟨_,U,(sz_ 2),fun l hl=>?_⟩
   have h3:=h2.alloc hl (.lst [.ref p1,.ref b])
   exact q _ l [(p1,c,0),(b,k,n+1)] rfl h3
  | fin=>
   refine⟨_,U,U,_,U,ifF (sne "end" "ask") ?_⟩
   refine⟨_,U,U,_,U,ifF (sne "end" "bump") ?_⟩
   refine⟨_,U,U,_,U,ifF (sne "end" "go") ?_⟩
   refine⟨_,U,U,_,U,ifF (sne "end" "call") ?_⟩
   refine⟨_,U,U,_,U,ifT (decide_eq_true rfl) ?_⟩
   refine⟨(sz_ 0),fun l hl=>?_⟩
   have h3:=h1.alloc hl (.lst [])
   exact q _ l [] rfl (h3.sub (.cons₂ _ (.cons _ (List.Sublist.refl _))))
  | bell c=>
   refine⟨_,U,U,_,U,ifF (sne "bell" "ask") ?_⟩
   refine⟨_,U,U,_,U,ifF (sne "bell" "bump") ?_⟩
   refine⟨_,U,U,_,U,ifF (sne "bell" "go") ?_⟩
   refine⟨_,U,U,_,U,ifF (sne "bell" "call") ?_⟩
   refine⟨_,U,U,_,U,ifF (sne "bell" "end") ?_⟩
   refine⟨_,U,(sz_ 1),fun l hl=>?_⟩
   have h3:=h1.alloc hl (.lst [.ref b])
   exact q _ l [(b,k,n+1)] rfl h3
end
noncomputable def Wd.lay (w:Wd) (n:Int) (k:Kd) (note r:Int):Wd:=⟨fun i=>if i=n then some k else w.kf i,fun i=>if i=n then note else w.nf i,fun i=>if i=n then r else w.rf i,w.mf⟩
noncomputable def Wd.link (w:Wd) (x z:En):Wd:={ w with mf:=fun n e=>if (n,e)=z.2 then some x else if (n,e)=x.2 then some z else w.mf n e }
noncomputable def Fre (y:YR):Prop:=∀ n:Int,y.next<=n->au y.kinds (Sum.inl n)=none/\au y.notes (Sum.inl n)=none/\au y.rods (Sum.inl n)=none
theorem Fre.nil:Fre y0:=fun _ _=>⟨U,U,U⟩
theorem bU {i n:Int} (h:¬ i=n):¬ (Sum.inl i:Key)=Sum.inl n:=fun e=>h (Sum.inl.inj e)
theorem Wd.ok_lay {w:Wd}{n:Int}{k:Kd}{note r:Int}{z:En} (hf:w.kf n=none) (h:w.ok z):(w.lay n k note r).ok z:=by
 obtain⟨k',hk,e⟩:=h
 refine⟨k',?_,e⟩
 show(if z.2.1=n then some k else w.kf z.2.1)=some k'
 rw[if_neg (fun c=>by rw[c,hf] at hk; cases hk)]
 exact hk
theorem Rep.lay {w:Wd}{y:YR} (R:Rep w s y) (F:Fre y) (hf:w.kf y.next=none) (k:Kd) (note r:Int) (rod:V) (ss':List Int)
  (hp:k.point=true->(rod=.non/\r=s.ss.length/\ss'=s.ss++[1])∨(rod=.int r/\0<=r/\r<s.ss.length/\ss'=s.ss)) (hn:k.point=false->ss'=s.ss) :
  Rep (w.lay y.next k note r) ⟨ss',s.at_,s.rg⟩ (bE y k note rod):=by
 obtain⟨f1,f2,f3⟩:=F y.next (Int.le_refl _)
 have up:s.ss.length<=ss'.length:=by
  cases e:k.point with
  | false=>rw[hn e]; exact Nat.le_refl _
  | true=>rcases hp e with ⟨_,_,h⟩ | ⟨_,_,_,h⟩ <;> rw[h] <;> simp
 have kfn:∀ {n:Int}{k':Kd},(w.lay y.next k note r).kf n=some k'->(n=y.next/\k'=k)∨(¬ n=y.next/\w.kf n=some k'):=fun {n k'} h=>by
  by_cases c:n=y.next
  ·refine .inl ⟨c,?_⟩
   have h:(if n=y.next then some k else w.kf n)=some k':=h
   rw[if_pos c] at h
   exact(Option.some.inj h).symm
  ·refine .inr ⟨c,?_⟩
   have h:(if n=y.next then some k else w.kf n)=some k':=h
   rw[if_neg c] at h
   exact h
 refine⟨fun n k' h=>?_,fun n k' h=>?_,fun n k' h=>?_,fun n k' h hpt=>?_,?_,?_,fun n e=>R.mt n e,fun n e z h=>Wd.ok_lay hf (R.mo n e z h),R.en,fun z hz=>Wd.ok_lay hf (R.eo z hz),R.rg⟩
 ·show au (aG y.kinds (Sum.inl y.next) (.str k.str)) _=_
  rcases kfn h with ⟨rfl,rfl⟩ | ⟨c,h'⟩
  ·rw[aD,if_pos rfl]
  ·rw[aD,if_neg (bU c)]; exact R.kd _ _ h'
 ·show au (if k=.bell then aG y.notes (Sum.inl y.next) (.int note) else y.notes) _=if k'=.bell then some (.int (if n=y.next then note else w.nf n)) else none
  rcases kfn h with ⟨rfl,rfl⟩ | ⟨c,h'⟩
  ·rw[if_pos rfl]
   by_cases kb:k'=.bell
   ·rw[if_pos kb,if_pos kb,aD,if_pos rfl]
   ·rw[if_neg kb,if_neg kb]; exact f2
  ·rw[if_neg c,<- R.no _ _ h']
   split
   ·rw[aD,if_neg (bU c)]
   ·rfl
 ·show au (if k.point=true then aG y.rods (Sum.inl y.next) (if rod=.non then .int y.sides.length else rod) else y.rods) _=if k'.point=true then some (.int (if n=y.next then r else w.rf n)) else none
  rcases kfn h with ⟨rfl,rfl⟩ | ⟨c,h'⟩
  ·rw[if_pos rfl]
   by_cases kp:k'.point=true
   ·rw[if_pos kp,if_pos kp,aD,if_pos rfl]
    rcases hp kp with ⟨e1,e2,_⟩ | ⟨e1,_,_,_⟩
    ·rw[if_pos e1,R.sd,su,e2]
    ·rw[e1,if_neg (fun h=>nomatch h)]
   ·rw[if_neg kp,if_neg kp]; exact f3
  ·rw[if_neg c,<- R.ro _ _ h']
   split
   ·rw[aD,if_neg (bU c)]
   ·rfl
 ·show 0<=(if n=y.next then r else w.rf n)/\(if n=y.next then r else w.rf n)<(ss'.length:Int)
  rcases kfn h with ⟨rfl,rfl⟩ | ⟨c,h'⟩
  ·rw[if_pos rfl]
   rcases hp hpt with ⟨_,e2,e3⟩ | ⟨_,e2,e3,e4⟩
   ·rw[e3,sA,sK]; omega
   ·rw[e4]; exact⟨e2,e3⟩
  ·rw[if_neg c]
   have:=R.rr _ _ h' hpt
   omega
 ·show(if k.point=true/\rod=.non then y.sides++[.int 1] else y.sides)=ss'.map V.int
  cases kp:k.point with
  | true=>
   rcases hp kp with ⟨e1,_,e3⟩ | ⟨e1,_,_,e4⟩
   ·rw[if_pos ⟨U,e1⟩,R.sd,e3,sw]; rfl
   ·rw[if_neg (fun c=>by rw[e1] at c; exact nomatch c.2),R.sd,e4]
  | false=>rw[if_neg (fun c=>Bool.false_ne_true c.1),R.sd,hn kp]
 ·intro x hx
  cases kp:k.point with
  | true=>
   rcases hp kp with ⟨_,_,e3⟩ | ⟨_,_,_,e4⟩
   ·rw[show ss'=_ from e3,sC] at hx
    rcases hx with hx | hx
    ·exact R.s12 x hx
    ·exact .inl (by simpa using hx)
   ·rw[show ss'=_ from e4] at hx; exact R.s12 x hx
  | false=>rw[show ss'=_ from hn kp] at hx; exact R.s12 x hx
theorem Rep.link {w:Wd}{y:YR} (R:Rep w s y) {x z:En} (hx:w.ok x) (hz:w.ok z):Rep (w.link x z) s { y with mates:=aG (aG y.mates (kE x.2.1 x.2.2) (.ref z.1)) (kE z.2.1 z.2.2) (.ref x.1),trail:=[] }:=by
 have ke:∀ (n e:Int) (u:En),kE n e=kE u.2.1 u.2.2↔(n,e)=u.2:=fun n e u=>by
  constructor
  ·intro h
   injection h with h1 h2
   injection h2 with h2 _
   injection h1 with h1
   injection h2 with h2
   rw[h1,h2]
  ·intro h
   rw[<- h]
 refine⟨R.kd,R.no,R.ro,R.rr,R.sd,R.s12,fun n e=>?_,fun n e u h=>?_,R.en,R.eo,R.rg⟩
 ·show au (aG (aG y.mates (kE x.2.1 x.2.2) (.ref z.1)) (kE z.2.1 z.2.2) (.ref x.1)) (kE n e)=Option.map _ (if (n,e)=z.2 then some x else if (n,e)=x.2 then some z else w.mf n e)
  rw[aD,aD]
  by_cases c1:(n,e)=z.2
  ·rw[if_pos ((ke _ _ _).mpr c1),if_pos c1]; rfl
  ·rw[if_neg (fun h=>c1 ((ke _ _ _).mp h)),if_neg c1]
   by_cases c2:(n,e)=x.2
   ·rw[if_pos ((ke _ _ _).mpr c2),if_pos c2]; rfl
   ·rw[if_neg (fun h=>c2 ((ke _ _ _).mp h)),if_neg c2]; exact R.mt n e
 ·have h:(if (n,e)=z.2 then some x else if (n,e)=x.2 then some z else w.mf n e)=some u:=h
  show w.ok u
  split at h
  ·cases h; exact hx
  ·split at h
   ·cases h; exact hz
   ·exact R.mo _ _ _ h
noncomputable def w0:Wd:=⟨fun _=>none,fun _=>0,fun _=>0,fun _ _=>none⟩
theorem Rep.nil:Rep w0 ⟨[],none,[]⟩ y0:=⟨(fun _ _ h=>nomatch h),(fun _ _ h=>nomatch h),(fun _ _ h=>nomatch h),(fun _ _ h=>nomatch h),U,(fun _ h=>nomatch h),(fun _ _=>rfl),(fun _ _ _ h=>nomatch h),U,(fun _ h=>nomatch h),U⟩
noncomputable abbrev pK2 (z:Pr):Addr×HO:=(z.1,HO.tup [.int z.2.1,.int z.2.2])
noncomputable def Fr (y:YR) (x:Int×Int):Prop:=There y x.1 x.2/\au y.mates (kE x.1 x.2)=none
structure Ld (y:YR) (N M R:Nat):Prop where
 nx:y.next=N
 kl:y.kinds.length=N
 fr:Fre y
 mt:∀ n e,(N:Int)<=n->au y.mates (kE n e)=none
 nl:y.notes.length<=N
 rl:y.rods.length<=N
 sl:y.sides.length<=R+N
 ml:y.mates.length<=M
 g:y.rung=[]
 rb:∀ n v,au y.rods n=some v->∃ r:Nat,v=.int r/\r<y.sides.length
 ri:∀ n n' v,au y.rods n=some v->au y.rods n'=some v->n=n'
 s1:∀ v ∈ y.sides,v=.int 1
 t:y.trail=[]
theorem Ld.small {y:YR}{N M R:Nat} (h:Ld y N M R) (hN:N<=9000) (hM:M<=30000) (hR:R<=1000):jF y:=by
 obtain⟨h1,h2,h3,h4,h5,h6,h7,h8,h9,_,_,_,h10⟩:=h
 exact⟨by omega,by omega,by omega,by omega,by omega,by rw[h9]; exact Nat.zero_le _,by rw[h10]; exact Nat.zero_le _⟩
theorem Ld.nil:Ld y0 0 0 0:=⟨U,U,fun _ _=>⟨U,U,U⟩,fun _ _ _=>rfl,Nat.le_refl _,Nat.le_refl _,Nat.le_refl _,Nat.le_refl _,U,(fun _ _ h=>nomatch h),(fun _ _ _ h=>nomatch h),(fun _ h=>nomatch h),U⟩
theorem Ld.lt {y:YR}{N M R:Nat} (h:Ld y N M R) {n e:Int} (t:There y n e):n<N:=by
 obtain⟨k,hk,_⟩:=t
 by_cases c:n<N
 ·exact c
 ·rw[(h.fr n (by rw[h.nx]; omega)).1] at hk
  cases hk
theorem cC {n e n' e':Int} (h:kE n e=kE n' e'):(n,e)=(n',e'):=by
 injection h with h1 h2
 injection h2 with h2 _
 injection h1 with h1
 injection h2 with h2
 rw[h1,h2]
theorem jl {κ:Type} [DecidableEq κ] {kvs:List (κ×V)}{k:κ}{v:V} (h:au kvs k=none):(aG kvs k v).length=kvs.length+1:=by
 rw[L2.putK_new v h,sA,sK]
theorem Ld.lay {y:YR}{N M R:Nat} (h:Ld y N M R) (k:Kd) (note:Int) (rod:V) (hrd:rod=.non:=by rfl):Ld (bE y k note rod) (N+1) M R:=by
 have hk:=h.kl; have h1:=h.nl; have h2:=h.rl; have h3:=h.sl
 refine⟨?_,?_,fun n hn=>?_,fun n e hn=>h.mt n e (by omega),?_,?_,?_,h.ml,h.g,?_,?_,?_,U⟩
 ·show y.next+1=_; rw[h.nx]; rfl
 ·show(aG y.kinds (Sum.inl y.next) (.str k.str)).length=_
  rw[jl (h.fr _ (Int.le_refl _)).1,hk]
 ·have hn:y.next+1<=n:=hn
  obtain⟨a,b,c⟩:=h.fr n (by omega)
  have ne:¬ n=y.next:=by omega
  refine⟨?_,?_,?_⟩
  ·show au (aG y.kinds (Sum.inl y.next) (.str k.str)) _=none
   rw[aD,if_neg (bU ne)]; exact a
  ·show au (if k=.bell then aG y.notes (Sum.inl y.next) (.int note) else y.notes) _=none
   split
   ·rw[aD,if_neg (bU ne)]; exact b
   ·exact b
  ·show au (if k.point=true then aG y.rods (Sum.inl y.next) (if rod=.non then .int y.sides.length else rod) else y.rods) _=none
   split
   ·rw[aD,if_neg (bU ne)]; exact c
   ·exact c
 ·show(if k=.bell then aG y.notes (Sum.inl y.next) (.int note) else y.notes).length<=_
  have:=bf y.notes (Sum.inl y.next) (.int note)
  split <;> omega
 ·show(if k.point=true then aG y.rods (Sum.inl y.next) (if rod=.non then .int y.sides.length else rod) else y.rods).length<=_
  have:=bf y.rods (Sum.inl y.next) (if rod=.non then .int y.sides.length else rod)
  by_cases c:k.point=true
  ·rw[if_pos c]; omega
  ·rw[if_neg c]; omega
 ·show(if k.point=true/\rod=.non then y.sides++[.int 1] else y.sides).length<=_
  split
  ·rw[sA,sK]; omega
  ·omega
 ·intro n v hv
  have hv:au (if k.point=true then aG y.rods (Sum.inl y.next) (if rod=.non then .int y.sides.length else rod) else y.rods) n=some v:=hv
  show ∃ r:Nat,v=.int r/\r<(if k.point=true/\rod=.non then y.sides++[.int 1] else y.sides).length
  subst hrd
  by_cases c:k.point=true
  ·rw[if_pos c,if_pos rfl,aD] at hv
   rw[if_pos ⟨c,U⟩,sA,sK]
   split at hv
   ·cases hv; exact⟨_,U,Nat.lt_succ_self _⟩
   ·obtain⟨r,e,hr⟩:=h.rb n v hv; exact⟨r,e,by omega⟩
  ·rw[if_neg c] at hv
   rw[if_neg (fun d=>c d.1)]
   exact h.rb n v hv
 ·intro n n' v hv hv'
  have hv:au (if k.point=true then aG y.rods (Sum.inl y.next) (if rod=.non then .int y.sides.length else rod) else y.rods) n=some v:=hv
  have hv':au (if k.point=true then aG y.rods (Sum.inl y.next) (if rod=.non then .int y.sides.length else rod) else y.rods) n'=some v:=hv'
  subst hrd
  have no:∀ n,¬ au y.rods n=some (.int y.sides.length):=fun n c=>by
   obtain⟨r,e,hr⟩:=h.rb n _ c
   injection e with e
   omega
  by_cases c:k.point=true
  ·rw[if_pos c,if_pos rfl,aD] at hv hv'
   split at hv <;> split at hv'
   ·rename_i a b; rw[a,b]
   ·cases hv; exact absurd hv' (no _)
   ·cases hv'; exact absurd hv (no _)
   ·exact h.ri n n' v hv hv'
  ·rw[if_neg c] at hv hv'
   exact h.ri n n' v hv hv'
 ·intro v hv
  have hv:v ∈ (if k.point=true/\rod=.non then y.sides++[.int 1] else y.sides):=hv
  split at hv
  ·rcases sC.mp hv with a | a
   ·exact h.s1 v a
   ·exact sy.mp a
  ·exact h.s1 v hv
theorem Fr.lay {y:YR}{N M R:Nat} (h:Ld y N M R) (k:Kd) (note:Int) (rod:V) {x:Int×Int} (f:Fr y x):Fr (bE y k note rod) x:=by
 have lt:=h.lt f.1
 obtain⟨⟨k',hk,e⟩,m⟩:=f
 refine⟨⟨k',?_,e⟩,m⟩
 show au (aG y.kinds (Sum.inl y.next) (.str k.str)) _=_
 rw[aD,if_neg (bU (by rw[h.nx]; omega))]
 exact hk
theorem Fr.new {y:YR}{N M R:Nat} (h:Ld y N M R) (k:Kd) (note:Int) (rod:V) {e:Int} (e0:0<=e) (e1:e<k.many):Fr (bE y k note rod) ((N:Int),e):=by
 refine⟨⟨k,?_,e0,e1⟩,h.mt _ _ (Int.le_refl _)⟩
 show au (aG y.kinds (Sum.inl y.next) (.str k.str)) _=_
 rw[aD,if_pos (by rw[h.nx])]
noncomputable def bY (y:YR) (a b:Pr):YR:={ y with mates:=aG (aG y.mates (kE a.2.1 a.2.2) (.ref b.1)) (kE b.2.1 b.2.2) (.ref a.1),trail:=[] }
theorem Ld.link {y:YR}{N M R:Nat} (h:Ld y N M R) {a b:Pr} (fa:Fr y a.2) (fb:Fr y b.2):Ld (bY y a b) N (M+2) R:=by
 have la:=h.lt fa.1; have lb:=h.lt fb.1
 refine⟨h.nx,h.kl,h.fr,fun n e hn=>?_,h.nl,h.rl,h.sl,?_,h.g,h.rb,h.ri,h.s1,U⟩
 ·show au (aG (aG y.mates (kE a.2.1 a.2.2) (.ref b.1)) (kE b.2.1 b.2.2) (.ref a.1)) _=none
  rw[aD,if_neg (fun c=>by cases cC c; omega),aD,if_neg (fun c=>by cases cC c; omega)]
  exact h.mt n e hn
 ·show(aG (aG y.mates (kE a.2.1 a.2.2) (.ref b.1)) (kE b.2.1 b.2.2) (.ref a.1)).length<=_
  have a1:=bf y.mates (kE a.2.1 a.2.2) (.ref b.1)
  have a2:=bf (aG y.mates (kE a.2.1 a.2.2) (.ref b.1)) (kE b.2.1 b.2.2) (.ref a.1)
  have:=h.ml
  omega
theorem Fr.link {y:YR}{a b:Pr}{x:Int×Int} (f:Fr y x) (ha:x≠a.2) (hb:x≠b.2):Fr (bY y a b) x:=by
 refine⟨f.1,?_⟩
 show au (aG (aG y.mates (kE a.2.1 a.2.2) (.ref b.1)) (kE b.2.1 b.2.2) (.ref a.1)) _=none
 rw[aD,if_neg (fun c=>hb (cC c)),aD,if_neg (fun c=>ha (cC c))]
 exact f.2
theorem Fr.ne {y:YR}{N M R:Nat} (h:Ld y N M R) {x:Int×Int} (f:Fr y x) {e:Int}:x≠((N:Int),e):=fun c=>by
 have:=h.lt f.1
 rw[c] at this
 exact absurd this (Int.lt_irrefl _)
structure Up (y y':YR):Prop where
 k:∀ n v,au y.kinds n=some v->au y'.kinds n=some v
 n:∀ n v,au y.notes n=some v->au y'.notes n=some v
 r:∀ n v,au y.rods n=some v->au y'.rods n=some v
 m:∀ n v,au y.mates n=some v->au y'.mates n=some v
 s:y.sides <+: y'.sides
 e:y'.eng=y.eng
 g:y'.rung=y.rung
 x:y.next<=y'.next
theorem Up.refl (y:YR):Up y y:=⟨fun _ _ h=>h,fun _ _ h=>h,fun _ _ h=>h,fun _ _ h=>h,List.prefix_refl _,U,U,Int.le_refl _⟩
theorem Up.trans {a b c:YR} (h:Up a b) (g:Up b c):Up a c:=⟨fun n v x=>g.k n v (h.k n v x),fun n v x=>g.n n v (h.n n v x),fun n v x=>g.r n v (h.r n v x),fun n v x=>g.m n v (h.m n v x),h.s.trans g.s,g.e.trans h.e,g.g.trans h.g,Int.le_trans h.x g.x⟩
theorem Up.sl {y y':YR} (h:Up y y'):y.sides.length<=y'.sides.length:=h.s.length_le
theorem Ld.up {y:YR}{N M R:Nat} (h:Ld y N M R) (k:Kd) (note:Int) (rod:V):Up y (bE y k note rod):=by
 obtain⟨f1,f2,f3⟩:=h.fr y.next (Int.le_refl _)
 have pk:∀ {kvs:List (Key×V)}{x:V}{n:Key}{v:V},au kvs (Sum.inl y.next)=none->au kvs n=some v->au (aG kvs (Sum.inl y.next) x) n=some v:=fun {kvs x n v} a b=>by
  rw[aD,if_neg (fun c=>by rw[c,a] at b; cases b)]; exact b
 refine⟨fun n v hv=>pk f1 hv,fun n v hv=>?_,fun n v hv=>?_,fun _ _ h=>h,?_,U,U,(show y.next<=y.next+1 by omega)⟩
 ·show au (if k=.bell then aG y.notes (Sum.inl y.next) (.int note) else y.notes) _=_
  split
  ·exact pk f2 hv
  ·exact hv
 ·show au (if k.point=true then aG y.rods (Sum.inl y.next) (if rod=.non then .int y.sides.length else rod) else y.rods) _=_
  split
  ·exact pk f3 hv
  ·exact hv
 ·show y.sides <+: (if k.point=true/\rod=.non then y.sides++[.int 1] else y.sides)
  split
  ·exact List.prefix_append _ _
  ·exact List.prefix_refl _
theorem Up.link {y:YR}{a b:Pr} (fa:Fr y a.2) (fb:Fr y b.2):Up y (bY y a b):=by
 refine⟨fun _ _ h=>h,fun _ _ h=>h,fun _ _ h=>h,fun n v hv=>?_,List.prefix_refl _,U,U,Int.le_refl _⟩
 show au (aG (aG y.mates (kE a.2.1 a.2.2) (.ref b.1)) (kE b.2.1 b.2.2) (.ref a.1)) n=_
 rw[aD,if_neg (fun c=>by rw[c,fb.2] at hv; cases hv),aD,if_neg (fun c=>by rw[c,fa.2] at hv; cases hv)]
 exact hv
theorem Kd.str_inj {a b:Kd} (h:a.str=b.str):a=b:=by
 cases a <;> cases b <;> first | rfl | exact absurd h (by decide)
noncomputable def Kp (y:YR) (n:Int) (k:Kd):Prop:=au y.kinds (Sum.inl n)=some (.str k.str)
noncomputable def Mt (y:YR) (L:Kn) (x z:Int×Int):Prop:=∃ b,au y.mates (kE x.1 x.2)=some (.ref b)/\pK2 (b,z) ∈ L
structure WY (w:Wd) (y:YR) (L:Kn):Prop where
 k:∀ n k,Kp y n k->w.kf n=some k
 m:∀ x z,Mt y L x z->∃ a,w.mf x.1 x.2=some (a,z)
 r:∀ (n r:Int),au y.rods (Sum.inl n)=some (.int r)->w.rf n=r
 n:∀ (n v:Int),au y.notes (Sum.inl n)=some (.int v)->w.nf n=v
structure GW (W:Wd) (s:Sd) (y:YR) (L:Kn):Prop where
 R:Rep W s y
 P:Pool W s L
 kf:∀ n,au y.kinds (Sum.inl n)=(W.kf n).map fun k=>V.str k.str
 fk:∀ n,W.kf n=none->au y.notes (Sum.inl n)=none/\au y.rods (Sum.inl n)=none
theorem Pool.sub {w:Wd}{L L':Kn} (p:Pool w s L) (h:∀ x ∈ L,x ∈ L'):Pool w s L' :=
 ⟨fun n e z hz=>(let ⟨_,hj⟩:=p.m n e z hz; List.mem_iff_getElem?.mp (h _ (si hj))),fun z hz=>(let ⟨_,hj⟩:=p.e z hz; List.mem_iff_getElem?.mp (h _ (si hj)))⟩
section
variable {W:Wd}{s:Sd}{y:YR}{L L':Kn}
theorem GW.mono (G:GW W s y L) (h:∀ x ∈ L,x ∈ L'):GW W s y L':=⟨G.R,G.P.sub h,G.kf,G.fk⟩
theorem GW.mv (G:GW W s y L) (h:∀ z:Pr,pK2 z ∈ L->pK2 z ∈ L'):GW W s y L' :=
 ⟨G.R,⟨fun n e z hz=>(let ⟨_,hj⟩:=G.P.m n e z hz; List.mem_iff_getElem?.mp (h z (si hj))),fun z hz=>(let ⟨_,hj⟩:=G.P.e z hz; List.mem_iff_getElem?.mp (h z (si hj)))⟩,G.kf,G.fk⟩
theorem GW.kp (G:GW W s y L) {n:Int}{k:Kd} (h:Kp y n k):W.kf n=some k:=by
 have:=G.kf n
 rw[show au y.kinds (Sum.inl n)=_ from h] at this
 obtain⟨k',h1,h2⟩:=Option.map_eq_some_iff.mp this.symm
 injection h2 with h2
 rw[h1,Kd.str_inj h2]
theorem GW.ok (G:GW W s y L) {z:En} (h:There y z.2.1 z.2.2):W.ok z:=by
 obtain⟨k,hk,e⟩:=h
 exact⟨k,G.kp hk,e⟩
theorem GW.kfn (G:GW W s y L) {n:Int} (h:au y.kinds (Sum.inl n)=none):W.kf n=none:=by
 have:=G.kf n
 rw[h] at this
 cases hk:W.kf n with
 | none=>rfl
 | some k=>rw[hk] at this; cases this
theorem GW.lay (G:GW W s y L) (F:Fre y) (k:Kd) (note r:Int) (rod:V) (ss':List Int)
  (hp:k.point=true->(rod=.non/\r=s.ss.length/\ss'=s.ss++[1])∨(rod=.int r/\0<=r/\r<s.ss.length/\ss'=s.ss)) (hn:k.point=false->ss'=s.ss) :
  GW (W.lay y.next k note r) ⟨ss',s.at_,s.rg⟩ (bE y k note rod) L:=by
 have hf:=G.kfn (F y.next (Int.le_refl _)).1
 refine⟨G.R.lay F hf k note r rod ss' hp hn,⟨G.P.m,G.P.e⟩,fun n=>?_,fun n hk=>?_⟩
 ·show au (aG y.kinds (Sum.inl y.next) (.str k.str)) _=Option.map _ (if n=y.next then some k else W.kf n)
  by_cases c:n=y.next
  ·rw[if_pos c,c,aD,if_pos rfl]; rfl
  ·rw[if_neg c,aD,if_neg (bU c)]; exact G.kf n
 ·have hk:(if n=y.next then some k else W.kf n)=none:=hk
  by_cases c:n=y.next
  ·rw[if_pos c] at hk; cases hk
  rw[if_neg c] at hk
  obtain⟨a,b⟩:=G.fk n hk
  refine⟨?_,?_⟩
  ·show au (if k=.bell then aG y.notes (Sum.inl y.next) (.int note) else y.notes) _=none
   split
   ·rw[aD,if_neg (bU c)]; exact a
   ·exact a
  ·show au (if k.point=true then aG y.rods (Sum.inl y.next) (if rod=.non then .int y.sides.length else rod) else y.rods) _=none
   split
   ·rw[aD,if_neg (bU c)]; exact b
   ·exact b
theorem GW.lay' (G:GW W s y L) (F:Fre y) (k:Kd) (note:Int) (rod:V) (hr:k.point=true->rod≠.non->∃ r:Int,rod=.int r/\0<=r/\r<y.sides.length) :
  ∃ r ss',GW (W.lay y.next k note r) ⟨ss',s.at_,s.rg⟩ (bE y k note rod) L:=by
 have sl:(y.sides.length:Int)=s.ss.length:=by rw[G.R.sd,su]
 cases kp:k.point with
 | false=>exact⟨0,s.ss,G.lay F k note 0 rod s.ss (fun h=>by rw[kp] at h; cases h) (fun _=>rfl)⟩
 | true=>
  by_cases c:rod=.non
  ·exact⟨s.ss.length,s.ss++[1],G.lay F k note _ rod _ (fun _=>.inl ⟨c,U,U⟩) (fun h=>by rw[kp] at h; cases h)⟩
  ·obtain⟨r,h1,h2,h3⟩:=hr kp c
   exact⟨r,s.ss,G.lay F k note r rod _ (fun _=>.inr ⟨h1,h2,by omega,U⟩) (fun _=>rfl)⟩
theorem GW.link (G:GW W s y L) {x z:En} (mx:pK2 x ∈ L) (mz:pK2 z ∈ L) (fx:Fr y x.2) (fz:Fr y z.2) (ne:x.2≠z.2):GW (W.link x z) s (bY y x z) L:=by
 refine⟨G.R.link (G.ok fx.1) (G.ok fz.1),⟨fun n e u hu=>?_,G.P.e⟩,G.kf,G.fk⟩
 have hu:(if (n,e)=z.2 then some x else if (n,e)=x.2 then some z else W.mf n e)=some u:=hu
 split at hu
 ·cases hu; exact List.mem_iff_getElem?.mp mx
 ·split at hu
  ·cases hu; exact List.mem_iff_getElem?.mp mz
  ·exact G.P.m n e u hu
theorem GW.put (G:GW W s y L) {z:En} (mz:pK2 z ∈ L) (th:There y z.2.1 z.2.2):GW W { s with at_:=some z } { y with eng:=.ref z.1,trail:=[] } L :=
 ⟨⟨G.R.kd,G.R.no,G.R.ro,G.R.rr,G.R.sd,G.R.s12,G.R.mt,G.R.mo,U,fun u hu=>by cases hu; exact G.ok th,G.R.rg⟩,⟨G.P.m,fun u hu=>by cases hu; exact List.mem_iff_getElem?.mp mz⟩,G.kf,G.fk⟩
theorem kF {a b c d:Int} (h:HO.tup [.int a,.int b]=HO.tup [.int c,.int d]):(a,b)=(c,d):=by
 injection h with h
 injection h with h1 h2
 injection h2 with h2 _
 injection h1 with h1
 injection h2 with h2
 rw[h1,h2]
theorem GW.wy (G:GW W s y L) {H:Hp}{X:Kn} (h:Has H (X++L)):WY W y L:=by
 refine⟨fun n k hk=>G.kp hk,fun x z ⟨b,h1,h2⟩=>?_,fun n r hr=>?_,fun n v hv=>?_⟩
 ·have:=G.R.mt x.1 x.2
  rw[h1] at this
  obtain⟨u,hu,e⟩:=Option.map_eq_some_iff.mp this.symm
  injection e with e
  obtain⟨j,hj⟩:=G.P.m _ _ _ hu
  have a1:=h.at_ _ (se X (si hj))
  have a2:=h.at_ _ (se X h2)
  dsimp only at a1 a2
  rw[e,a2] at a1
  have e2:=kF (Option.some.inj a1)
  refine⟨u.1,?_⟩
  rw[hu]
  exact congrArg some (Prod.ext rfl e2.symm)
 ·cases hk:W.kf n with
  | none=>rw[(G.fk n hk).2] at hr; cases hr
  | some k=>
   have:=G.R.ro n k hk
   rw[hr] at this
   split at this
   ·injection this with this; injection this with this; exact this.symm
   ·cases this
 ·cases hk:W.kf n with
  | none=>rw[(G.fk n hk).1] at hv; cases hv
  | some k=>
   have:=G.R.no n k hk
   rw[hv] at this
   split at this
   ·injection this with this; injection this with this; exact this.symm
   ·cases this
end
noncomputable def qD (s:Sd) (y:YR) (L:Kn):Prop:=∀ a z,y.eng=.ref a->pK2 (a,z) ∈ L->s.at_=some (a,z)
theorem GW.eg {W:Wd}{y:YR} (G:GW W s y L) {H:Hp}{X:Kn} (h:Has H (X++L)):qD s y L:=fun a z e m=>by
 have en:=G.R.en
 rw[e] at en
 cases hs:s.at_ with
 | none=>rw[hs] at en; cases en
 | some u=>
  rw[hs] at en
  injection en with en
  obtain⟨j,hj⟩:=G.P.e _ hs
  have a1:=h.at_ _ (se X (si hj))
  have a2:=h.at_ _ (se X m)
  dsimp only at a1 a2
  rw[<- en,a2] at a1
  exact congrArg some (Prod.ext en.symm (kF (Option.some.inj a1)).symm)
noncomputable def YIn (C:Addr) (H:Hp) (p:Addr) (y:YR) (L:Kn):Prop:=∃ A:YA,A.p=p/\Has H (yL C A y++L)/\∃ W s,GW W s y L
section
variable {C:Addr}{H:Hp}{p:Addr}{y:YR}{L:Kn}{N M R:Nat}{Q:V->Hp->Prop}
theorem YIn.at_ (Y:YIn C H p y L) {z:Addr×HO} (m:z ∈ L):H z.1=some z.2:=by
 obtain⟨A,_,h,_⟩:=Y
 exact h.at_ _ (se _ m)
theorem YIn.obj (Y:YIn C H p y L):∃ A:YA,H p=some (.ins C A.dx (fl A y.next y.eng)):=by
 obtain⟨A,rfl,h,_⟩:=Y
 exact⟨A,h.get 1 U⟩
theorem YIn.alloc (Y:YIn C H p y L) {a:Addr} (n:H a=none) (o:HO):YIn C (upd H a o) p y ((a,o)::L):=by
 obtain⟨A,e,h,W,s,G⟩:=Y
 exact⟨A,e,(h.alloc n o).perm (List.perm_middle (l₁:=yL C A y) (l₂:=L)).symm,W,s,G.mono fun x hx=>r9 _ hx⟩
theorem YIn.perm {L':Kn} (Y:YIn C H p y L) (e:L.Perm L'):YIn C H p y L':=by
 obtain⟨A,e1,h,W,s,G⟩:=Y
 exact⟨A,e1,h.perm (List.Perm.append_left _ e),W,s,G.mono fun x hx=>e.mem_iff.mp hx⟩
theorem YIn.re (Y:YIn C H p y L):∃ A:YA,A.p=p/\Has H (yL C A y++L)/\∀ {H':Hp}{L':Kn}{A':YA},A'.p=p->(∀ z:Pr,pK2 z ∈ L->pK2 z ∈ L')->Has H' (yL C A' y++L')->YIn C H' p y L':=by
 obtain⟨A,e,h,W,s,G⟩:=Y
 exact⟨A,e,h,fun e' m h'=>⟨_,e',h',W,s,G.mv m⟩⟩
theorem yL_no {C:Addr}{A:YA}{y:YR} (b:Pr):pK2 b ∉ yL C A y:=fun h=>by
 unfold yL at h
 simp[pK2] at h
theorem YIn.rac (Y:YIn C H p y L):∃ A:YA,A.p=p/\Has H (yL C A y++L)/\∀ {H':Hp}{X L':Kn},Has H' (X++(yL C A y++L))->(X++(yL C A y++L)).Perm (yL C A y++L')->YIn C H' p y L':=by
 obtain⟨A,e,h,re⟩:=Y.re
 refine⟨A,e,h,fun {H' X L'} h' pm=>re e (fun z hz=>?_) (h'.perm pm)⟩
 rcases sC.mp (pm.mem_iff.mp (se X (se _ hz))) with c | c
 ·exact absurd c (yL_no z)
 ·exact c
theorem GW.nil (C:Addr):GW w0 ⟨[],none,[]⟩ y0 L:=⟨Rep.nil,⟨(fun _ _ _ h=>nomatch h),(fun _ h=>nomatch h)⟩,fun _=>rfl,fun _ _=>⟨U,U⟩⟩
theorem YIn.put0 {a:Addr}{o:HO} (Y:YIn C H p y ((a,o)::L)) (o':HO) (hn:∀ z:Pr,(a,o)≠pK2 z:=by intro z c; simp[pK2] at c):YIn C (upd H a o') p y ((a,o')::L):=by
 obtain⟨A,e,h,re⟩:=Y.re
 refine re e (fun z hz=>?_) (((h.perm (List.perm_middle (l₁:=yL C A y) (l₂:=L))).puti 0 U o').perm (List.perm_middle (l₁:=yL C A y) (l₂:=L)).symm)
 rcases sD.mp hz with c | c
 ·exact absurd c.symm (hn z)
 ·exact r9 _ c
theorem YIn.drop {a:Addr}{o:HO} (Y:YIn C H p y ((a,o)::L)) (hn:∀ z:Pr,(a,o)≠pK2 z:=by intro z c; simp[pK2] at c):YIn C H p y L:=by
 obtain⟨A,e,h,re⟩:=Y.re
 refine re e (fun z hz=>?_) (h.sub (List.Sublist.append (List.Sublist.refl _) (List.sublist_cons_self _ _)))
 rcases sD.mp hz with c | c
 ·exact absurd c.symm (hn z)
 ·exact c
theorem cut2 (a b:V) (r:List V):bV (a::b::r) (some 2) none=r:=by
 unfold bV HT.sIx
 simp
theorem tn0 {σ:St}{H:Hp}{Q:List V->Hp->Prop} (h:Q [] H):hX σ H Q:=h
theorem tc1 {c:V}{σ:St}{H:Hp}{Q:List V->Hp->Prop} (h:Q [c] H):hZ (tC c) hX σ H Q:=h
theorem cT (Y:YIn C H p y L) (D:Ld y N M R) (b:N<=9000/\M<=30000/\R<=1000) (k:Kd) (note:Int) (rod:V) (hn:k=.bell->0<=note/\note<=9999)
  (hr:k.point=true->rod≠.non->∃ r:Int,rod=.int r/\0<=r/\r<y.sides.length) (q:∀ H',YIn C H' p (bE y k note rod) L->Q (.int N) H'):sp_lay C [.ref p,.str k.str,.int note,rod] H Q E0:=by
 obtain⟨A,rfl,h,W,s,G⟩:=Y
 refine⟨A,y,L,k,note,rod,U,h,D.small b.1 b.2.1 b.2.2,hn,hr,fun H' tr h'=>?_⟩
 rw[D.nx]
 obtain⟨r,ss',G'⟩:=G.lay' D.fr k note rod hr
 exact q H' ⟨{ A with tr:=tr },U,h',_,_,G'⟩
theorem cm (Y:YIn C H p y L) (D:Ld y N M R) (hM:M<=30000) {a b:Pr} (ma:pK2 a ∈ L) (mb:pK2 b ∈ L) (fa:Fr y a.2) (fb:Fr y b.2) (ne:a.2≠b.2) (q:∀ H',YIn C H' p (bY y a b) L->Q .non H') :
  sp_link C [.ref p,.ref a.1,.ref b.1] H Q E0:=by
 obtain⟨A,rfl,h,W,s,G⟩:=Y
 obtain⟨j1,e1⟩:=List.getElem?_of_mem ma
 obtain⟨j2,e2⟩:=List.getElem?_of_mem mb
 exact⟨A,y,L,a.1,b.1,a.2.1,a.2.2,b.2.1,b.2.2,j1,j2,U,h,e1,e2,fa.1,fb.1,fun c=>ne (cC c),fa.2,fb.2,Nat.le_trans D.ml hM,fun H' tr h'=>q H' ⟨{ A with tr:=tr },U,h',_,_,G.link ma mb fa fb ne⟩⟩
theorem pI (Y:YIn C H p y L) {z:Pr} (mz:pK2 z ∈ L) (th:There y z.2.1 z.2.2) (q:∀ H',YIn C H' p { y with eng:=.ref z.1,trail:=[] } L->Q .non H'):sp_put C [.ref p,.ref z.1] H Q E0:=by
 obtain⟨A,rfl,h,W,s,G⟩:=Y
 obtain⟨j,e⟩:=List.getElem?_of_mem mz
 exact⟨A,y,L,z.1,z.2.1,z.2.2,j,U,h,e,th,fun H' tr h'=>q H' ⟨{ A with tr:=tr },U,h',_,_,G.put mz th⟩⟩
theorem j9 (Y:YIn C H p y L) (q:Q y.eng H):sp_engine C [.ref p] H Q E0:=by
 obtain⟨A,rfl,h,_⟩:=Y
 exact⟨A,y,L,U,h,q⟩
theorem lZ (Y:YIn C H p y L) (q:∀ H' l,YIn C H' p y ((l,.lst y.rung)::L)->Q (.ref l) H'):sp_bells C [.ref p] H Q E0:=by
 obtain⟨A,rfl,h,W,s,G⟩:=Y
 exact⟨A,y,L,U,h,fun H' l h'=>q H' l ⟨A,U,h'.perm (List.perm_middle (l₁:=yL C A y) (l₂:=L)).symm,W,s,G.mono fun x hx=>r9 _ hx⟩⟩
theorem mY (Y:YIn C H p y L) (q:∀ W s H',GW W s y L->WY W y L->qD s y L->YIn C H' p y L->Q (W.why s) H'):sp_held C [.ref p] H Q E0:=by
 obtain⟨A,rfl,h,W,s,G⟩:=Y
 exact⟨A,y,L,W,s,U,h,G.R,G.P,fun H' h'=>q W s H' G (G.wy h) (G.eg h) ⟨A,U,h',W,s,G⟩⟩
theorem pF (Y:YIn C H p y L) (et:y.trail=[]) {m:Int} (b1:m<=100000) (b2:y.rung.length<=200000) (q:∀ W s,GW W s y L->WY W y L->qD s y L->∀ H' y' Nw,GW W (W.go m.toNat s) y' (Nw++L)->y'.next=y.next->y'.kinds=y.kinds->y'.notes=y.notes->y'.rods=y.rods->y'.mates=y.mates->y'.trail.length=(W.hist m.toNat s).length ->
  YIn C H' p y' (Nw++L)->Q (.int (W.hist m.toNat s).length) H'):sp_run C [.ref p,.int m] H Q E0:=by
 obtain⟨A,rfl,h,W,s,G⟩:=Y
 refine⟨A,y,L,W,s,[],m,U,h,G.R,G.P,et,by show((0:Nat):Int)+m<=900000; omega,by omega,by show 0<=900000; omega,by omega,fun H' y' ts' h' R' t' e' n1 n2 n3 n4 n5 P'=>?_⟩
 have G':GW W (W.go m.toNat s) y' (trK W ts'++L):=⟨R',P'.sub fun x hx=>se _ hx,by rw[n2]; exact G.kf,by rw[n3,n4]; exact G.fk⟩
 have el:ts'.length=(W.hist m.toNat s).length:=by rw[<- e',su]
 rw[el]
 refine q W s G (G.wy h) (G.eg h) H' y' (trK W ts') G' n1 n2 n3 n4 n5 ?_ ⟨A,U,h',W,_,G'⟩
 rw[t',List.nil_append]
 unfold trV
 rw[su,el]
end
theorem Mt.up {y y':YR}{L L':Kn}{x z:Int×Int} (h:Mt y L x z) (u:Up y y') (s:∀ v ∈ L,v ∈ L'):Mt y' L' x z:=by
 obtain⟨b,h1,h2⟩:=h
 exact⟨b,u.m _ _ h1,s _ h2⟩
theorem Kp.up {y y':YR}{n:Int}{k:Kd} (h:Kp y n k) (u:Up y y'):Kp y' n k:=u.k _ _ h
theorem Mt.l1 {y:YR}{a b:Pr} (hb:pK2 b ∈ L) (ne:a.2≠b.2):Mt (bY y a b) L a.2 b.2:=by
 refine⟨b.1,?_,hb⟩
 show au (aG (aG y.mates (kE a.2.1 a.2.2) (.ref b.1)) (kE b.2.1 b.2.2) (.ref a.1)) _=_
 rw[aD,if_neg (fun c=>ne (cC c)),aD,if_pos rfl]
theorem Mt.l2 {y:YR}{a b:Pr} (ha:pK2 a ∈ L):Mt (bY y a b) L b.2 a.2:=by
 refine⟨a.1,?_,ha⟩
 show au (aG (aG y.mates (kE a.2.1 a.2.2) (.ref b.1)) (kE b.2.1 b.2.2) (.ref a.1)) _=_
 rw[aD,if_pos rfl]
theorem Kp.lay {y:YR}{N M R:Nat} (h:Ld y N M R) (k:Kd) (note:Int) (rod:V):Kp (bE y k note rod) N k:=by
 show au (aG y.kinds (Sum.inl y.next) (.str k.str)) _=_
 rw[aD,if_pos (by rw[h.nx])]
inductive Ch (y:YR) (L:Kn):Nat->Int×Int->Int×Int->Prop
 | refl (x:Int×Int):Ch y L 0 x x
 | still {n:Nat}{x w:Int×Int}{s a:Int} (m:Mt y L x (s,a)) (k:Kp y s .still) (ha:a=1∨a=2) (c:Ch y L n (s,0) w):Ch y L (n+1) x w
noncomputable def LdB (y:YR) (L:Kn) (b:Nat) (x z:Int×Int):Prop:=∃ n w,n<=b/\Ch y L n x w/\Mt y L w z
theorem Ch.up {y y':YR}{L L':Kn}{n:Nat}{x z:Int×Int} (h:Ch y L n x z) (u:Up y y') (s:∀ v ∈ L,v ∈ L'):Ch y' L' n x z:=by
 induction h with
 | refl x=>exact .refl x
 | still m k ha _ ih=>exact .still (m.up u s) (k.up u) ha ih
theorem Ch.snoc {y:YR}{n:Nat}{x w:Int×Int}{s a:Int} (h:Ch y L n x w) (m:Mt y L w (s,a)) (k:Kp y s .still) (ha:a=1∨a=2):Ch y L (n+1) x (s,0):=by
 induction h with
 | refl x=>exact .still m k ha (.refl _)
 | still m' k' ha' _ ih=>exact .still m' k' ha' (ih m)
theorem LdB.up {y y':YR}{L L':Kn}{b:Nat}{x z:Int×Int} (h:LdB y L b x z) (u:Up y y') (s:∀ v ∈ L,v ∈ L'):LdB y' L' b x z:=by
 obtain⟨n,w,h0,h1,h2⟩:=h
 exact⟨n,w,h0,h1.up u s,h2.up u s⟩
inductive sp_merge (C:Addr) (vs:List V) (H:Hp) (Q:VK) (E_:XK):Prop
 | mk (p:Addr) (y:YR) (L:Kn) (lo:Addr) (zs:List Pr) (z:Pr) (N M R:Nat) (_:vs=[.ref p,.ref lo,.ref z.1]) (_:YIn C H p y L) (_:(lo,HO.lst (prV zs)) ∈ L) (_:(∀ x ∈ zs,pK2 x ∈ L)) (_:pK2 z ∈ L) (_:Ld y N M R) (_:(zs.map (·.2)).Nodup) (_:z.2 ∉ zs.map (·.2)) (_:(∀ x ∈ zs,Fr y x.2)) (_:Fr y z.2) (_:N+zs.length<=8000) (_:M+4*zs.length<=29000) (_:R<=1000) (_:∀ H' y' Nw M',Ld y' (N+(zs.length - 1)) M' R->(zs≠[]->y'.trail=[])->(zs=[]->y'=y)->y'.kinds.length=y.kinds.length+(zs.length - 1)->M'<=M+4*zs.length->Up y y'->(∀ x,Fr y x->x ∉ zs.map (·.2)->x≠z.2->Fr y' x)->(∀ x ∈ zs,LdB y' (Nw++L) (zs.length - 1) x.2 z.2)->YIn C H' p y' (Nw++L)->Q .non H'):sp_merge C vs H Q E_
inductive mrg1Inv (C_:Addr) (p:Addr) (lo:Addr) (z:Pr) (z0:Pr) (zr:List Pr) (y:YR) (N:Nat) (M:Nat) (R:Nat) (L:Kn) (m:Nat) (σ':St) (H':Hp):Prop
 | mk (y':YR) (Nw:Kn) (wl:Addr) (ws:List Pr) (N' M':Nat) (o:Option V) (_:m=ws.length) (_:σ'=[some (.ref p),some (.ref lo),some (.ref z.1),some (.ref wl),o]) (_:YIn C_ H' p y' ((wl,.lst (prV ws))::(Nw++L))) (_:ws≠[]) (_:(∀ x ∈ ws,pK2 x ∈ Nw++L)) (_:Ld y' N' M' R) (_:N'+ws.length=N+(z0::zr).length) (_:y'.kinds.length+ws.length=y.kinds.length+(z0::zr).length) (_:M'+4*ws.length=M+4*(z0::zr).length) (_:(ws.map (·.2)).Nodup) (_:z.2 ∉ ws.map (·.2)) (_:(∀ x ∈ ws,Fr y' x.2)) (_:Fr y' z.2) (_:(∀ x,Fr y x->x ∉ (z0::zr).map (·.2)->x≠z.2->Fr y' x/\x ∉ ws.map (·.2))) (_:Up y y') (_:(∀ x ∈ z0::zr,∃ w ∈ ws,∃ n,n+ws.length<=(z0::zr).length/\Ch y' (Nw++L) n x.2 w.2)):mrg1Inv C_ p lo z z0 zr y N M R L m σ' H'
section
variable {P:Program}{w:World}{K:PySem.W.Frag}{mg:Str->Option Value}{base:Heap}{t:Adr}
theorem scMe:FnScope ["yard","outs","end","waiting","point"] ["yard","outs","end"] (aj ji):={}
theorem fq (T:Txt K mg t):FnOk P w K mg base CX0 5 t.f_merge t.d_merge ["yard","outs","end"] (sp_merge t.c_Yard):=by
 obtain⟨ds_l2,hd_Jb1_2,hb_Jb1_2⟩:=cc T
 refine T.F_merge.ok scMe (fun vs H Q E h=>?_) (fun cdv A outer s H vs Q E hr h=>?_)
 ·obtain⟨_,_,_,_,_,_,_,_,_,rfl,_⟩:=h
  rfl
 ·obtain⟨p,y,L,lo,zs,z,N,M,R,rfl,Y,mlo,mzs,mz,D,nd,nz,fz,fe,bN,bM,bR,q⟩:=h
  refine⟨_,(ae (aI (eZ (db (pv 1) (by intro _; rfl)))
    (ai jm)
    av)
   (ae (aH (i:=3) scMe.nd rfl (Or.inl rfl) (bu bh (by rfl) T.z_list (by rfl) (aa (pv 1) ah)))
   (ae (df PassesOwn.never (ap iu (aR aJ (by rfl) T.z_len (by rfl) (aa (pv 3) ah)) am (ar _))
    (ae (aH (i:=4) scMe.nd rfl (Or.inl rfl) (ax (pv 0) T.cl_Yard T.M_Jb1 (ci T) hr hb_Jb1_2 hd_Jb1_2 az (aa aL ah)))
     (ae (ao (ax (pv 0) T.cl_Yard T.M_J21 (bS T) hr (cQ T) .nil az (@aa _ _ _ _ _ (aM aN (pv 3) am) (@aa _ _ _ _ _ (aF (aa (pv 4) (aa am ah))) ah (by rfl)) (by rfl))))
     (ae (ao (ax (pv 0) T.cl_Yard T.M_J21 (bS T) hr (cQ T) .nil az (@aa _ _ _ _ _ (aM aN (pv 3) am) (@aa _ _ _ _ _ (aF (aa (pv 4) (aa am ah))) ah (by rfl)) (by rfl))))
     (ai (aH (i:=3) scMe.nd rfl (Or.inl rfl) (aQ gY (cx d0 (pv 3) (dg am) dh) (aU (@aa _ _ _ _ _ (aF (aa (pv 4) (aa am ah))) ah (by rfl))))))))))
   (ai (ao (ax (pv 0) T.cl_Yard T.M_J21 (bS T) hr (cQ T) .nil az (aa (aM aN (pv 3) am) (aa (pv 2) ah)))))))),?_⟩
  rw[show L2.start ["yard","outs","end","waiting","point"] [V.ref p,V.ref lo,V.ref z.1]=([some (V.ref p),some (V.ref lo),some (V.ref z.1),none,none]:St) from rfl]
  cases zs with
  | nil=>
   refine⟨_,U,false,.inl ⟨_,SqL.of (Y.at_ mlo),U⟩,fE ?_⟩
   exact q _ y [] M D (fun c=>absurd rfl c) (fun _=>rfl) rfl (by omega) (Up.refl _) (fun x h _ _=>h) (fun x hx=>(nomatch hx)) Y
  | cons z0 zr=>
  refine⟨_,U,true,.inl ⟨_,SqL.of (Y.at_ mlo),U⟩,dq ?_⟩
  refine⟨_,U,lo,_,U,.inl (SqL.of (Y.at_ mlo)),fun wl hwl=>?_⟩
  dsimp only[List.set]
  refine⟨(mrg1Inv t.c_Yard p lo z z0 zr y N M R L),
   ⟨_,y,[],wl,z0::zr,N,M,none,U,U,Y.alloc hwl _,(fun c=>nomatch c),mzs,D,U,U,U,nd,nz,fz,fe,fun x h1 h2 _=>⟨h1,h2⟩,Up.refl _,fun x hx=>⟨x,hx,0,by omega,.refl _⟩⟩,?_⟩
  rintro m σ H1 ⟨y1,Nw,wl,ws,N1,M1,o,rfl,rfl,Y1,hne,mws,D1,eN,kln,eM,nd1,nz1,fw,fe1,old,up,chs⟩
  have gw:=Y1.at_ sg
  refine⟨_,U,wl,_,U,.inl (SqL.of gw),_,_,U,U,_,U,?_⟩
  have lw:(prV ws).length=ws.length:=by unfold prV; rw[su]
  match ws,hne with
  | [a],_=>
   refine ifF (decide_eq_false (by rw[lw]; simp)) ?_
   obtain⟨A1,gy⟩:=Y1.obj
   refine⟨_,U,p,A1.dx,_,U,gy,(b7 _ _ _).2.2.1,_,U,wl,_,_,_,U,U,SqL.of gw,aC (j:=0) rfl,_,U,?_⟩
   have fa:=fw a sg
   have ne:a.2≠z.2:=fun c=>nz1 (by rw[<- c]; exact sg)
   refine cm Y1 D1 (by simp at eM bM; omega) (r9 _ (mws a sg)) (r9 _ (se _ mz)) fa fe1 ne (fun H2 Y2=>?_)
   have D2:=D1.link fa fe1
   have e:N1=N+((z0::zr).length - 1):=by simp at eN ⊢; omega
   rw[e] at D2
   refine q H2 _ ((wl,.lst (prV [a]))::Nw) _ D2 (fun _=>rfl) (fun c=>nomatch c) (by simp only[sG,List.length_nil] at kln ⊢; show y1.kinds.length=_; omega) (by simp at eM ⊢; omega) (up.trans (Up.link fa fe1)) (fun x h1 h2 h3=>?_) (fun x hx=>?_) Y2
   ·obtain⟨h4,h5⟩:=old x h1 h2 h3
    exact h4.link (fun c=>h5 (by rw[c]; exact sg)) h3
   ·obtain⟨w',hw',nc,hnc,cw⟩:=chs x hx
    cases sy.mp hw'
    exact⟨nc,a.2,by simp only[sG,List.length_nil] at hnc ⊢; omega,cw.up (Up.link fa fe1) (fun v hv=>r9 _ hv),Mt.l1 (r9 _ (se _ mz)) ne⟩
  | a::b::r,_=>
   refine ifT (decide_eq_true (by rw[lw]; simp; omega)) ?_
   refine⟨_,fun σ' H' h=>h,?_⟩
   obtain⟨A1,gy⟩:=Y1.obj
   simp only[sG] at eN eM bN bM
   refine⟨_,U,p,A1.dx,_,U,gy,(cn _ _ _).1,?_⟩
   refine tc1 ?_
   refine cT Y1 D1 ⟨by omega,by omega,bR⟩ .still 0 .non (fun c=>nomatch c) (fun _ c=>absurd rfl c) (fun H2 Y2=>?_)
   have D2:=D1.lay .still 0 .non
   have fa:=(fw a sg).lay D1 .still 0 .non
   have fb:=(fw b (r9 _ sg)).lay D1 .still 0 .non
   have f0:Fr _ ((N1:Int),0):=Fr.new D1 .still 0 .non (Int.le_refl _) (by decide)
   have f1:Fr _ ((N1:Int),1):=Fr.new D1 .still 0 .non (by decide) (by decide)
   have f2:Fr _ ((N1:Int),2):=Fr.new D1 .still 0 .non (by decide) (by decide)
   have no:∀ x e,Fr y1 x->x≠((N1:Int),e):=fun x e h=>h.ne D1
   have old2:∀ x,Fr y1 x->Fr (bE y1 .still 0 .non) x:=fun x h=>h.lay D1 .still 0 .non
   have up2:=up.trans (D1.up .still 0 .non)
   have u2:=D1.up .still 0 .non
   have k2:Kp _ N1 .still:=Kp.lay D1 .still 0 .non
   have kl2:(bE y1 .still 0 .non).kinds.length=y1.kinds.length+1:=jl (D1.fr _ (Int.le_refl _)).1
   obtain⟨y2,ey2⟩:∃ y2,bE y1 .still 0 .non=y2:=⟨_,U⟩
   rw[ey2] at kl2 u2 k2 up2 Y2 D2 fa fb f0 f1 f2 old2
   have mw:∀ x ∈ a::b::r,pK2 x ∈ (wl,HO.lst (prV (a::b::r)))::(Nw++L):=fun x hx=>r9 _ (mws x hx)
   have ab:a.2≠b.2:=fun c=>(List.nodup_cons.mp nd1).1 (by show a.2 ∈ _; rw[c]; exact sg)
   have na:=no _ 1 (fw a sg)
   have n01:∀ i j:Int,i≠j->((N1:Int),i)≠((N1:Int),j):=fun i j h c=>h (by injection c)
   have ra:a.2 ∉ r.map (·.2):=fun h=>(List.nodup_cons.mp nd1).1 (r9 _ h)
   have nd2:=(List.nodup_cons.mp nd1).2
   have rb:b.2 ∉ r.map (·.2):=(List.nodup_cons.mp nd2).1
   dsimp only[List.set]
   obtain⟨A2,gy2⟩:=Y2.obj
   have gw2:=Y2.at_ sg
   refine⟨_,U,p,A2.dx,_,U,gy2,(b7 _ _ _).2.2.1,_,U,wl,_,_,_,U,U,SqL.of gw2,aC (j:=0) rfl,_,U,(show 2<=sizeLine by decide),fun b1 hb1=>?_⟩
   have Y3:=Y2.alloc hb1 (.tup [.int N1,.int 1])
   refine tn0 ?_
   refine cm (b:=(b1,(N1:Int),1)) Y3 D2 (by omega) (r9 _ (mw a sg)) sg fa f1 na (fun H4 Y4=>?_)
   have D4:=D2.link (b:=(b1,(N1:Int),1)) fa f1
   have fb4:=fb.link (a:=a) (b:=(b1,(N1:Int),1)) (fun c=>ab c.symm) (no _ 1 (fw b (r9 _ sg)))
   have f24:=f2.link (a:=a) (b:=(b1,(N1:Int),1)) (fun c=>no _ 2 (fw a sg) c.symm) (n01 _ _ (by decide))
   have f04:=f0.link (a:=a) (b:=(b1,(N1:Int),1)) (fun c=>no _ 0 (fw a sg) c.symm) (n01 _ _ (by decide))
   have old4:∀ x,Fr y1 x->x≠a.2->Fr (bY y2 a (b1,(N1:Int),1)) x:=fun x h1 h2=>(old2 x h1).link h2 (no x 1 h1)
   have up4:=up2.trans (Up.link (b:=(b1,(N1:Int),1)) fa f1)
   have u4:=u2.trans (Up.link (b:=(b1,(N1:Int),1)) fa f1)
   have k4:=k2.up (Up.link (b:=(b1,(N1:Int),1)) fa f1)
   have m4:∀ L',pK2 (b1,(N1:Int),1) ∈ L'->Mt (bY y2 a (b1,(N1:Int),1)) L' a.2 ((N1:Int),1):=fun L' h=>Mt.l1 (b:=(b1,(N1:Int),1)) h na
   obtain⟨y4,ey4⟩:∃ y4,bY y2 a (b1,(N1:Int),1)=y4:=⟨_,U⟩
   rw[ey4] at u4 k4 m4 up4 Y4 D4 fb4 f24 f04 old4
   obtain⟨A4,gy4⟩:=Y4.obj
   have gw4:=Y4.at_ (r9 _ sg)
   refine⟨_,U,p,A4.dx,_,U,gy4,(b7 _ _ _).2.2.1,_,U,wl,_,_,_,U,U,SqL.of gw4,aC (j:=1) rfl,_,U,(show 2<=sizeLine by decide),fun b2 hb2=>?_⟩
   have Y5:=Y4.alloc hb2 (.tup [.int N1,.int 2])
   refine tn0 ?_
   refine cm (b:=(b2,(N1:Int),2)) Y5 D4 (by omega) (r9 _ (r9 _ (mw b (r9 _ sg)))) sg fb4 f24 (no _ 2 (fw b (r9 _ sg))) (fun H6 Y6=>?_)
   have D6:=D4.link (b:=(b2,(N1:Int),2)) fb4 f24
   have f06:=f04.link (a:=b) (b:=(b2,(N1:Int),2)) (fun c=>no _ 0 (fw b (r9 _ sg)) c.symm) (n01 _ _ (by decide))
   have old6:∀ x,Fr y1 x->x≠a.2->x≠b.2->Fr (bY y4 b (b2,(N1:Int),2)) x:=fun x h1 h2 h3=>(old4 x h1 h2).link h3 (no x 2 h1)
   have up6:=up4.trans (Up.link (b:=(b2,(N1:Int),2)) fb4 f24)
   have l6:=Up.link (a:=b) (b:=(b2,(N1:Int),2)) fb4 f24
   have u6:=u4.trans l6
   have k6:=k4.up l6
   have m6:∀ L',pK2 (b2,(N1:Int),2) ∈ L'->Mt (bY y4 b (b2,(N1:Int),2)) L' b.2 ((N1:Int),2):=fun L' h=>Mt.l1 (b:=(b2,(N1:Int),2)) h (no _ 2 (fw b (r9 _ sg)))
   have kl6:(bY y4 b (b2,(N1:Int),2)).kinds.length=y1.kinds.length+1:=by rw[<- ey4]; exact kl2
   obtain⟨y6,ey6⟩:∃ y6,bY y4 b (b2,(N1:Int),2)=y6:=⟨_,U⟩
   rw[ey6] at kl6 l6 u6 k6 m6 up6 Y6 D6 f06 old6
   have gw6:=Y6.at_ (r9 _ (r9 _ sg))
   refine⟨_,U,_,U,wl,_,U,SqL.of gw6,fun c1 hc1=>?_⟩
   have e2:bV (prV (a::b::r)) (some 2) none=prV r:=cut2 _ _ _
   rw[e2]
   have Y7:=Y6.alloc hc1 (.lst (prV r))
   refine⟨_,U,(show 2<=sizeLine by decide),fun b3 hb3=>?_⟩
   have Y8:=Y7.alloc hb3 (.tup [.int N1,.int 0])
   refine⟨(sz_ 1),fun c2 hc2=>?_⟩
   have Y9:=Y8.alloc hc2 (.lst [.ref b3])
   refine⟨c1,c2,_,_,U,U,SqL.of (Y9.at_ (r9 _ (r9 _ sg))),SqL.of (Y9.at_ sg),sz (show _<=1000000 by unfold prV; rw[su,sK]; omega),fun w2 hw2=>?_⟩
   have Y10:=Y9.alloc hw2 (.lst (prV r++[.ref b3]))
   have er:prV r++[.ref b3]=prV (r++[(b3,(N1:Int),0)]):=by unfold prV; rw[sw]; rfl
   have em:(r++[(b3,(N1:Int),0)]).map (fun x:Pr=>x.2)=r.map (·.2)++[((N1:Int),0)]:=by rw[sw]; rfl
   have n0r:((N1:Int),0) ∉ r.map (·.2):=fun h=>by
    obtain⟨x,hx,e⟩:=sQ.mp h
    exact no x.2 0 (fw x (r9 _ (r9 _ hx))) e
   rw[er] at Y10 ⊢
   refine⟨(r++[(b3,(N1:Int),0)]).length,by simp,y6,(c2,.lst [.ref b3])::(b3,.tup [.int N1,.int 0])::(c1,.lst (prV r))::(b2,.tup [.int N1,.int 2])::(b1,.tup [.int N1,.int 1])::(wl,.lst (prV (a::b::r)))::Nw,w2,r++[(b3,(N1:Int),0)],N1+1,M1+2+2,_,U,U,Y10,?_,?_,D6,by simp at eN ⊢; omega,by rw[kl6]; simp only[sG,sA,List.length_nil] at kln ⊢; omega,by simp at eM ⊢; omega,?_,?_,?_,?_,?_,up6,?_⟩
   ·exact fun c=>by simp at c
   ·intro x hx
    rcases sC.mp hx with hx | hx
    ·simp only[List.cons_append]
     exact r9 _ (r9 _ (r9 _ (r9 _ (r9 _ (r9 _ (mws x (r9 _ (r9 _ hx))))))))
    ·cases sy.mp hx
     exact sk _ (r9 _ sg)
   ·rw[em]
    exact List.nodup_append.mpr ⟨(List.nodup_cons.mp nd2).2,by simp,fun x hx y hy e=>n0r (by rw[<- sy.mp hy,<- e]; exact hx)⟩
   ·rw[em]
    intro h
    rcases sC.mp h with h | h
    ·exact nz1 (r9 _ (r9 _ h))
    ·exact no _ 0 fe1 (sy.mp h)
   ·intro x hx
    rcases sC.mp hx with hx | hx
    ·have:=sF (f:=fun x:Pr=>x.2) hx
     exact old6 _ (fw x (r9 _ (r9 _ hx))) (fun c=>ra (by rw[<- c]; exact this)) (fun c=>rb (by rw[<- c]; exact this))
    ·cases sy.mp hx
     exact f06
   ·exact old6 _ fe1 (fun c=>nz1 (by rw[c]; exact sg)) (fun c=>nz1 (by rw[c]; exact r9 _ sg))
   ·intro x h1 h2 h3
    obtain⟨h4,h5⟩:=old x h1 h2 h3
    refine⟨old6 x h4 (fun c=>h5 (by rw[c]; exact sg)) (fun c=>h5 (by rw[c]; exact r9 _ sg)),?_⟩
    rw[em]
    intro h
    rcases sC.mp h with h | h
    ·exact h5 (r9 _ (r9 _ h))
    ·exact no _ 0 h4 (sy.mp h)
   ·intro x hx
    obtain⟨w',hw',nc,hnc,cw⟩:=chs x hx
    obtain⟨Lf,eLf⟩:∃ Lf:Kn,((c2,HO.lst [.ref b3])::(b3,.tup [.int N1,.int 0])::(c1,.lst (prV r))::(b2,.tup [.int N1,.int 2])::(b1,.tup [.int N1,.int 1])::(wl,.lst (prV (a::b::r)))::Nw)++L=Lf:=⟨_,U⟩
    have sL:∀ v ∈ Nw++L,v ∈ Lf:=fun v hv=>by rw[<- eLf]; simp only[List.cons_append]; exact r9 _ (r9 _ (r9 _ (r9 _ (r9 _ (r9 _ hv)))))
    have mb1:pK2 (b1,(N1:Int),1) ∈ Lf:=by rw[<- eLf]; exact sk _ (by simp)
    have mb2:pK2 (b2,(N1:Int),2) ∈ Lf:=by rw[<- eLf]; exact sk _ (by simp)
    rw[eLf]
    have cw6:=cw.up u6 sL
    have new:(b3,(N1:Int),(0:Int)) ∈ r++[(b3,(N1:Int),0)]:=se _ sg
    rcases sD.mp hw' with rfl | hw'
    ·exact⟨_,new,nc+1,by simp only[sG,sA,List.length_nil] at hnc ⊢; omega,cw6.snoc ((m4 Lf mb1).up l6 (fun v hv=>hv)) k6 (.inl rfl)⟩
    ·rcases sD.mp hw' with rfl | hw'
     ·exact⟨_,new,nc+1,by simp only[sG,sA,List.length_nil] at hnc ⊢; omega,cw6.snoc (m6 Lf mb2) k6 (.inr rfl)⟩
     ·exact⟨w',sk _ hw',nc,by simp only[sG,sA,List.length_nil] at hnc ⊢; omega,cw6⟩
end
noncomputable def Lead (y:YR) (L:Kn) (x z:Int×Int):Prop:=∃ b:Nat,(b:Int)<=y.next/\LdB y L b x z
theorem Lead.up {y y':YR}{L L':Kn}{x z:Int×Int} (h:Lead y L x z) (u:Up y y') (s:∀ v ∈ L,v ∈ L'):Lead y' L' x z:=by
 obtain⟨b,h1,h2⟩:=h
 exact⟨b,Int.le_trans h1 u.x,h2.up u s⟩
inductive sp_Je1 (C:Addr) (vs:List V) (H:Hp) (Q:VK) (E_:XK):Prop
 | mk (p:Addr) (y:YR) (L:Kn) (N M R:Nat) (_:vs=[.ref p]) (_:YIn C H p y L) (_:Ld y N M R) (_:N<=8000) (_:M<=29000) (_:R<=1000) (_:∀ H' tp b0 b2 b1,YIn C H' p (bE y .still 0 .non) ((tp,.tup [.ref b0,.ref b2,.ref b1])::pK2 (b1,(N:Int),1)::pK2 (b2,(N:Int),2)::pK2 (b0,(N:Int),0)::L)->Q (.ref tp) H'):sp_Je1 C vs H Q E_
inductive FT (y:YR) (L:Kn):Int×Int->List (Int×Int)->List Int->Prop
 | leaf (x:Int×Int):FT y L x [x] []
 | node {x:Int×Int}{p r:Int}{l1 l2:List (Int×Int)}{r1 r2:List Int} (m1:Mt y L x (p,0)) (m2:Mt y L (p,0) x) (k:Kp y p .lazy) (hr:au y.rods (Sum.inl p)=some (.int r)) (t1:FT y L (p,1) l1 r1) (t2:FT y L (p,2) l2 r2):FT y L x (l1++l2) (r::(r1++r2))
theorem FT.up {y y':YR}{L L':Kn}{x:Int×Int}{l:List (Int×Int)}{rs:List Int} (h:FT y L x l rs) (u:Up y y') (s:∀ v ∈ L,v ∈ L'):FT y' L' x l rs:=by
 induction h with
 | leaf x=>exact .leaf x
 | node m1 m2 k hr _ _ ih1 ih2=>exact .node (m1.up u s) (m2.up u s) (k.up u) (u.r _ _ hr) ih1 ih2
theorem FT.split {y:YR}{x a:Int×Int}{l:List (Int×Int)}{rs:List Int}{p r:Int} (h:FT y L x l rs) (m1:Mt y L a (p,0)) (m2:Mt y L (p,0) a) (k:Kp y p .lazy) (hr:au y.rods (Sum.inl p)=some (.int r)):∀ {l1 l2:List (Int×Int)},l=l1++a::l2->∃ rs',FT y L x (l1++(p,1)::(p,2)::l2) rs'/\rs'.Perm (r::rs):=by
 induction h with
 | leaf x=>
  intro l1 l2 e
  cases l1 with
  | nil=>
   injection e with e1 e2
   subst e1 e2
   exact⟨[r],FT.node (l1:=[(p,1)]) (l2:=[(p,2)]) (r1:=[]) (r2:=[]) m1 m2 k hr (.leaf _) (.leaf _),List.Perm.refl _⟩
  | cons b l1=>
   injection e with _ e2
   exact absurd e2.symm (by simp)
 | @node x q rq la lb ra rb n1 n2 nk nr ta tb iha ihb=>
  intro l1 l2 e
  rcases List.append_eq_append_iff.mp e with ⟨c,e1,e2⟩ | ⟨c,e1,e2⟩
  ·-- the leaf is on the second side
   obtain⟨rs',t',pm⟩:=ihb e2
   refine⟨_,by rw[e1,sr]; exact .node n1 n2 nk nr ta t',?_⟩
   exact(List.Perm.cons _ ((List.Perm.append_left _ pm).trans List.perm_middle)).trans (.swap _ _ _)
  ·cases c with
   | nil=>
    rw[List.nil_append] at e2
    rw[sR] at e1
    obtain⟨rs',t',pm⟩:=ihb (l1:=[]) e2.symm
    refine⟨_,by rw[<- e1]; exact .node n1 n2 nk nr ta t',?_⟩
    exact(List.Perm.cons _ ((List.Perm.append_left _ pm).trans List.perm_middle)).trans (.swap _ _ _)
   | cons b c=>
    rw[List.cons_append] at e2
    injection e2 with eb ec
    subst eb
    obtain⟨rs',t',pm⟩:=iha e1
    have e3:l1++(p,1)::(p,2)::l2=(l1++(p,1)::(p,2)::c)++lb:=by rw[ec]; simp only[sr,List.cons_append]
    refine⟨_,by rw[e3]; exact .node n1 n2 nk nr t' tb,?_⟩
    exact(List.Perm.cons _ (List.Perm.append_right _ pm)).trans (.swap _ _ _)
inductive sp_fan (C:Addr) (vs:List V) (H:Hp) (Q:VK) (E_:XK):Prop
 | mk (p:Addr) (y:YR) (L:Kn) (N M R m:Nat) (_:vs=[.ref p,.int m]) (_:YIn C H p y L) (_:Ld y N M R) (_:1<=m) (_:N+m<=8000) (_:M+2*m<=29000) (_:R<=1000) (_:∀ H' y' Nw tp b0 lv (zs:List Pr) M',zs.length=m->Ld y' (N+m) M' R->M'<=M+2*m->Up y y'->(∀ x,Fr y x->Fr y' x)->Fr y' ((N:Int),0)->((N:Int),0) ∉ zs.map (·.2)->(zs.map (·.2)).Nodup->(∀ x ∈ zs,Fr y' x.2/\(N:Int)<=x.2.1/\pK2 x ∈ Nw)->pK2 (b0,(N:Int),0) ∈ Nw->Kp y' N .line->(∃ l rs,FT y' (Nw++L) ((N:Int),1) l rs/\l.Perm (zs.map (·.2))/\rs.Nodup/\∀ r ∈ rs,(y.sides.length:Int)<=r/\r<y'.sides.length)->YIn C H' p y' ((tp,.tup [.ref b0,.ref lv])::(lv,.lst (prV zs))::(Nw++L))->Q (.ref tp) H'):sp_fan C vs H Q E_
theorem iB {y:YR}{N M R:Nat} (h:Ld y N M R) (k:Kd) (note:Int) (hk:k.point=true):au (bE y k note .non).rods (Sum.inl (N:Int))=some (.int y.sides.length)/\(bE y k note .non).sides.length=y.sides.length+1:=by
 constructor
 ·show au (if k.point=true then aG y.rods (Sum.inl y.next) (if V.non=.non then .int y.sides.length else .non) else y.rods) _=_
  rw[if_pos hk,if_pos rfl,aD,if_pos (by rw[h.nx])]
 ·show(if k.point=true/\V.non=.non then y.sides++[.int 1] else y.sides).length=_
  rw[if_pos ⟨hk,U⟩,sA,sK]
theorem cut1 (a:V) (r:List V):bV (a::r) (some 1) none=r:=by
 unfold bV HT.sIx
 simp
theorem iW {N:Int}{i j:Int} (h:i≠j):(N,i)≠(N,j):=fun c=>h (by injection c)
section
variable {P:Program}{w:World}{K:PySem.W.Frag}{mg:Str->Option Value}{base:Heap}{t:Adr}
theorem scDw:FnScope ["yard","point"] ["yard"] (aj n9):={}
theorem p0 (T:Txt K mg t):FnOk P w K mg base CX0 5 t.f_Je1 t.d_Je1 ["yard"] (sp_Je1 t.c_Yard):=by
 obtain⟨ds_l2,hd_Jb1_2,hb_Jb1_2⟩:=cc T
 refine T.F_Je1.ok scDw (fun vs H Q E h=>?_) (fun cdv A outer s H vs Q E hr h=>?_)
 ·obtain⟨_,_,_,_,_,_,rfl,_⟩:=h
  rfl
 ·obtain⟨p,y,L,N,M,R,rfl,Y,D,bN,bM,bR,q⟩:=h
  refine⟨_,(ae (aH (i:=1) scDw.nd rfl (Or.inl rfl) (ax (pv 0) T.cl_Yard T.M_Jb1 (ci T) hr hb_Jb1_2 hd_Jb1_2 az (aa aL ah)))
   (ai (aB (aF (@aa _ _ _ _ _ (aF (aa (pv 1) (aa am ah))) (@aa _ _ _ _ _ (aF (aa (pv 1) (aa am ah))) (@aa _ _ _ _ _ (aF (aa (pv 1) (aa am ah))) ah (by rfl)) (by rfl)) (by rfl)))))),?_⟩
  rw[show L2.start ["yard","point"] [V.ref p]=([some (V.ref p),none]:St) from rfl]
  obtain⟨A1,gy⟩:=Y.obj
  refine⟨_,U,p,A1.dx,_,U,gy,(cn _ _ _).1,?_⟩
  refine tc1 ?_
  refine cT Y D ⟨by omega,by omega,bR⟩ .still 0 .non (fun c=>nomatch c) (fun _ c=>absurd rfl c) (fun H2 Y2=>?_)
  dsimp only[List.set]
  refine⟨_,U,(show 2<=sizeLine by decide),fun b0 hb0=>?_⟩
  have Y3:=Y2.alloc hb0 (.tup [.int N,.int 0])
  refine⟨_,U,(show 2<=sizeLine by decide),fun b2 hb2=>?_⟩
  have Y4:=Y3.alloc hb2 (.tup [.int N,.int 2])
  refine⟨_,U,(show 2<=sizeLine by decide),fun b1 hb1=>?_⟩
  have Y5:=Y4.alloc hb1 (.tup [.int N,.int 1])
  refine⟨(show 3<=sizeLine by decide),fun tp htp=>?_⟩
  exact q _ tp b0 b2 b1 (Y5.alloc htp _)
theorem scFn:FnScope ["yard","many","line","leaves","point"] ["yard","many"] (aj nV):={}
theorem pU (T:Txt K mg t):FnOk P w K mg base CX0 5 t.f_fan t.d_fan ["yard","many"] (sp_fan t.c_Yard):=by
 obtain⟨ds_l2,hd_Jb1_2,hb_Jb1_2⟩:=cc T
 refine T.F_fan.ok scFn (fun vs H Q E h=>?_) (fun cdv A outer s H vs Q E hr h=>?_)
 ·obtain⟨_,_,_,_,_,_,_,rfl,_⟩:=h
  rfl
 ·obtain⟨p,y,L,N,M,R,m,rfl,Y,D,hm,bN,bM,bR,q⟩:=h
  refine⟨_,(ae (aI (ap bO (pv 1) am (ar _))
    (ai aS)
    av)
   (ae (aH (i:=2) scFn.nd rfl (Or.inl rfl) (ax (pv 0) T.cl_Yard T.M_Jb1 (ci T) hr hb_Jb1_2 hd_Jb1_2 az (aa aL ah)))
   (ae (aH (i:=3) scFn.nd rfl (Or.inl rfl) (aU (@aa _ _ _ _ _ (aF (aa (pv 2) (aa am ah))) ah (by rfl))))
   (ae (df PassesOwn.never (ap bO (aR aJ (by rfl) T.z_len (by rfl) (aa (pv 3) ah)) (pv 1) (ar _))
    (ae (aH (i:=4) scFn.nd rfl (Or.inl rfl) (ax (pv 0) T.cl_Yard T.M_Jb1 (ci T) hr hb_Jb1_2 hd_Jb1_2 az (aa aL ah)))
     (ae (ao (ax (pv 0) T.cl_Yard T.M_J21 (bS T) hr (cQ T) .nil az (@aa _ _ _ _ _ (aM aN (pv 3) am) (@aa _ _ _ _ _ (aF (aa (pv 4) (aa am ah))) ah (by rfl)) (by rfl))))
     (ai (aH (i:=3) scFn.nd rfl (Or.inl rfl) (aQ gY (cx d0 (pv 3) (dg am) dh) (aU (@aa _ _ _ _ _ (aF (aa (pv 4) (aa am ah))) (@aa _ _ _ _ _ (aF (aa (pv 4) (aa am ah))) ah (by rfl)) (by rfl)))))))))
   (ai (aB (aF (@aa _ _ _ _ _ (aF (aa (pv 2) (aa am ah))) (@aa _ _ _ _ _ (pv 3) ah (by rfl)) (by rfl))))))))),?_⟩
  rw[show L2.start ["yard","many","line","leaves","point"] [V.ref p,V.int m]=([some (V.ref p),some (V.int m),none,none,none]:St) from rfl]
  refine⟨_,U,_,_,U,U,_,U,ifF (decide_eq_false (by omega)) ?_⟩
  obtain⟨A1,gy⟩:=Y.obj
  refine⟨_,U,p,A1.dx,_,U,gy,(cn _ _ _).1,?_⟩
  refine tc1 ?_
  refine cT Y D ⟨by omega,by omega,bR⟩ .line 0 .non (fun c=>nomatch c) (fun _ c=>absurd rfl c) (fun H2 Y2=>?_)
  dsimp only[List.set]
  refine⟨_,U,(show 2<=sizeLine by decide),fun b1 hb1=>?_⟩
  have Y3:=Y2.alloc hb1 (.tup [.int N,.int 1])
  refine⟨(sz_ 1),fun lv hlv=>?_⟩
  have Y4:=Y3.alloc hlv (.lst (prV [(b1,(N:Int),1)]))
  dsimp only[List.set]
  have f0:Fr _ ((N:Int),0):=Fr.new D .line 0 .non (Int.le_refl _) (by decide)
  have f1:Fr _ ((N:Int),1):=Fr.new D .line 0 .non (by decide) (by decide)
  refine⟨fun k σ H'=>∃ (y':YR) (Nw:Kn) (lv:Addr) (zs:List Pr) (M':Nat) (o:Option V),k=m - zs.length/\σ=[some (.ref p),some (.int m),some (.int N),some (.ref lv),o]/\YIn t.c_Yard H' p y' ((lv,.lst (prV zs))::(Nw++L))/\1<=zs.length/\zs.length<=m /\
   Ld y' (N+zs.length) M' R/\M'<=M+2*zs.length/\Up y y'/\(∀ x,Fr y x->Fr y' x)/\Fr y' ((N:Int),0)/\((N:Int),0) ∉ zs.map (·.2)/\(zs.map (·.2)).Nodup/\(∀ x ∈ zs,Fr y' x.2/\(N:Int)<=x.2.1/\pK2 x ∈ Nw)/\Kp y' N .line/\(∃ l rs,FT y' (Nw++L) ((N:Int),1) l rs/\l.Perm (zs.map (·.2))/\rs.Nodup/\∀ r ∈ rs,(y.sides.length:Int)<=r/\r<y'.sides.length),
   ⟨_,_,[pK2 (b1,(N:Int),1)],lv,[(b1,(N:Int),1)],M,none,U,U,Y4,Nat.le_refl _,hm,D.lay .line 0 .non,by omega,D.up .line 0 .non,fun x h=>h.lay D .line 0 .non,f0,fun h=>iW (by decide) (sy.mp h),by simp,fun x hx=>by cases sy.mp hx; exact⟨f1,Int.le_refl _,sg⟩,Kp.lay D .line 0 .non,[((N:Int),1)],[],.leaf _,List.Perm.refl _,List.nodup_nil,fun r hr=>(nomatch hr)⟩,?_⟩
  rintro k σ H1 ⟨y1,Nw,lv,zs,M1,o,rfl,rfl,Y1,h1,h2,D1,bM1,up,old,f0,n0,nd,fz,kln,lT,rsT,ft,lpm,rnd,rbd⟩
  have gw:=Y1.at_ sg
  have lw:(prV zs).length=zs.length:=by unfold prV; rw[su]
  refine⟨_,U,lv,_,U,.inl (SqL.of gw),_,U,_,_,U,U,_,U,?_⟩
  rw[lw]
  refine ifd (fun hc=>?_) (fun hc=>?_)
  ·refine⟨_,fun σ' H' h=>h,?_⟩
   match zs,h1 with
   | a::r,_=>
   simp only[sG] at h2 D1 bM1 hc
   obtain⟨A1,gy⟩:=Y1.obj
   refine⟨_,U,p,A1.dx,_,U,gy,(cn _ _ _).1,?_⟩
   refine tc1 ?_
   refine cT Y1 D1 ⟨by omega,by omega,bR⟩ .lazy 0 .non (fun c=>nomatch c) (fun _ c=>absurd rfl c) (fun H2 Y2=>?_)
   obtain⟨n,en⟩:∃ n:Nat,N+(r.length+1)=n:=⟨_,U⟩
   rw[en] at D1 ⊢
   have no:∀ x e,Fr y1 x->x≠((n:Int),e):=fun x e h=>h.ne D1
   have D2:=D1.lay .lazy 0 .non
   obtain⟨fa,na,ma⟩:=fz a sg
   have fa2:=fa.lay D1 .lazy 0 .non
   have g0:Fr _ ((n:Int),0):=Fr.new D1 .lazy 0 .non (Int.le_refl _) (by decide)
   have g1:Fr _ ((n:Int),1):=Fr.new D1 .lazy 0 .non (by decide) (by decide)
   have g2:Fr _ ((n:Int),2):=Fr.new D1 .lazy 0 .non (by decide) (by decide)
   have old2:∀ x,Fr y1 x->Fr (bE y1 .lazy 0 .non) x:=fun x h=>h.lay D1 .lazy 0 .non
   have up2:=up.trans (D1.up .lazy 0 .non)
   have u2:=D1.up .lazy 0 .non
   have k2:Kp _ n .lazy:=Kp.lay D1 .lazy 0 .non
   obtain⟨r2,s2⟩:=iB D1 .lazy 0 rfl
   obtain⟨y2,ey2⟩:∃ y2,bE y1 .lazy 0 .non=y2:=⟨_,U⟩
   rw[ey2] at u2 k2 r2 s2 up2 Y2 D2 fa2 g0 g1 g2 old2
   dsimp only[List.set]
   obtain⟨A2,gy2⟩:=Y2.obj
   refine⟨_,U,p,A2.dx,_,U,gy2,(b7 _ _ _).2.2.1,_,U,lv,_,_,_,U,U,SqL.of (Y2.at_ sg),aC (j:=0) rfl,_,U,(show 2<=sizeLine by decide),fun c0 hc0=>?_⟩
   have Y3:=Y2.alloc hc0 (.tup [.int n,.int 0])
   refine tn0 ?_
   refine cm (b:=(c0,(n:Int),0)) Y3 D2 (by omega) (r9 _ (r9 _ (sk _ ma))) sg fa2 g0 (no _ _ fa) (fun H4 Y4=>?_)
   have D4:=D2.link (b:=(c0,(n:Int),0)) fa2 g0
   have g14:=g1.link (a:=a) (b:=(c0,(n:Int),0)) (fun c=>no _ 1 fa c.symm) (iW (by decide))
   have g24:=g2.link (a:=a) (b:=(c0,(n:Int),0)) (fun c=>no _ 2 fa c.symm) (iW (by decide))
   have old4:∀ x,Fr y1 x->x≠a.2->Fr (bY y2 a (c0,(n:Int),0)) x:=fun x h1 h2=>(old2 x h1).link h2 (no x 0 h1)
   have up4:=up2.trans (Up.link (b:=(c0,(n:Int),0)) fa2 g0)
   have l4:=Up.link (a:=a) (b:=(c0,(n:Int),0)) fa2 g0
   have u4:=u2.trans l4
   have s4:(bY y2 a (c0,(n:Int),0)).sides.length=y1.sides.length+1:=s2
   have mA:∀ L',pK2 (c0,(n:Int),0) ∈ L'->Mt (bY y2 a (c0,(n:Int),0)) L' a.2 ((n:Int),0):=fun L' h=>Mt.l1 (b:=(c0,(n:Int),0)) h (no _ _ fa)
   have mB:∀ L',pK2 a ∈ L'->Mt (bY y2 a (c0,(n:Int),0)) L' ((n:Int),0) a.2:=fun L' h=>Mt.l2 (b:=(c0,(n:Int),0)) h
   obtain⟨y4,ey4⟩:∃ y4,bY y2 a (c0,(n:Int),0)=y4:=⟨_,U⟩
   rw[ey4] at l4 u4 s4 mA mB up4 Y4 D4 g14 g24 old4
   refine⟨_,U,_,U,lv,_,U,SqL.of (Y4.at_ (r9 _ sg)),fun d1 hd1=>?_⟩
   have e2:bV (prV (a::r)) (some 1) none=prV r:=cut1 _ _
   rw[e2]
   have Y5:=Y4.alloc hd1 (.lst (prV r))
   refine⟨_,U,(show 2<=sizeLine by decide),fun c1 hc1=>?_⟩
   have Y6:=Y5.alloc hc1 (.tup [.int n,.int 1])
   refine⟨_,U,(show 2<=sizeLine by decide),fun c2 hc2=>?_⟩
   have Y7:=Y6.alloc hc2 (.tup [.int n,.int 2])
   refine⟨(sz_ 2),fun d2 hd2=>?_⟩
   have Y8:=Y7.alloc hd2 (.lst [.ref c1,.ref c2])
   refine⟨d1,d2,_,_,U,U,SqL.of (Y8.at_ (r9 _ (r9 _ (r9 _ sg)))),SqL.of (Y8.at_ sg),sz (show _<=1000000 by unfold prV; rw[su,sG,sK]; omega),fun w2 hw2=>?_⟩
   have Y9:=Y8.alloc hw2 (.lst (prV r++[.ref c1,.ref c2]))
   have er:prV r++[.ref c1,.ref c2]=prV (r++[(c1,(n:Int),1),(c2,(n:Int),2)]):=by unfold prV; rw[sw]; rfl
   have em:(r++[(c1,(n:Int),1),(c2,(n:Int),2)]).map (fun x:Pr=>x.2)=r.map (·.2)++[((n:Int),1),((n:Int),2)]:=by rw[sw]; rfl
   have nr:∀ e:Int,((n:Int),e) ∉ r.map (·.2):=fun e h=>by
    obtain⟨x,hx,e'⟩:=sQ.mp h
    exact no x.2 e (fz x (r9 _ hx)).1 e'
   have nd':=List.nodup_cons.mp nd
   rw[er] at Y9 ⊢
   refine⟨m - (r++[(c1,(n:Int),1),(c2,(n:Int),2)]).length,by simp; omega,y4,(d2,.lst [.ref c1,.ref c2])::(c2,.tup [.int n,.int 2])::(c1,.tup [.int n,.int 1])::(d1,.lst (prV r))::(c0,.tup [.int n,.int 0])::(lv,.lst (prV (a::r)))::Nw,w2,r++[(c1,(n:Int),1),(c2,(n:Int),2)],M1+2,_,U,U,Y9,by simp,by simp; omega,?_,by simp; omega,up4,fun x hx=>?_,?_,?_,?_,?_,kln.up u4,?_⟩
   ·have:N+(r++[(c1,(n:Int),1),(c2,(n:Int),2)]).length=n+1:=by simp; omega
    rw[this]
    exact D4
   ·exact old4 x (old x hx) (fun c=>by have:=D.lt hx.1; rw[c] at this; omega)
   ·exact old4 _ f0 (fun c=>n0 (by rw[c]; exact sg))
   ·rw[em]
    intro h
    rcases sC.mp h with h | h
    ·exact n0 (r9 _ h)
    ·rcases sD.mp h with h | h
     ·exact no _ _ f0 h
     ·exact no _ _ f0 (sy.mp h)
   ·rw[em]
    refine List.nodup_append.mpr ⟨nd'.2,by simp,fun x hx z hz e=>?_⟩
    rw[e] at hx
    rcases sD.mp hz with h | h
    ·exact nr 1 (by rw[<- h]; exact hx)
    ·exact nr 2 (by rw[<- sy.mp h]; exact hx)
   ·intro x hx
    rcases sC.mp hx with hx | hx
    ·obtain⟨x1,x2,x3⟩:=fz x (r9 _ hx)
     exact⟨old4 _ x1 (fun c=>nd'.1 (by show a.2 ∈ _; rw[<- c]; exact sF (f:=fun x:Pr=>x.2) hx)),x2,r9 _ (r9 _ (r9 _ (r9 _ (r9 _ (r9 _ x3)))))⟩
    ·rcases sD.mp hx with h | h
     ·rw[h]; exact⟨g14,by show(N:Int)<=n; omega,r9 _ (r9 _ sg)⟩
     ·rw[sy.mp h]; exact⟨g24,by show(N:Int)<=n; omega,r9 _ sg⟩
   ·obtain⟨Lf,eLf⟩:∃ Lf:Kn,((d2,HO.lst [.ref c1,.ref c2])::(c2,.tup [.int n,.int 2])::(c1,.tup [.int n,.int 1])::(d1,.lst (prV r))::(c0,.tup [.int n,.int 0])::(lv,.lst (prV (a::r)))::Nw)++L=Lf:=⟨_,U⟩
    have sL:∀ v ∈ Nw++L,v ∈ Lf:=fun v hv=>by rw[<- eLf]; simp only[List.cons_append]; exact r9 _ (r9 _ (r9 _ (r9 _ (r9 _ (r9 _ hv)))))
    have mc0:pK2 (c0,(n:Int),0) ∈ Lf:=by rw[<- eLf]; exact sk _ (by simp)
    rw[eLf]
    have hal:a.2 ∈ lT:=lpm.mem_iff.mpr sg
    obtain⟨la,lb,elT⟩:=List.append_of_mem hal
    obtain⟨rs',ft',pm'⟩:=(ft.up u4 sL).split (mA Lf mc0) (mB Lf (sL _ (sk _ ma))) (k2.up l4) (l4.r _ _ r2) elT
    refine⟨_,rs',ft',?_,pm'.nodup_iff.mpr (List.nodup_cons.mpr ⟨fun c=>by have:=rbd _ c; omega,rnd⟩),fun q hq=>?_⟩
    ·rw[em]
     rw[elT] at lpm
     have h1:(la++lb).Perm (r.map (·.2)):=(List.perm_middle.symm.trans lpm).cons_inv
     exact(List.perm_middle.trans (.cons _ List.perm_middle)).trans ((List.Perm.cons _ (.cons _ h1)).trans (List.perm_append_comm (l₁:=[((n:Int),(1:Int)),((n:Int),(2:Int))])))
    ·rw[s4]
     have ul:=up.sl
     rcases sD.mp (pm'.mem_iff.mp hq) with rfl | hq
     ·omega
     ·have:=rbd q hq; omega
  ·have e:zs.length=m:=by omega
   rw[e] at D1 bM1
   refine⟨_,U,(show 2<=sizeLine by decide),fun b0 hb0=>?_⟩
   have Y2:=Y1.alloc hb0 (.tup [.int N,.int 0])
   refine⟨_,U,(show 2<=sizeLine by decide),fun tp htp=>?_⟩
   have Y3:=Y2.alloc htp (.tup [.ref b0,.ref lv])
   exact q _ y1 (pK2 (b0,(N:Int),0)::Nw) tp b0 lv zs M1 e D1 bM1 up old f0 n0 nd (fun x hx=>⟨(fz x hx).1,(fz x hx).2.1,r9 _ (fz x hx).2.2⟩) sg kln ⟨lT,rsT,ft.up (Up.refl _) (fun v hv=>r9 _ hv),lpm,rnd,rbd⟩ (Y3.perm (.cons _ (.swap _ _ _)))
end
end P
namespace L2
open PySem PySem.Spec PyProof.Rows
section
variable {prog:Program}{w:World}{K:Type} [DecidableEq K] {knd:HeapKind prog w K}{A:Around}{E:Value->Shared->Prop}{s:Shared}{d a:Addr}{k:K}{xs:List (K×Addr×Value)}{v:Value}
theorem dX {Q:Value->Shared->Prop} (hu:knd.room A) (hkey:knd.is s.heap k a) (hm:s.heap.DictOfH knd d xs) (hsz:xs.length<=sizeLine)
  (h1:∀ p,atKey xs k=some p->Q p.2 { s with toks:=s.toks+knd.draws k })
  (h2:atKey xs k=none->∀ h',h'.DictOfH knd d (storedH xs k a v)->Heap.SameBut d s.heap h'->Q v { s with heap:=h',toks:=s.toks+knd.draws k }) :
  wpAny (model prog w) A (dictSetDefault d (.ref a) v) Q E s:=by
 obtain⟨o,es,ep,ho,hc,hd,he,his,hn⟩:=hm
 unfold dictSetDefault
 try with_reducible refine wpAny_holding ?_
 refine wpAny_bind (knd.pyHash hu hkey ?_)
 refine wpAny_bind (wpAny_dictFind_heap (s:={ s with toks:=s.toks+knd.draws k }) hu hkey ho hd he his hn ?_ ?_)
 ·intro hno
  have hnot:k ∉ xs.map (·.1):=not_mem_keys_of_get hno
  refine wpAny_bind (wpAny_rule (wpAny_bind (wpAny_updateDictKeys (hz:=by have e:=size_of_entries he; omega) (s:={ s with toks:=s.toks+knd.draws k }) ho hd (wpAny_pure (h2 (atKey_none_of_get hno) _ ⟨_,_,ep+1,Heap.get?_update_self _ ho (Obj.isFreed_of_dict (Obj.data_mapDictKeys hd _)),
   hc.mapDictKeys _,Obj.data_mapDictKeys hd _,?_,?_,?_⟩ (Heap.SameBut.update ..))))))
  ·rw[storedH_new (atKey_none_of_get hno)]
   simp[he,entryOfKey]
  ·rw[storedH_new (atKey_none_of_get hno)]
   intro x hx
   rcases sC.mp hx with hx | hx
   ·exact knd.keeps (his x hx) ho hd (Heap.SameBut.update ..)
   ·simp only[sy] at hx
    subst hx
    exact knd.keeps hkey ho hd (Heap.SameBut.update ..)
  ·rw[storedH_new (atKey_none_of_get hno)]
   rw[sw,List.nodup_append]
   refine⟨hn,by simp,?_⟩
   intro x hx y hy
   simp only[sH,List.map_nil,sy] at hy
   subst hy
   exact fun e=>hnot (e ▸ hx)
 ·intro j p hj
  refine wpAny_bind (wpAny_dictEntries (s:={ s with toks:=s.toks+knd.draws k }) ho hd ?_)
  rw[entry_at he j,hj]
  exact wpAny_bind (wpAny_rule (wpAny_pure (h1 _ (atKey_of_get hn hj))))
theorem dj (hd:(d == sysModules)=false) :
  MeetsIn prog w (Builtin.«dict.setdefault» ⟨[.ref d,.ref a,v],[]⟩) (fun A R s=>knd.room A.in1/\∃ k xs,knd.is s.heap k a/\s.heap.DictOfH knd d xs/\xs.length<=sizeLine /\
   (∀ p,atKey xs k=some p->R (.ok (.ret p.2)) { s with toks:=s.toks+knd.draws k }) /\
   (atKey xs k=none->∀ h',h'.DictOfH knd d (storedH xs k a v)->Heap.SameBut d s.heap h'->R (.ok (.ret v)) { s with heap:=h',toks:=s.toks+knd.draws k })) :=
 .of_wp fun A R s ⟨hu,k,xs,hkey,hm,hsz,h1,h2⟩=>by
  unfold Builtin.«dict.setdefault»
  refine wpAny_bind ?_
  unfold Builtin.Dict.keyAndDefault
  refine wpAny_bind (wpAny_notOrdered_dict hm.typeIs ?_)
  show wpAny _ _ (pure (d,Value.ref a,some v)) _ _ s
  refine wpAny_pure ?_
  show wpAny _ _ (if (d == sysModules)=true then _ else(dictSetDefault d (.ref a) v >>= _)) _ _ s
  rw[if_neg (by rw[hd]; exact Bool.false_ne_true)]
  exact wpAny_bind (dX hu hkey hm hsz (fun p hp=>wpAny_pure ⟨p.2,U,h1 p hp⟩) fun hn h' hm' hs'=>wpAny_pure ⟨v,U,h2 hn h' hm' hs'⟩)
end
section
variable {X:Cx}{pins:List (Addr×Obj)}{σ:St}{H:Hp}{s:Shared}{a b:Addr}{kvs:List (List Key×V)}{k:List Key}{r:Value}{z:V}{A:Around}{E:Value->Shared->Prop}
theorem kc {Q:Value->Shared->Prop} (hu:A.units+1<cLine) (I:Inv X pins σ H s) (e:H a=some (.dT kvs)) (eb:H b=some (.tup (k.map kV))) (rz:RelV z r) (hl:kvs.length<sizeLine)
  (h1:∀ v,au kvs k=some v->∀ w' s',Inv X pins σ H s'->RelV v w'->Q w' s')
  (h2:au kvs k=none->∀ s',Inv X pins σ (upd H a (.dT (aG kvs k z))) s'->Q r s'):wpAny (model X.prog X.w) A (call (.builtin "dict.setdefault") [.ref a,.ref b,r]) Q E s:=by
 obtain⟨zz,hd,xs,rel,dd⟩:=oU I.hok e
 have hz:xs.length<=sizeLine:=by rw[<- Paired.length rel]; exact zz
 have hv:=rel.val k
 refine call_meetsIn PySem.F.slot_dict_setdefault dd.typeIs PySem.F.entry_dict_setdefault (PySem.F.args_dict_setdefault_3 _ _ _) (dj hd) ⟨tupleKind_room_in1 hu,k,xs,cU I.hok eb,dd,hz,fun p hp=>?_,fun hn h' dd' hs=>?_⟩
 ·rw[hp] at hv
  cases e2:au kvs k with
  | none=>rw[e2] at hv; exact(show False from hv).elim
  | some x=>rw[e2] at hv; exact h1 x e2 p.2 _ (I.tok _) hv
 ·rw[hn] at hv
  cases e2:au kvs k with
  | some x=>rw[e2] at hv; exact(show False from hv).elim
  | none=>
   have hl2:(aG kvs k z).length<=sizeLine:=by have:=bf kvs k z; omega
   obtain⟨q,es,ep,hq,g2,g3,g4,_,g5⟩:=dd'
   refine h2 e2 _ (hG I (by rw[e]; exact True.intro) hs ⟨q,hq⟩ ⟨hl2,hd,_,(rel.put k eb rz).keeps fun c ys ec=>?_,q,es,ep,hq,g2,g3,g4,g5⟩)
   rw[aA (lB ec e (fun z=>nomatch z))]
   exact ec
end
noncomputable def ph (td ty tx:TE):TE:=fun σ H Q=>td σ H fun x H1=>∃ a,x=.ref a/\IsD H1 a/\ty σ H1 fun y H2=>tx σ H2 fun z H3=>∃ b kvs k,y=.ref b/\H3 a=some (.dT kvs)/\H3 b=some (.tup (k.map kV))/\kvs.length<sizeLine /\
 (∀ v,au kvs k=some v->Q v H3)/\(au kvs k=none->Q z (upd H3 a (.dT (aG kvs k z))))
theorem k7 {X:Cx}{o e f:Expr}{apos cpos:Pos}{td ty tx:TE} (hu:X.A.units+1<cLine) (ho:PE X o td) (he:PE X e ty) (hf:PE X f tx) (m:M2 X o "setdefault" apos e f cpos):PE X (.Call (.Attribute o "setdefault" apos) [e,f] [] cpos) (ph td ty tx):=by
 intro pins s σ H Q I h
 refine wpAny_Call_method m.base m.few m.line PySem.F.plainAttrs_dict PySem.F.slot_dict_setdefault PySem.F.type_dict_setdefault (thn (ho pins s σ H _ I h) fun u s1 ⟨x,H1,I1,rx,a,ex,d,q1⟩=>?_)
 subst ex
 obtain rfl:u=Value.ref a:=rx
 obtain⟨t1,t2,_⟩:=i5 I1 d
 refine⟨t1,t2,?_⟩
 rw[m.trees]
 refine Calls.callWith_builtin rfl (Calls.evalArgs_plain (Calls.spliced_cons (thn (he pins s1 σ H1 _ I1 q1) fun iv s2 ⟨y,H2,I2,ry,q2⟩=>
  Calls.spliced_cons (thn (hf pins s2 σ H2 _ I2 q2) fun fv s3 ⟨z,H3,I3,rz,b,kvs,k,ey,e3,eb,hl,qa,qb⟩=>Calls.spliced_nil ?_))))
 subst ey
 obtain rfl:iv=Value.ref b:=ry
 exact kc hu I3 e3 eb rz hl (fun v hv w' s4 I4 rw'=>⟨_,H3,I4,rw',qa v hv⟩) (fun hn s4 I4=>⟨_,_,I4,rz,qb hn⟩)
end L2
namespace L2.It
open PySem
noncomputable def En (h:Heap) (d:Addr) (es:Array DictEntry) (ep:Nat):Prop:=∃ o,h.get? d=some o/\o.ExactDict/\o.data=.dict es ep
section
variable {prog:Program}{w:World}{A:Around}{E:Value->Shared->Prop}{s:Shared}{d it v:Addr}{es:Array DictEntry}{ep i:Nat}{x1 x2:Value}
theorem En.ty (h:En s.heap d es ep):s.TypeIs (.ref d) "dict":=let ⟨o,e,c,_⟩:=h; ⟨o,e,c.1⟩
theorem En.to {h h':Heap} (x:En h d es ep) (k:∀ o,h.get? d=some o->h'.get? d=some o):En h' d es ep:=let ⟨o,e,r⟩:=x; ⟨o,k o e,r⟩
theorem view (lo:(d == sysModules)=false):MeetsIn prog w (Builtin.«dict.items» ⟨[.ref d],[]⟩) (fun _ R s=>(∃ es ep,En s.heap d es ep) /\
   R (.ok (.ret (.ref s.heap.objs.size))) { s with heap:=s.heap.push { cls:=.type "dict_items",data:=.fields #[.ref d] } }) :=
 .of_wp fun A R s ⟨⟨es,ep,g⟩,h⟩=>by
  unfold Builtin.«dict.items» Builtin.Dict.noArgs
  refine wpAny_bind (wpAny_bind (wpAny_notOrdered_dict g.ty (show wpAny _ _ (pure d) _ _ s from wpAny_pure (show wpAny _ _ (Builtin.Dict.showsAll d >>= _) _ _ s from ?_))))
  unfold Builtin.Dict.showsAll
  rw[lo,if_neg Bool.false_ne_true]
  exact wpAny_bind (wpAny_pure (wpAny_bind (wpAny_newObj_type (wpAny_pure ⟨_,rfl,h⟩))))
theorem iter {Q:Value->Shared->Prop} (hv:s.heap.IsItemsView v d) (g:En s.heap d es ep)
  (q:Q (.ref s.heap.objs.size) { s with heap:=s.heap.push { cls:=.type "dict_itemiterator",data:=.fields #[.none,.bool false,.ref d,.int 0 0,.int es.size 0,.int ep 0,.none,.none] } }):wpAny (model prog w) A (pyIter (.ref v)) Q E s:=by
 have ty:=hv.typeIs
 obtain⟨ov,a1,_,a3⟩:=hv
 obtain⟨o,b1,_,b3⟩:=g
 refine wpAny_pyIter_slot ty F.slot_dict_items_iter (wpAny_call_entry F.slot_dict_items_iter ty F.entry_dict_items_iter ?body (F.args_dict_items_iter_1 _))
 case body=>
  unfold Builtin.«dict_items.__iter__» Builtin.Dict_items.dictOf Builtin.Dict_items.newIterator
  refine wpAny_bind (wpAny_pure (wpAny_bind (wpAny_bind (wpAny_field a1 a3 (x:=.ref d) rfl (wpAny_pure (wpAny_bind (wpAny_bind (wpAny_dictEntries b1 b3 (wpAny_bind (wpAny_dictEpoch b1 b3 ?_))))))))))
  simp only[show Builtin.Dict_items.ownsTuple "dict_itemiterator" = true from by decide,if_true]
  refine wpAny_newObj_type (wpAny_pure ⟨_,rfl,"dict_itemiterator",_,⟨_,Heap.get?_push_size _ rfl,rfl⟩,F.slot_dict_itemiterator_next.lookup,?_⟩) (by simp[PySem.sizeOk,Builtin.Dict_items.ownedTupleFields,sizeLine_eq])
  simpa [rawInt,Builtin.Dict_items.ownedTupleFields] using q
theorem item {Q:Option Value->Shared->Prop} (hit:IsItemIter s.heap it d i es.size ep x1 x2) (g:En s.heap d es ep) (hi:i<es.size)
  (q:∀ h',IsItemIterOut h' it d (i+1) es.size ep es[i].key es[i].val s.heap.objs.size->h'.get? s.heap.objs.size=some { cls:=.type "tuple",data:=.seq #[es[i].key,es[i].val] } ->
   (∀ b o,b≠it->s.heap.get? b=some o->h'.get? b=some o)->Q (some (.ref s.heap.objs.size)) { s with heap:=h' }):wpAny (model prog w) A (pyNext (.ref it)) Q E s:=by
 have ty:s.TypeIs (.ref it) "dict_itemiterator":=⟨_,hit,rfl⟩
 have ow:Builtin.Dict_items.ownsTuple "dict_itemiterator" = true:=by decide
 have lt:it<s.heap.objs.size:=Heap.lt_size hit
 obtain⟨o,b1,_,b3⟩:=g
 unfold pyNext
 refine wpAny_bind (wpAny_attempt (wpAny_callSpecial?_slot (name:=Str.ofString "__next__") ty F.slot_dict_itemiterator_next (wpAny_call_entry F.slot_dict_itemiterator_next ty F.entry_dict_itemiterator_next ?body (F.args_dict_itemiterator_next_1 _))))
 case body=>
  refine wpAny_bind (wpAny_pure (wpAny_bind (wpAny_bind (wpAny_bind (wpAny_typeNameOfWhole_itemiter ty (wpAny_pure (wpAny_bind (wpAny_fieldsOf hit rfl ?_))))))))
  simp only[ow,if_true]
  refine(show wpAny _ _ (if (Value.ref d == Value.none)=true then _ else _) _ _ s from ?_)
  rw[if_neg (show ¬ ((Value.ref d == Value.none)=true) from nofun)]
  refine wpAny_bind (wpAny_pure (wpAny_bind (wpAny_dictEntries b1 b3 ?_)))
  rw[if_neg (by simp)]
  refine wpAny_bind (wpAny_pure (wpAny_bind (wpAny_dictEpoch b1 b3 ?_)))
  rw[if_neg (by simp)]
  refine wpAny_pure ?_
  simp only[show ¬ ((i:Int)<0) from by omega,if_false,Int.toNat_natCast,Array.getElem?_eq_getElem hi]
  refine wpAny_bind (wpAny_bind (wpAny_typeNameOfWhole_itemiter ty (wpAny_pure (wpAny_bind (wpAny_isOneOf_itemiter ty ?_)))))
  refine(show wpAny _ _ (setField (.ref it) 3 (rawInt ((i:Int)+1)) >>= _) _ _ s from wpAny_bind (wpAny_setField_rec hit (by simp) fun h1 e1 s1=>?_))
  have e1':IsItemIter h1 it d (i+1) es.size ep x1 x2:=by
   unfold IsItemIter
   rw[show((i+1:Nat):Int)=(i:Int)+1 from by omega]
   simpa [rawInt] using e1
  have t1:Shared.TypeIs { s with heap:=h1 } (.ref it) "dict_itemiterator":=⟨_,e1',rfl⟩
  refine wpAny_bind (wpAny_holding (wpAny_bind (wpAny_isOneOf_itemiter t1 (wpAny_bind (wpAny_isOneOf_itemiter t1 ?_)))))
  refine(show wpAny _ _ (Builtin.Dict_items.pairFromOwner (.ref it) 6 es[i].key es[i].val) _ _ { s with heap:=h1 } from ?_)
  unfold Builtin.Dict_items.pairFromOwner
  refine wpAny_bind (wpAny_newTuple ?_)
  obtain⟨h2,eh2⟩:∃ h2,h1.push { cls:=.type "tuple",data:=.seq #[es[i].key,es[i].val] }=h2:=⟨_,rfl⟩
  have sz1:h1.objs.size=s.heap.objs.size:=s1.1
  have e2:IsItemIter h2 it d (i+1) es.size ep x1 x2:=by rw[<- eh2]; exact Heap.get?_push_of_some _ e1'
  have tp2:h2.get? s.heap.objs.size=some { cls:=.type "tuple",data:=.seq #[es[i].key,es[i].val] }:=by rw[<- eh2,<- sz1]; exact Heap.get?_push_size _ rfl
  have k2:∀ b o,b≠it->s.heap.get? b=some o->h2.get? b=some o:=fun b o hb e=>by rw[<- eh2]; exact Heap.get?_push_of_some _ (s1.extBut b o hb e)
  rw[eh2,sz1]
  refine(show wpAny _ _ (Builtin.Dict_items.ownedTupleIsFree (.ref it) >>= _) _ _ { s with heap:=h2 } from ?_)
  unfold Builtin.Dict_items.ownedTupleIsFree
  refine wpAny_bind (wpAny_bind (wpAny_field e2 rfl (x:=.none) rfl (wpAny_pure ?_)))
  simp only[if_true]
  refine wpAny_bind (wpAny_field e2 rfl (x:=x1) rfl (wpAny_bind (wpAny_field e2 rfl (x:=x2) rfl (wpAny_bind (wpAny_setField_rec e2 (by simp) fun h3 e3 s3=>?_)))))
  have e3':IsItemIter h3 it d (i+1) es.size ep es[i].key x2:=e3
  refine wpAny_bind (wpAny_setField_rec e3' (by simp) fun h4 e4 s4=>?_)
  have e4':IsItemIter h4 it d (i+1) es.size ep es[i].key es[i].val:=e4
  refine wpAny_bind (wpAny_setField_rec e4' (by simp) fun h5 e5 s5=>?_)
  have e5':IsItemIterOut h5 it d (i+1) es.size ep es[i].key es[i].val s.heap.objs.size:=e5
  refine wpAny_bind (wpAny_setField_rec e5' (by simp) fun h6 e6 s6=>?_)
  have up:∀ b o,b≠it->h2.get? b=some o->h6.get? b=some o:=fun b o hb e=>s6.extBut b o hb (s5.extBut b o hb (s4.extBut b o hb (s3.extBut b o hb e)))
  exact wpAny_bind (wpAny_letGo (wpAny_pure (wpAny_pure ⟨_,rfl,wpAny_pure (q h6 e6 (up _ _ (Nat.ne_of_gt lt) tp2) fun b o hb e=>up b o hb (k2 b o hb e))⟩)))
theorem done {Q:Option Value->Shared->Prop} (hh:A.handled=none) (hit:IsItemIter s.heap it d i es.size ep x1 x2) (g:En s.heap d es ep) (hi:es.size<=i) (q:∀ h',Heap.ExtBut it s.heap h'->Q none { s with heap:=h' }):wpAny (model prog w) A (pyNext (.ref it)) Q E s:=by
 have ty:s.TypeIs (.ref it) "dict_itemiterator":=⟨_,hit,rfl⟩
 have ow:Builtin.Dict_items.ownsTuple "dict_itemiterator" = true:=by decide
 obtain⟨o,b1,_,b3⟩:=g
 unfold pyNext
 refine wpAny_bind (wpAny_attempt (wpAny_callSpecial?_slot (name:=Str.ofString "__next__") ty F.slot_dict_itemiterator_next (wpAny_call_entry F.slot_dict_itemiterator_next ty F.entry_dict_itemiterator_next ?body (F.args_dict_itemiterator_next_1 _))))
 case body=>
  refine wpAny_bind (wpAny_pure (wpAny_bind (wpAny_bind (wpAny_bind (wpAny_typeNameOfWhole_itemiter ty (wpAny_pure (wpAny_bind (wpAny_fieldsOf hit rfl ?_))))))))
  simp only[ow,if_true]
  refine(show wpAny _ _ (if (Value.ref d == Value.none)=true then _ else _) _ _ s from ?_)
  rw[if_neg (show ¬ ((Value.ref d == Value.none)=true) from nofun)]
  refine wpAny_bind (wpAny_pure (wpAny_bind (wpAny_dictEntries b1 b3 ?_)))
  rw[if_neg (by simp)]
  refine wpAny_bind (wpAny_pure (wpAny_bind (wpAny_dictEpoch b1 b3 ?_)))
  rw[if_neg (by simp)]
  refine wpAny_pure ?_
  simp only[show ¬ ((i:Int)<0) from by omega,if_false,Int.toNat_natCast,Array.getElem?_eq_none hi]
  refine wpAny_bind (wpAny_bind (wpAny_typeNameOfWhole_itemiter ty (wpAny_pure ?_)))
  refine(show wpAny _ _ (setField (.ref it) 2 .none >>= _) _ _ s from wpAny_bind (wpAny_setField hit rfl (by simp) (show wpAny _ _ (newExc (.type "StopIteration") [] >>= _) _ _ _ from wpAny_bind ?_)))
  simp only[newExc,newTuple]
  refine wpAny_bind (wpAny_newObj_type (wpAny_bind (m:=firstArgMember _ _) (wpAny_of_eq (a:=Value.none) rfl (wpAny_newObj_type ?_ (by size_fits)))) (by size_fits))
  simp only[raiseNew]
  refine wpAny_bind (wpAny_handled ?_)
  rw[show A.in1.handled=none from hh]
  refine wpAny_bind (wpAny_pure (wpAny_throw ?_))
  refine wpAny_bind (wpAny_isInstance (T := "StopIteration") (b:=true) (by exact⟨_,Heap.get?_push_size _ rfl,rfl⟩) isSubtype_stop (wpAny_pure (q _ (((Heap.SameBut.update ..).extBut.push _).push _))))
end
end L2.It
namespace L2
open PySem PySem.Spec PyProof.Rows
variable{kvs:List (List Key×V)}
theorem lP {P:Program}{w:World}{H:Hp}{h:Heap}{d:Addr}{o:Obj}{es:Array DictEntry}{ep:Nat} (ok:HOk P w H h) (e:H d=some (.frz o (.dT kvs))) (hep:o.data=.dict es ep) :
  h.get? d=some o/\It.En h d es ep/\es.size=kvs.length/\∀ i kv,kvs[i]?=some kv->∃ hi:i<es.size,∃ a,es[i].key=.ref a/\H a=some (.tup (kv.1.map kV))/\RelV kv.2 es[i].val:=by
 obtain⟨e1,z,lo,zs,pr,o',es',ep',g1,g2,g3,g4,g5⟩:=(show h.get? d=some o/\ObjOk P w H h d (.dT kvs) from ok d _ e)
 rw[e1] at g1
 cases g1
 rw[hep] at g3
 cases g3
 have pg:∀ {l:List (List Key×V)}{m:List (List Key×Addr×Value)},Paired (fun(p:List Key×V) (q:List Key×Addr×Value)=>p.1=q.1/\H q.2.1=some (.tup (p.1.map kV))/\RelV p.2 q.2.2) l m->∀ (i:Nat) x,l[i]?=some x->∃ y,m[i]?=some y/\H y.2.1=some (.tup (x.1.map kV))/\RelV x.2 y.2.2:=by
  intro l m r
  induction r with
  | nil=>intro i x hx; simp at hx
  | cons hr _ ih=>
   intro i x hx
   cases i with
   | zero=>cases hx; exact⟨_,U,hr.2⟩
   | succ i=>exact ih i x hx
 refine⟨e1,⟨o,e1,g2,hep⟩,by rw[<- Array.length_toList,g4,su,<- pr.length],fun i kv hk=>?_⟩
 obtain⟨y,hy,hy1,hy2⟩:=pg pr i kv hk
 have e5:es.toList[i]?=some (entryOfKey (tupleKind (bc P w)) y):=by rw[g4,sx,hy]; rfl
 rw[Array.getElem?_toList] at e5
 obtain⟨hi,e6⟩:=Array.getElem?_eq_some_iff.mp e5
 exact⟨hi,y.2.1,by rw[e6]; rfl,hy1,by rw[e6]; exact hy2⟩
theorem Inv.freezeT {X:Cx}{pins:List (Addr×Obj)}{σ:St}{H:Hp}{s:Shared}{d:Addr} (I:Inv X pins σ H s) (e:H d=some (.dT kvs)):∃ o es ep,s.heap.get? d=some o/\o.data=.dict es ep/\(d == sysModules)=false/\Inv X pins σ (upd H d (.frz o (.dT kvs))) s:=by
 obtain⟨z,lo,zs,pr,o,es,ep,g1,g2,g3,g4,g5⟩:=(show ObjOk X.prog X.w H s.heap d (.dT kvs) from I.hok d _ e)
 refine⟨o,es,ep,g1,g3,lo,I.write (x:=d) (e:=d) (t':=s.toks) (h':=s.heap) (by rw[e]; exact True.intro) (.inl rfl) (fun _ _ _ q=>q) ⟨o,g1⟩ ⟨g1,z,lo,zs,Paired.mapP pr fun p q r=>⟨r.1,?_,r.2.2⟩,o,es,ep,g1,g2,g3,g4,g5⟩⟩
 rw[aA (lB r.2.1 e (fun z=>nomatch z))]
 exact r.2.1
noncomputable def pc (t:TS):TS:=fun D σ H=>∃ (d:Addr) (kvs:List (List Key×V)),H d=some (.dT kvs) /\
 t { nx:=fun σ' H'=>∃ o,H' d=some (.frz o (.dT kvs))/\D.nx σ' (upd H' d (.dT kvs)),rt:=fun v H'=>∃ o,H' d=some (.frz o (.dT kvs))/\D.rt v (upd H' d (.dT kvs)),bk:=fun σ' H'=>∃ o,H' d=some (.frz o (.dT kvs))/\D.bk σ' (upd H' d (.dT kvs)),ct:=fun σ' H'=>∃ o,H' d=some (.frz o (.dT kvs))/\D.ct σ' (upd H' d (.dT kvs)) } σ H
theorem kT {X:Cx}{st:Stmt}{t:TS} (h:PS X st t):PS X st (pc t):=by
 intro pins s σ H D I q
 obtain⟨d,kvs,e,q⟩:=q
 have hn:=I.unfrz e (fun _ _ z=>nomatch z)
 have hu:∀ xs,HO.dT kvs≠.tup xs:=fun _ z=>nomatch z
 refine thn (h pins s σ H _ I q) fun f s1 h1=>?_
 cases f with
 | ret u=>obtain⟨v,σ1,H1,I1,r1,o,e1,q1⟩:=h1; exact⟨v,σ1,_,I1.thaw e1 hn hu,r1,q1⟩
 | next=>obtain⟨σ1,H1,I1,o,e1,q1⟩:=h1; exact⟨σ1,_,I1.thaw e1 hn hu,q1⟩
 | brk=>obtain⟨σ1,H1,I1,o,e1,q1⟩:=h1; exact⟨σ1,_,I1.thaw e1 hn hu,q1⟩
 | cont=>obtain⟨σ1,H1,I1,o,e1,q1⟩:=h1; exact⟨σ1,_,I1.thaw e1 hn hu,q1⟩
noncomputable def Itj (d:Addr) (o:Obj) (kvs:List (List Key×V)):It :=
 ⟨fun i H=>H d=some (.frz o (.dT kvs))/\i<kvs.length,fun i H x H'=>∃ p a kv,x=.ref p/\H p=none/\H'=upd H p (.tup [.ref a,kv.2])/\kvs[i]?=some kv/\H a=some (.tup (kv.1.map kV)),fun i H=>H d=some (.frz o (.dT kvs))/\kvs.length<=i⟩
theorem hV {P:Program}{w:World}{K:PySem.W.Frag}{es:List Expr} {x1} {pos:Pos} (d it:Addr) (o:Obj) (kvs:List (List Key×V)) (ds:Array DictEntry) (ep:Nat) (hep:o.data=.dict ds ep) :
  Turn P w K (.Tuple es x1 pos) (Itj d o kvs) [it] it (fun i h=>∃ a b,IsItemIter h it d i ds.size ep a b) where
 mem:=by simp
 obj:=fun i h st b hb=>by
  obtain rfl:b=it:=by simpa using hb
  obtain⟨_,_,e⟩:=st
  exact⟨_,e,fun v z=>by cases (show Data.fields _=Data.cell v from z)⟩
 keep:=fun i h h' st k=>by
  obtain⟨a,b,e⟩:=st
  exact⟨a,b,k it (by simp) _ e⟩
 item:=by
  intro X hP hw hK hc i pins s σ H E I hf st hg
  subst hP hw hK
  obtain⟨e,hi⟩:=hg
  obtain⟨e1,g,sz,gt⟩:=lP I.hok e hep
  obtain⟨hi',a,hka,hta,hva⟩:=gt i _ (sq hi)
  obtain⟨oa,ob,st0⟩:=st
  refine It.item st0 g hi' fun h' a1 a5 kp=>⟨_,U,?_⟩
  refine wpAny_letOwnedTupleGo_items (s:={ s with heap:=h' }) a1 fun h2 st2 sb=>?_
  have pz:s.heap.objs.size≠it:=Nat.ne_of_gt (Heap.lt_size st0)
  have kk:∀ c q,c ∉ [it]->s.heap.get? c=some q->h2.get? c=some q:=fun c q hcm z=>by
   have hc':c≠it:=by simpa using hcm
   exact sb.extBut _ _ hc' (kp c q hc' z)
  have fP:cI X pins H s.heap.objs.size:=I.fpOk (Nat.le_refl _) (I.hok.fresh (Nat.le_refl _))
  have hp2:h2.get? s.heap.objs.size=some { cls:=.type "tuple",data:=.seq #[ds[i].key,ds[i].val] }:=sb.extBut _ _ pz a5
  have I2:Inv X pins σ (upd H s.heap.objs.size (.tup [.ref a,kvs[i].2])) { s with heap:=h2,toks:=s.toks } :=
   (I.turnedL kk hf).track I.sz (fP.2.1) fP.2.2.2.2.1 fP.2.2.2.2.2 fP.1 ⟨(show 2<=sizeLine by decide),[ds[i].key,ds[i].val],.cons (by rw[hka]; rfl) (.cons hva .nil),⟨_,hp2,U,_,U⟩⟩
  refine⟨.ref s.heap.objs.size,_,I2,U,⟨_,a,kvs[i],U,fP.1,U,sq hi,hta⟩,⟨_,_,st2⟩,fun c hcm=>?_⟩
  obtain rfl:c=it:=by simpa using hcm
  rw[aA (Ne.symm pz)]
  exact(hf c hcm).1
 done:=by
  intro X hP hw hK hc i pins s σ H E I hf st hg
  subst hP hw hK
  obtain⟨e,hi⟩:=hg
  obtain⟨e1,g,sz,gt⟩:=lP I.hok e hep
  obtain⟨f0,f1,f2,f3,f4,f5⟩:=hf it (by simp)
  obtain⟨oa,ob,st0⟩:=st
  exact It.done (I.ok.hd hc) st0 g (by omega) fun h' eb=>⟨U,I.turned (t':=s.toks) (fun b o hb e=>eb b o hb e) f0 f1 f3 f4 f5⟩
 self:=fun A _ s Q E ⟨oa,ob,st⟩ h=>by
  have hT:s.TypeIs (.ref it) "dict_itemiterator":=⟨_,st,U⟩
  exact wpAny_pyIter_slot hT PySem.F.slot_dict_itemiterator_iter (wpAny_call_entry PySem.F.slot_dict_itemiterator_iter hT fK (show wpAny _ _ (ret (.ref it)) _ _ s from wpAny_pure ⟨_,U,"dict_itemiterator",_,hT,F.slot_dict_itemiterator_next.lookup,h⟩) (PySem.F.args_dict_itemiterator_iter_1 _))
noncomputable def mX (td:TE):TI:=fun σ H R=>td σ H fun x H1=>∃ d kvs,x=.ref d/\H1 d=some (.dT kvs)/\∀ o,R (Itj d o kvs) (upd H1 d (.frz o (.dT kvs)))
theorem jQ {X:Cx}{es:List Expr} {x1} {tpos apos cpos:Pos}{l:Expr}{tl:TE} (hl:PE X l tl) (hb:attributeBase l "items" X.env (eval l X.env)=eval l X.env:=by rfl) (hline:(apos.endLine == cpos.line)=true:=by rfl):PI X (.Tuple es x1 tpos) (.Call (.Attribute l "items" apos) [] [] cpos) (mX tl):=by
 intro pins s σ H R I h
 refine wpAny_Call_method (T := "dict") (id := "dict.items") hb rfl hline F.plainAttrs_dict F.slot_dict_items F.type_dict_items (thn (hl pins s σ H _ I h) fun v s1 ⟨x,H1,I1,r1,q1⟩=>?_)
 obtain⟨d,kvs,e,ed,q⟩:=q1
 subst e
 cases r1
 obtain⟨t1,t2,_⟩:=i5 I1 (.inr ⟨kvs,.inl ed⟩)
 obtain⟨o,ds,ep,eo,hep,lo,I2⟩:=I1.freezeT ed
 have fz:upd H1 d (.frz o (.dT kvs)) d=some (.frz o (.dT kvs)):=bx ..
 obtain⟨_,g,sz,_⟩:=lP I2.hok fz hep
 refine⟨t1,t2,?_⟩
 refine(show wpAny _ _ (callWith cpos (.builtin "dict.items") [.ref d] [] []) _ _ s1 from method_meetsIn F.slot_dict_items F.entry_dict_items rfl (PySem.evalArgs_none ⟨U,g.ty,F.args_dict_items_1 _,_,It.view lo,⟨_,_,g⟩,?_⟩))
 obtain⟨h2,eh2⟩:∃ h2,s1.heap.push { cls:=.type "dict_items",data:=.fields #[.ref d] }=h2:=⟨_,U⟩
 have sz2:h2.objs.size=s1.heap.objs.size+1:=by rw[<- eh2]; exact Heap.size_push ..
 have k2:∀ b o,s1.heap.get? b=some o->h2.get? b=some o:=fun b o e=>by rw[<- eh2]; exact Heap.get?_push_of_some _ e
 have hv:h2.IsItemsView s1.heap.objs.size d:=by rw[<- eh2]; exact⟨_,Heap.get?_push_size _ rfl,U,U⟩
 rw[eh2]
 refine It.iter (s:={ s1 with heap:=h2 }) hv (g.to fun o e=>k2 d o e) ?_
 have ld:d<s1.heap.objs.size:=Heap.lt_size eo
 have hge:s1.heap.objs.size<=h2.objs.size:=by rw[sz2]; exact Nat.le_succ _
 have hne:h2.objs.size≠d:=Nat.ne_of_gt (Nat.lt_of_lt_of_le ld hge)
 refine⟨h2.objs.size,[h2.objs.size],_,_,_,U,I2.kept (t':=s1.toks) fun b o e=>Heap.get?_push_of_some _ (k2 b o e),hV d _ o kvs ds ep hep,⟨_,_,Heap.get?_push_size _ rfl⟩,fun b hb=>?_,q o⟩
 obtain rfl:b=h2.objs.size:=by simpa using hb
 refine I1.fpOk hge ?_
 rw[aA hne]
 exact I1.hok.fresh hge
theorem i6 {d:Addr}{o:Obj}{g:TG}{tb:TS}{D:Ends}{σ:St}{H:Hp} (Pv:Nat->St->Hp->Prop) (h0:Pv 0 σ H) (hl:∀ i σ H,i<=kvs.length->Pv i σ H->H d=some (.frz o (.dT kvs)))
  (hs:∀ i kv pp a σ H,kvs[i]?=some kv->H pp=none->H a=some (.tup (kv.1.map kV))->Pv i σ H->g (.ref pp) σ (upd H pp (.tup [.ref a,kv.2])) fun σ2 H2=>tb { D with nx:=Pv (i+1),ct:=Pv (i+1),bk:=D.nx } σ2 H2) (hd:∀ σ H,Pv kvs.length σ H->D.nx σ H) :
  ∃ W:Nat->Nat->St->Hp->Prop,(∃ m,W 0 m σ H)/\∀ i m σ H,W i m σ H ->
   ((Itj d o kvs).stop i H/\D.nx σ H)∨((Itj d o kvs).go i H/\∃ N:St->Hp->Prop,(∀ σ' H',N σ' H'->∃ m',m'<m/\W (i+1) m' σ' H')/\∀ x H',(Itj d o kvs).yld i H x H'->g x σ H' fun σ2 H2=>tb { D with nx:=N,ct:=N,bk:=D.nx } σ2 H2):=by
 refine⟨fun i m σ H=>m=kvs.length - i/\i<=kvs.length/\Pv i σ H,⟨kvs.length,by simp,Nat.zero_le _,h0⟩,?_⟩
 rintro i m σ H ⟨rfl,hi,p⟩
 have q:=hl i σ H hi p
 by_cases hlt:i<kvs.length
 ·refine .inr ⟨⟨q,hlt⟩,Pv (i+1),fun σ' H' p'=>⟨kvs.length - (i+1),by omega,U,hlt,p'⟩,fun x H' y=>?_⟩
  obtain⟨pp,a,kv,ex,hn,e,hk,ha⟩:=y
  subst e ex
  exact hs i kv pp a σ _ hk hn ha p
 ·have e:i=kvs.length:=by omega
  subst e
  exact .inl ⟨⟨q,Nat.le_refl _⟩,hd σ H p⟩
end L2
set_option maxHeartbeats 4000000
namespace P
open PySem L2
noncomputable def msS:Setoid Kn:=⟨List.Perm,⟨List.Perm.refl,List.Perm.symm,List.Perm.trans⟩⟩
noncomputable def Ms:Type:=Quotient msS
noncomputable def Ms.mk (l:Kn):Ms:=Quotient.mk msS l
noncomputable def Ms.one (z:Addr×HO):Ms:=Ms.mk [z]
noncomputable def Ms.zero:Ms:=Ms.mk []
noncomputable def Ms.add:Ms->Ms->Ms:=Quotient.lift₂ (s₁:=msS) (s₂:=msS) (fun x y=>Ms.mk (x++y)) (fun _ _ _ _ h1 h2=>Quotient.sound (s:=msS) (List.Perm.append h1 h2))
theorem Ms.app (a b:Kn):Ms.mk (a++b)=(Ms.mk a).add (Ms.mk b):=rfl
theorem Ms.cons (z:Addr×HO) (b:Kn):Ms.mk (z::b)=(Ms.one z).add (Ms.mk b):=rfl
theorem Ms.nil:Ms.mk []=Ms.zero:=rfl
theorem Ms.zl (a:Ms):Ms.zero.add a=a:=by
 induction a using Quotient.ind with | _ x=>rfl
theorem Ms.zr (a:Ms):a.add Ms.zero=a:=by
 induction a using Quotient.ind with | _ x=>exact congrArg Ms.mk (sR x)
instance:Std.Associative Ms.add:=⟨fun a b c=>by
 induction a using Quotient.ind with | _ x=>induction b using Quotient.ind with | _ y=>induction c using Quotient.ind with | _ z=>exact congrArg Ms.mk (sr x y z)⟩
instance:Std.Commutative Ms.add:=⟨fun a b=>by
 induction a using Quotient.ind with | _ x=>induction b using Quotient.ind with | _ y=>exact Quotient.sound (s:=msS) (List.perm_append_comm (l₁:=x) (l₂:=y))⟩
theorem Ms.perm {a b:Kn} (h:Ms.mk a=Ms.mk b):a.Perm b:=Quotient.exact h
variable{H:Hp}
theorem Has.ac {a b:Kn} (h:Has H a) (e:Ms.mk a=Ms.mk b):Has H b:=h.perm (Ms.perm e)
noncomputable def Al (y:YR) (l:List (Int×Int)):Prop:=l.Nodup/\∀ x ∈ l,Fr y x
theorem Al.perm {y:YR}{l l':List (Int×Int)} (h:Al y l) (p:l.Perm l'):Al y l':=⟨p.nodup_iff.mp h.1,fun x hx=>h.2 x (p.mem_iff.mpr hx)⟩
theorem Al.sub {y:YR}{l l':List (Int×Int)} (h:Al y l) (p:l'.Sublist l):Al y l':=⟨h.1.sublist p,fun x hx=>h.2 x (p.subset hx)⟩
variable{l:List (Int×Int)}
theorem Al.tail {y:YR}{a:Int×Int} (h:Al y (a::l)):Al y l:=h.sub (List.sublist_cons_self _ _)
theorem Al.lay2 {y:YR}{N M R:Nat} (h:Ld y N M R) (g:Al y l) (k:Kd) (note:Int) (rod:V) (hk:k.many=2):Al (bE y k note rod) (((N:Int),0)::((N:Int),1)::l):=by
 refine⟨List.nodup_cons.mpr ⟨fun c=>?_,List.nodup_cons.mpr ⟨fun c=>(g.2 _ c).ne h rfl,g.1⟩⟩,fun x hx=>?_⟩
 ·rcases sD.mp c with c | c
  ·exact iW (by decide) c
  ·exact(g.2 _ c).ne h rfl
 ·rcases sD.mp hx with rfl | hx
  ·exact Fr.new h k note rod (Int.le_refl _) (by rw[hk]; decide)
  ·rcases sD.mp hx with rfl | hx
   ·exact Fr.new h k note rod (by decide) (by rw[hk]; decide)
   ·exact(g.2 x hx).lay h k note rod
theorem Al.lay3 {y:YR}{N M R:Nat} (h:Ld y N M R) (g:Al y l) (k:Kd) (note:Int) (rod:V) (hk:k.many=3):Al (bE y k note rod) (((N:Int),0)::((N:Int),1)::((N:Int),2)::l):=by
 have n0:∀ e:Int,((N:Int),e) ∉ l:=fun e c=>(g.2 _ c).ne h rfl
 refine⟨List.nodup_cons.mpr ⟨fun c=>?_,List.nodup_cons.mpr ⟨fun c=>?_,List.nodup_cons.mpr ⟨n0 2,g.1⟩⟩⟩,fun x hx=>?_⟩
 ·rcases sD.mp c with c | c
  ·exact iW (by decide) c
  ·rcases sD.mp c with c | c
   ·exact iW (by decide) c
   ·exact n0 0 c
 ·rcases sD.mp c with c | c
  ·exact iW (by decide) c
  ·exact n0 1 c
 ·rcases sD.mp hx with rfl | hx
  ·exact Fr.new h k note rod (Int.le_refl _) (by rw[hk]; decide)
  ·rcases sD.mp hx with rfl | hx
   ·exact Fr.new h k note rod (by decide) (by rw[hk]; decide)
   ·rcases sD.mp hx with rfl | hx
    ·exact Fr.new h k note rod (by decide) (by rw[hk]; decide)
    ·exact(g.2 x hx).lay h k note rod
theorem Al.link {y:YR}{a b:Pr} (g:Al y (a.2::b.2::l)):Al (bY y a b) l:=by
 obtain⟨n1,n2⟩:=List.nodup_cons.mp g.1
 obtain⟨n3,n4⟩:=List.nodup_cons.mp n2
 exact⟨n4,fun x hx=>(g.2 x (r9 _ (r9 _ hx))).link (fun c=>n1 (by rw[<- c]; exact r9 _ hx)) (fun c=>n3 (by rw[<- c]; exact hx))⟩
theorem Al.ne {y:YR}{a b:Int×Int} (g:Al y (a::b::l)):a≠b:=fun c=>(List.nodup_cons.mp g.1).1 (by rw[c]; exact sg)
structure WS where
 p:Addr
 dx:Addr
 td:Addr
 ts:Addr
 tc:Addr
 D:List ((Int×Int)×Addr×List Pr)
 S:List (Addr×List (Addr×Pr×Pr))
 T:List (Addr×List Pr)
noncomputable def wfl (W:WS):List (Str×V):=[("to_doors",.ref W.td),("to_stretches",.ref W.ts),("to_callers",.ref W.tc)]
noncomputable abbrev dkv (D:List ((Int×Int)×Addr×List Pr)):List (List Key×V):=D.map fun z=>(kE z.1.1 z.1.2,V.ref z.2.1)
noncomputable abbrev wD (D:List ((Int×Int)×Addr×List Pr)):Kn:=D.map fun z=>(z.2.1,HO.lst (prV z.2.2))
noncomputable abbrev wS (S:List (Addr×List (Addr×Pr×Pr))):Kn:=S.map fun z=>(z.1,HO.lst (z.2.map fun c=>V.ref c.1))
noncomputable abbrev wT (T:List (Addr×List Pr)):Kn:=T.map fun z=>(z.1,HO.lst (prV z.2))
noncomputable abbrev w5 (C:Addr) (W:WS):Kn:=[(W.p,.ins C W.dx (wfl W)),(W.dx,.own W.p),(W.td,.dT (dkv W.D)),(W.ts,.lst (W.S.map fun z=>V.ref z.1)),(W.tc,.lst (W.T.map fun z=>V.ref z.1))]
noncomputable def wL (C:Addr) (W:WS):Kn:=w5 C W++(wD W.D++(wS W.S++wT W.T))
theorem nK (W:WS):(wfl W).lookup ("to_doors" : Str)=some (.ref W.td):=by kernel_rfl
theorem nI (W:WS):(wfl W).lookup ("to_stretches" : Str)=some (.ref W.ts):=by kernel_rfl
theorem kx (W:WS):(wfl W).lookup ("to_callers" : Str)=some (.ref W.tc):=by kernel_rfl
theorem nJ (W:WS):(wfl W).lookup ("lead" : Str)=none:=by kernel_rfl
noncomputable def dE (D:List ((Int×Int)×Addr×List Pr)):List (Int×Int):=D.flatMap fun z=>z.2.2.map (·.2)
noncomputable def sE (S:List (Addr×List (Addr×Pr×Pr))):List (Int×Int):=S.flatMap fun z=>z.2.map fun c=>c.2.1.2
noncomputable def tE (T:List (Addr×List Pr)):List (Int×Int):=T.flatMap fun z=>z.2.map (·.2)
noncomputable def WS.pend (W:WS):List (Int×Int):=dE W.D++(sE W.S++tE W.T)
noncomputable def WS.dn (W:WS):Nat:=(dE W.D).length
noncomputable def WS.sn (W:WS):Nat:=(sE W.S).length
noncomputable def WS.tn (W:WS):Nat:=(tE W.T).length
structure WOk (W:WS) (L:Kn) (Pl:Int×Int->Prop):Prop where
 kd:(W.D.map (·.1)).Nodup
 ne:∀ z ∈ W.D,z.2.2≠[]
 pd:∀ z ∈ W.D,Pl z.1
 eD:∀ z ∈ W.D,∀ x ∈ z.2.2,pK2 x ∈ L
 eS:∀ z ∈ W.S,∀ c ∈ z.2,(c.1,HO.tup [.ref c.2.1.1,.ref c.2.2.1]) ∈ L/\pK2 c.2.1 ∈ L/\pK2 c.2.2 ∈ L/\Pl c.2.2.2
 eT:∀ z ∈ W.T,∀ x ∈ z.2,pK2 x ∈ L
variable{W:WS}
theorem WOk.mono {L L':Kn}{Pl:Int×Int->Prop} (h:WOk W L Pl) (s:∀ z ∈ L,z ∈ L'):WOk W L' Pl :=
 ⟨h.kd,h.ne,h.pd,fun z hz x hx=>s _ (h.eD z hz x hx),fun z hz c hc=>⟨s _ (h.eS z hz c hc).1,s _ (h.eS z hz c hc).2.1,s _ (h.eS z hz c hc).2.2.1,(h.eS z hz c hc).2.2.2⟩,fun z hz x hx=>s _ (h.eT z hz x hx)⟩
theorem lW:∀ {D:List ((Int×Int)×Addr×List Pr)},(∀ z ∈ D,z.2.2≠[])->D.length<=(dE D).length
 | [],_=>Nat.le_refl _
 | z::r,h=>by
  have h1:=lW (D:=r) fun x hx=>h x (r9 _ hx)
  have h2:0<z.2.2.length:=List.length_pos_iff.mpr (h z sg)
  unfold dE at h1 ⊢
  rw[List.flatMap_cons,sA,su,sG]
  omega
theorem i7 {α β:Type}{f:α->List β}{l:List α}{i:Nat}{z:α} (h:l[i]?=some z):(f z).length<=(l.flatMap f).length:=by
 have:=si h
 obtain⟨a,b,rfl⟩:=List.append_of_mem this
 rw[List.flatMap_append,List.flatMap_cons,sA,sA]
 omega
theorem g7 {α β:Type}{f:α->List β}{l:List α}{i:Nat}{z z':α}{x:β} (h:l[i]?=some z) (e:f z'=f z++[x]):((l.set i z').flatMap f).Perm (x::l.flatMap f):=by
 induction l generalizing i with
 | nil=>cases h
 | cons a r ih=>
  cases i with
  | zero=>
   cases h
   rw[List.set_cons_zero,List.flatMap_cons,List.flatMap_cons,e,sr]
   exact List.perm_middle
  | succ i=>
   rw[List.set_cons_succ,List.flatMap_cons,List.flatMap_cons]
   exact(List.Perm.append_left _ (ih h)).trans List.perm_middle
inductive sp_Winit (C:Addr) (vs:List V) (H:Hp) (Q:VK) (E_:XK):Prop
 | mk (p dx:Addr) (L:Kn) (m:Nat) (_:vs=[.ref p,.int m]) (_:Has H ((p,.ins C dx [])::(dx,.own p)::L)) (_:m<=1000) (_:∀ H' (W:WS),W.p=p->W.D=[]->W.S.length=m->W.T.length=m->(∀ z ∈ W.S,z.2=[])->(∀ z ∈ W.T,z.2=[])->Has H' (wL C W++L)->Q .non H'):sp_Winit C vs H Q E_
noncomputable def inD (D:List ((Int×Int)×Addr×List Pr)) (pl:Int×Int) (x:Pr):Prop:=∃ z ∈ D,z.1=pl/\x ∈ z.2.2
structure Led (D D':List ((Int×Int)×Addr×List Pr)) (e:Pr) (pl:Int×Int):Prop where
 pm:(dE D').Perm (e.2::dE D)
 kd:(D'.map (·.1)).Nodup
 ne:∀ z ∈ D',z.2.2≠[]
 pk:∀ z ∈ D',z.1=pl∨z.1 ∈ D.map (·.1)
 io:∀ q x,inD D' q x↔inD D q x∨(q=pl/\x=e)
inductive sp_lead (C:Addr) (vs:List V) (H:Hp) (Q:VK) (E_:XK):Prop
 | mk (W:WS) (L:Kn) (e:Pr) (b:Addr) (pl:Int×Int) (_:vs=[.ref W.p,.ref e.1,.ref b]) (_:Has H (wL C W++L)) (_:pK2 (b,pl) ∈ L) (_:(W.D.map (·.1)).Nodup) (_:(∀ z ∈ W.D,z.2.2≠[])) (_:W.dn<=5000) (_:∀ H' D',Led W.D D' e pl->Has H' (wL C { W with D:=D' }++L)->Q .non H'):sp_lead C vs H Q E_
variable{D:List ((Int×Int)×Addr×List Pr)}
theorem Led.new {e:Pr}{pl:Int×Int}{l:Addr} (kd:(D.map (·.1)).Nodup) (ne:∀ z ∈ D,z.2.2≠[]) (h:pl ∉ D.map (·.1)):Led D (D++[(pl,l,[e])]) e pl:=by
 refine⟨?_,?_,fun z hz=>?_,fun z hz=>?_,fun q x=>⟨fun⟨z,hz,h1,h2⟩=>?_,fun h=>?_⟩⟩
 ·unfold dE
  rw[List.flatMap_append]
  exact List.perm_append_comm
 ·rw[sw]
  exact List.nodup_append.mpr ⟨kd,by simp,fun x hx y hy c=>h ((show y=pl by simpa using hy) ▸ c ▸ hx)⟩
 ·rcases sC.mp hz with hz | hz
  ·exact ne z hz
  ·rw[sy.mp hz]; simp
 ·rcases sC.mp hz with hz | hz
  ·exact .inr (sF hz)
  ·rw[sy.mp hz]; exact .inl rfl
 ·rcases sC.mp hz with hz | hz
  ·exact .inl ⟨z,hz,h1,h2⟩
  ·rw[sy.mp hz] at h1 h2
   exact .inr ⟨h1.symm,by simpa using h2⟩
 ·rcases h with ⟨z,hz,h1,h2⟩ | ⟨rfl,rfl⟩
  ·exact⟨z,sk _ hz,h1,h2⟩
  ·exact⟨_,se _ sg,U,by simp⟩
theorem Led.old {e:Pr}{i:Nat}{z:(Int×Int)×Addr×List Pr} (kd:(D.map (·.1)).Nodup) (ne:∀ z ∈ D,z.2.2≠[]) (h:D[i]?=some z):Led D (D.set i (z.1,z.2.1,z.2.2++[e])) e z.1:=by
 have hi:=(List.getElem?_eq_some_iff.mp h).1
 have hm:=si h
 have ek:(D.set i (z.1,z.2.1,z.2.2++[e])).map (·.1)=D.map (·.1):=by
  rw[List.map_set]
  refine List.ext_getElem? fun j=>?_
  rw[List.getElem?_set]
  split
  ·rename_i c
   subst c
   rw[if_pos (by rw[su]; exact hi),sx,h]; rfl
  ·rfl
 refine⟨g7 h (by rw[sw]; rfl),by rw[ek]; exact kd,fun x hx=>?_,fun x hx=>?_,fun q x=>⟨fun⟨u,hu,h1,h2⟩=>?_,fun g=>?_⟩⟩
 ·rcases List.mem_or_eq_of_mem_set hx with hx | rfl
  ·exact ne x hx
  ·simp
 ·exact .inr (by rw[<- ek]; exact sF hx)
 ·rcases List.mem_or_eq_of_mem_set hu with hu | rfl
  ·exact .inl ⟨u,hu,h1,h2⟩
  ·rcases sC.mp h2 with h2 | h2
   ·exact .inl ⟨z,hm,h1,h2⟩
   ·exact .inr ⟨h1.symm,sy.mp h2⟩
 ·have new:(z.1,z.2.1,z.2.2++[e]) ∈ D.set i (z.1,z.2.1,z.2.2++[e]):=List.mem_iff_getElem?.mpr ⟨i,by rw[List.getElem?_set,if_pos rfl,if_pos hi]⟩
  rcases g with ⟨u,hu,h1,h2⟩ | ⟨rfl,rfl⟩
  ·obtain⟨j,hj⟩:=List.mem_iff_getElem?.mp hu
   by_cases c:i=j
   ·subst c
    rw[h] at hj
    cases hj
    exact⟨_,new,h1,sk _ h2⟩
   ·exact⟨u,List.mem_iff_getElem?.mpr ⟨j,by rw[List.getElem?_set,if_neg c]; exact hj⟩,h1,h2⟩
  ·exact⟨_,new,U,by simp⟩
theorem gG {pl:Int×Int} (h:au (dkv D) (kE pl.1 pl.2)=none):pl ∉ D.map (·.1):=fun c=>by
 induction D with
 | nil=>cases c
 | cons z r ih=>
  by_cases e:kE z.1.1 z.1.2=kE pl.1 pl.2
  ·have h:au ((kE z.1.1 z.1.2,V.ref z.2.1)::dkv r) (kE pl.1 pl.2)=none:=h
   rw[bj e] at h; cases h
  ·have h:au ((kE z.1.1 z.1.2,V.ref z.2.1)::dkv r) (kE pl.1 pl.2)=none:=h
   rw[bo e] at h
   rcases sD.mp c with c | c
   ·exact e (by rw[c])
   ·exact ih h c
theorem gF {pl:Int×Int}{v:V} (h:au (dkv D) (kE pl.1 pl.2)=some v):∃ (i:Nat) (z:(Int×Int)×Addr×List Pr),D[i]?=some z/\z.1=pl/\v=.ref z.2.1:=by
 induction D with
 | nil=>cases h
 | cons z r ih=>
  by_cases e:kE z.1.1 z.1.2=kE pl.1 pl.2
  ·have h:au ((kE z.1.1 z.1.2,V.ref z.2.1)::dkv r) (kE pl.1 pl.2)=some v:=h
   rw[bj e] at h; cases h
   exact⟨0,z,U,cC e,U⟩
  ·have h:au ((kE z.1.1 z.1.2,V.ref z.2.1)::dkv r) (kE pl.1 pl.2)=some v:=h
   rw[bo e] at h
   obtain⟨i,u,h1,h2,h3⟩:=ih h
   exact⟨i+1,u,h1,h2,h3⟩
theorem spl {α:Type}{l:List α}{i:Nat}{z:α} (h:l[i]?=some z):∃ a b,l=a++z::b/\∀ z',l.set i z'=a++z'::b:=by
 induction l generalizing i with
 | nil=>cases h
 | cons x r ih=>
  cases i with
  | zero=>cases h; exact⟨[],r,U,fun _=>rfl⟩
  | succ i=>
   obtain⟨a,b,e,f⟩:=ih h
   exact⟨x::a,b,by rw[e]; rfl,fun z'=>by rw[List.set_cons_succ,f]; rfl⟩
theorem rM {X Y:Kn}{a:Addr}{o:HO} (h:Has H (X++(a,o)::Y)) (o':HO):Has (upd H a o') (X++(a,o')::Y) :=
 ((h.perm List.perm_middle).puti 0 U o').perm List.perm_middle.symm
theorem m9 {D a b:List ((Int×Int)×Addr×List Pr)}{z z':(Int×Int)×Addr×List Pr} (e:D=a++z::b) (e1:z'.1=z.1) (e2:z'.2.1=z.2.1):dkv (a++z'::b)=dkv D:=by
 rw[e]
 show(a++z'::b).map _=(a++z::b).map _
 rw[sw,sw,sH,sH,e1,e2]
section
variable {P:Program}{w:World}{K:PySem.W.Frag}{mg:Str->Option Value}{base:Heap}{t:Adr}
theorem scWl:FnScope ["self","end","place"] ["self","end","place"] (aj ox):={}
theorem lx (T:Txt K mg t):FnOk P w K mg base CX0 1 t.f_J31 t.d_J31 ["self","end","place"] (sp_lead t.c_Ways):=by
 refine T.F_J31.ok scWl (fun vs H Q E h=>?_) (fun cdv A outer s H vs Q E hr h=>?_)
 ·obtain⟨_,_,_,_,_,rfl,_⟩:=h
  rfl
 ·obtain⟨W,L,e,b,pl,rfl,hH,mb,kd,ne,bd,q⟩:=h
  have hu:=cD hr
  refine⟨_,(ai (ao (bL PySem.F.plainAttrs_list PySem.F.slot_list_append PySem.F.type_list_append aV (k7 hu (aw (pv 0) rfl) (pv 2) (aU ah) ⟨U,U,U,U⟩) (aa (pv 1) ah)))),?_⟩
  rw[show L2.start ["self","end","place"] [V.ref W.p,V.ref e.1,V.ref b]=([some (V.ref W.p),some (V.ref e.1),some (V.ref b)]:St) from rfl]
  refine⟨_,U,W.p,_,W.dx,_,_,U,hH.get 0 U,T.cl_Ways,T.n_Ways_to_doors,nK _,W.td,U,.inr ⟨_,.inl (hH.get 2 U)⟩,_,U,by decide,fun l hl=>?_⟩
  have h1:=hH.alloc hl (.lst [])
  have dl:=Nat.le_trans (lW ne) bd
  have gb:=h1.at_ _ (r9 _ (se _ mb))
  refine⟨b,_,kE pl.1 pl.2,U,h1.get 3 U,gb,sizeOk (by show(W.D.map _).length<=1000000; rw[su]; omega),fun v hv=>?_,fun hn=>?_⟩
  ·obtain⟨i,z,hz,rfl,rfl⟩:=gF hv
   have gz:=h1.at_ (z.2.1,HO.lst (prV z.2.2)) (r9 _ (sk _ (se _ (sk _ (sF (f:=fun z:(Int×Int)×Addr×List Pr=>(z.2.1,HO.lst (prV z.2.2))) (si hz))))))
   have lz:(prV z.2.2).length<=5000:=by
    have:=i7 (f:=fun z:(Int×Int)×Addr×List Pr=>z.2.2.map (·.2)) hz
    rw[su] at this
    unfold prV
    rw[su]
    exact Nat.le_trans this bd
   refine⟨.inl ⟨U,_,SqL.of gz⟩,_,U,z.2.1,_,_,U,U,gz,sizeOk (by omega),?_⟩
   have er:prV z.2.2++[.ref e.1]=prV (z.2.2++[e]):=by unfold prV; rw[sw]; rfl
   rw[er]
   refine q _ _ (Led.old kd ne hz) ?_
   obtain⟨d1,d2,eD,eS⟩:=spl hz
   rw[eS]
   have h2:=dt h1.tail (show wL t.c_Ways W++L=(w5 t.c_Ways W++wD d1)++(z.2.1,HO.lst (prV z.2.2))::(wD d2++(wS W.S++(wT W.T++L))) by
    unfold wL
    rw[show wD W.D=wD d1++(z.2.1,HO.lst (prV z.2.2))::wD d2 by rw[eD]; show(d1++z::d2).map _=_; rw[sw,sH]]
    simp only[sr,List.cons_append])
   have h3:=rM h2 (.lst (prV (z.2.2++[e])))
   unfold wL
   have e5:w5 t.c_Ways { W with D:=d1++(z.1,z.2.1,z.2.2++[e])::d2 }=w5 t.c_Ways W:=by
    show [_,_,(W.td,HO.dT (dkv (d1++(z.1,z.2.1,z.2.2++[e])::d2))),_,_]=_
    rw[m9 (z':=(z.1,z.2.1,z.2.2++[e])) eD rfl rfl]
    rfl
   rw[e5,show wD (d1++(z.1,z.2.1,z.2.2++[e])::d2)=wD d1++(z.2.1,HO.lst (prV (z.2.2++[e])))::wD d2 by show(d1++(z.1,z.2.1,z.2.2++[e])::d2).map _=_; rw[sw,sH]]
   simpa only [sr,List.cons_append] using h3
  ·have np:=gG hn
   have h2:=h1.puti 3 U (.dT (aG (dkv W.D) (kE pl.1 pl.2) (.ref l)))
   refine⟨.inl ⟨U,_,SqL.of (h2.get 0 U)⟩,_,U,l,_,_,U,U,h2.get 0 U,sizeOk (by decide),?_⟩
   refine q _ _ (Led.new (l:=l) kd ne np) ?_
   have h3:=h2.puti 0 U (.lst (prV [e]))
   unfold wL
   have e5:w5 t.c_Ways { W with D:=W.D++[(pl,l,[e])] }=[(W.p,.ins t.c_Ways W.dx (wfl W)),(W.dx,.own W.p),(W.td,.dT (aG (dkv W.D) (kE pl.1 pl.2) (.ref l))),(W.ts,.lst (W.S.map fun z=>V.ref z.1)),(W.tc,.lst (W.T.map fun z=>V.ref z.1))]:=by
    rw[L2.putK_new _ hn]
    show [_,_,(W.td,HO.dT (dkv (W.D++[(pl,l,[e])]))),_,_]=_
    rw[show dkv (W.D++[(pl,l,[e])])=dkv W.D++[(kE pl.1 pl.2,.ref l)] by show(W.D++[(pl,l,[e])]).map _=_; rw[sw]; rfl]
    rfl
   rw[e5,show wD (W.D++[(pl,l,[e])])=wD W.D++[(l,HO.lst (prV [e]))] by show(W.D++[(pl,l,[e])]).map _=_; rw[sw]; rfl]
   have h4:=dt h3 (show _=(l,HO.lst (prV [e]))::(([(W.p,HO.ins t.c_Ways W.dx (wfl W)),(W.dx,.own W.p),(W.td,.dT (aG (dkv W.D) (kE pl.1 pl.2) (.ref l))),(W.ts,.lst (W.S.map fun z=>V.ref z.1)),(W.tc,.lst (W.T.map fun z=>V.ref z.1))]++wD W.D)++((wS W.S++wT W.T)++L)) by
    show(l,HO.lst (prV [e]))::([(W.p,HO.ins t.c_Ways W.dx (wfl W)),(W.dx,.own W.p),(W.td,.dT (aG (dkv W.D) (kE pl.1 pl.2) (.ref l))),(W.ts,.lst (W.S.map fun z=>V.ref z.1)),(W.tc,.lst (W.T.map fun z=>V.ref z.1))]++(wD W.D++(wS W.S++wT W.T))++L)=_
    simp only[sr,List.cons_append,List.nil_append])
   have h5:=h4.perm (List.perm_middle (l₁:=([(W.p,HO.ins t.c_Ways W.dx (wfl W)),(W.dx,.own W.p),(W.td,.dT (aG (dkv W.D) (kE pl.1 pl.2) (.ref l))),(W.ts,.lst (W.S.map fun z=>V.ref z.1)),(W.tc,.lst (W.T.map fun z=>V.ref z.1))]++wD W.D)) (l₂:=(wS W.S++wT W.T)++L)).symm
   refine dt h5 ?_
   simp only[sr,List.cons_append,List.nil_append]
end
theorem iK {α:Type}{P:α->Prop}{l:List α}{x:α} (h:∀ z ∈ l,P z) (hx:P x):∀ z ∈ l++[x],P z:=fun z hz=>by
 rcases sC.mp hz with hz | hz
 ·exact h z hz
 ·rw[sy.mp hz]; exact hx
section
variable {P:Program}{w:World}{K:PySem.W.Frag}{mg:Str->Option Value}{base:Heap}{t:Adr}
theorem scWi:FnScope ["self","many"] ["self","many"] (aj mH):={}
theorem ok_Jz (T:Txt K mg t):FnOk P w K mg base CX0 1 t.f_Jz t.d_Jz ["self","many"] (sp_Winit t.c_Ways):=by
 refine T.F_Jz.ok scWi (fun vs H Q E h=>?_) (fun cdv A outer s H vs Q E hr h=>?_)
 ·obtain⟨_,_,_,_,rfl,_⟩:=h
  rfl
 ·obtain⟨p,dx,L,m,rfl,hH,bm,q⟩:=h
  refine⟨_,(ae (aZ (pv 0) fc rfl)
   (ae (aZ (pv 0) (fZ (esc:=aj mH) (k:=1) ["stretch","self","many"] rfl (bp (by rfl) T.z_range (aa (pv 1) ah)) (fun _ _ _ _ _=>by exact(aq (i:=0) (show List.Nodup (["stretch","self","many"]:List Str) from by decide +kernel) rfl (Or.inl rfl))) (fun _ _ _ _ _=>by exact bI) (fun _ _ _ _ _=>by exact(aU ah)) rfl (by decide +kernel) (by decide +kernel) rfl (by decide +kernel) (by rfl) (fun _ _ h _=>h) (by decide +kernel)) rfl)
   (ai (aZ (pv 0) (fZ (esc:=aj mH) (k:=1) ["stretch","self","many"] rfl (bp (by rfl) T.z_range (aa (pv 1) ah)) (fun _ _ _ _ _=>by exact(aq (i:=0) (show List.Nodup (["stretch","self","many"]:List Str) from by decide +kernel) rfl (Or.inl rfl))) (fun _ _ _ _ _=>by exact bI) (fun _ _ _ _ _=>by exact(aU ah)) rfl (by decide +kernel) (by decide +kernel) rfl (by decide +kernel) (by rfl) (fun _ _ h _=>h) (by decide +kernel)) rfl)))),?_⟩
  rw[show L2.start ["self","many"] [V.ref p,V.int m]=([some (V.ref p),some (V.int m)]:St) from rfl]
  intro td htd
  have h1:=hH.alloc htd (.dT [])
  refine⟨_,U,p,_,dx,_,U,h1.get 1 U,T.cl_Ways,T.n_Ways_to_doors,(show 0<1000 by decide),?_⟩
  have h2:=h1.puti 1 U (.ins t.c_Ways dx [("to_doors",.ref td)])
  refine⟨_,U,_,U,by omega,by omega,fun ts hts=>?_⟩
  refine⟨fun i k zs H'=>k=m - i/\i<=m/\∃ S:List (Addr×List (Addr×Pr×Pr)),zs=S.map (fun z=>V.ref z.1)/\S.length=i/\(∀ z ∈ S,z.2=[])/\Has H' ((ts,.lst zs)::(wS S++((td,.dT [])::(p,.ins t.c_Ways dx [("to_doors",.ref td)])::(dx,.own p)::L))),⟨_,U,Nat.zero_le _,[],U,U,by simp,h2.alloc hts _⟩,?_⟩
  rintro i k zs H3 ⟨rfl,hi,S,rfl,hSl,hS,h3⟩
  refine⟨h3.get 0 U,?_⟩
  by_cases hlt:i<m
  ·refine .inr ⟨(show i<(m:Int).toNat by omega),?_⟩
   rintro x H4 ⟨rfl,rfl⟩
   refine⟨U,dH ?_⟩
   refine⟨by decide,fun l hl=>?_⟩
   have h4:=h3.alloc hl (.lst [])
   refine⟨sizeOk (by rw[su]; omega),h4.get 1 U,m - (i+1),by omega,U,hlt,S++[(l,[])],by rw[sw]; rfl,by simp[hSl],iK hS rfl,?_⟩
   have h5:=h4.puti 1 U (.lst (S.map (fun z=>V.ref z.1)++[.ref l]))
   refine dt ((h5.swap2).perm (.cons _ (List.perm_middle (l₁:=wS S) (l₂:=(td,HO.dT [])::(p,.ins t.c_Ways dx [("to_doors",.ref td)])::(dx,.own p)::L)).symm)) ?_
   rw[show wS (S++[(l,[])])=wS S++[(l,HO.lst [])] by show(S++[(l,[])]).map _=_; rw[sw]; rfl]
   simp only[sr,List.cons_append,List.nil_append]
  ·have ei:i=m:=by omega
   refine .inl ⟨(show(m:Int).toNat<=i by omega),?_⟩
   dsimp only[List.set]
   have h4:=h3.perm (List.perm_append_comm (l₁:=(ts,HO.lst (S.map fun z:Addr×List (Addr×Pr×Pr)=>V.ref z.1))::wS S) (l₂:=(td,HO.dT [])::(p,.ins t.c_Ways dx [("to_doors",.ref td)])::(dx,.own p)::L))
   refine⟨_,U,p,_,dx,_,U,h4.get 1 U,T.cl_Ways,T.n_Ways_to_Jt,(show 1<1000 by decide),?_⟩
   have h5:=h4.puti 1 U (.ins t.c_Ways dx [("to_doors",.ref td),("to_stretches",.ref ts)])
   refine⟨_,U,_,U,by omega,by omega,fun tc htc=>?_⟩
   obtain⟨L2,eL2⟩:∃ L2:Kn,(td,HO.dT [])::(p,.ins t.c_Ways dx [("to_doors",.ref td),("to_stretches",.ref ts)])::(dx,.own p)::(L++((ts,HO.lst (S.map fun z:Addr×List (Addr×Pr×Pr)=>V.ref z.1))::wS S))=L2:=⟨_,U⟩
   have h6:=dt h5 eL2
   refine⟨fun i k zs H'=>k=m - i/\i<=m/\∃ S:List (Addr×List Pr),zs=S.map (fun z=>V.ref z.1)/\S.length=i/\(∀ z ∈ S,z.2=[])/\Has H' ((tc,.lst zs)::(wT S++L2)),⟨_,U,Nat.zero_le _,[],U,U,by simp,h6.alloc htc _⟩,?_⟩
   clear h3 h4 h5 h6 hlt
   rintro j k zs H3 ⟨rfl,hj,T',rfl,hTl,hT,h3⟩
   refine⟨h3.get 0 U,?_⟩
   by_cases hlt:j<m
   ·refine .inr ⟨(show j<(m:Int).toNat by omega),?_⟩
    rintro x H4 ⟨rfl,rfl⟩
    refine⟨U,dH ?_⟩
    refine⟨by decide,fun l hl=>?_⟩
    have h4:=h3.alloc hl (.lst [])
    refine⟨sizeOk (by rw[su]; omega),h4.get 1 U,m - (j+1),by omega,U,hlt,T'++[(l,[])],by rw[sw]; rfl,by simp[hTl],iK hT rfl,?_⟩
    have h5:=h4.puti 1 U (.lst (T'.map (fun z=>V.ref z.1)++[.ref l]))
    refine dt ((h5.swap2).perm (.cons _ (List.perm_middle (l₁:=wT T') (l₂:=L2)).symm)) ?_
    rw[show wT (T'++[(l,[])])=wT T'++[(l,HO.lst (prV []))] by show(T'++[(l,[])]).map _=_; rw[sw]; rfl]
    simp only[sr,List.cons_append,List.nil_append]
    rfl
   ·refine .inl ⟨(show(m:Int).toNat<=j by omega),?_⟩
    dsimp only[List.set]
    have ej:j=m:=by omega
    have h4:=h3.perm (List.perm_append_comm (l₁:=(tc,HO.lst (T'.map fun z:Addr×List Pr=>V.ref z.1))::wT T') (l₂:=L2))
    rw[<- eL2] at h4
    refine⟨_,U,p,_,dx,_,U,h4.get 1 U,T.cl_Ways,T.n_Ways_to_callers,(show 2<1000 by decide),?_⟩
    have h5:=h4.puti 1 U (.ins t.c_Ways dx (wfl ⟨p,dx,td,ts,tc,[],S,T'⟩))
    refine q _ ⟨p,dx,td,ts,tc,[],S,T'⟩ rfl rfl (by show S.length=m; omega) (by show T'.length=m; omega) hS hT ?_
    refine Has.ac h5 ?_
    simp only[List.cons_append,List.set_cons_succ,List.set_cons_zero,wL,wD,List.map_nil,Ms.app,Ms.cons,Ms.nil,Ms.zl,Ms.zr]
    ac_rfl
end
theorem jN {κ:Type} [DecidableEq κ] {kvs:List (κ×V)}{k:κ}{v:V}{x:κ} (h:x ∈ (aG kvs k v).map (·.1)):x ∈ kvs.map (·.1)∨x=k:=by
 unfold aG at h
 split at h
 ·left
  rw[sV] at h
  obtain⟨p,hp,e⟩:=sQ.mp h
  refine sQ.mpr ⟨p,hp,?_⟩
  rw[<- e]
  show p.1=(if p.1=k then(p.1,v) else p).1
  split <;> rfl
 ·rw[sw,sC] at h
  rcases h with h | h
  ·exact .inl h
  ·right; simpa using h
structure LA where
 p:Addr
 dx:Addr
 y:Addr
 d:Addr
 m:Addr
 c:Addr
 r:Addr
noncomputable def lfl (A:LA):List (Str×V):=[("yard",.ref A.y),("doors",.ref A.d),("mark_rods",.ref A.m),("counter_rods",.ref A.c),("rows_at",.ref A.r)]
theorem fD (A:LA):(lfl A).lookup ("yard" : Str)=some (.ref A.y):=by kernel_rfl
theorem lF (A:LA):(lfl A).lookup ("doors" : Str)=some (.ref A.d):=by kernel_rfl
theorem oT (A:LA):(lfl A).lookup ("rows_at" : Str)=some (.ref A.r):=by kernel_rfl
theorem lE (A:LA):(lfl A).lookup ("door" : Str)=none/\(lfl A).lookup ("mark_rod" : Str)=none/\(lfl A).lookup ("bit_rods" : Str)=none:=⟨by kernel_rfl,by kernel_rfl,by kernel_rfl⟩
noncomputable abbrev dsV (ds:List (Addr×List Pr)):List V:=ds.map fun z=>V.ref z.1
noncomputable abbrev crV (cr:List (Addr×List Int)):List V:=cr.map fun z=>V.ref z.1
structure LIn (C:Addr) (A:LA) (ds:List (Addr×List Pr)) (mr:List Int) (cr:List (Addr×List Int)) (L:Kn):Prop where
 p:(A.p,HO.ins C A.dx (lfl A)) ∈ L
 d:(A.d,HO.lst (dsV ds)) ∈ L
 dl:∀ z ∈ ds,(z.1,HO.lst (prV z.2)) ∈ L
 de:∀ z ∈ ds,∀ x ∈ z.2,pK2 x ∈ L
 m:(A.m,HO.lst (mr.map V.int)) ∈ L
 c:(A.c,HO.lst (crV cr)) ∈ L
 cl:∀ z ∈ cr,(z.1,HO.lst (z.2.map V.int)) ∈ L
variable{ds:List (Addr×List Pr)}{cr:List (Addr×List Int)}{mr:List Int}{C:Addr}
theorem LIn.mono {A:LA}{L L':Kn} (h:LIn C A ds mr cr L) (s:∀ z ∈ L,z ∈ L'):LIn C A ds mr cr L' :=
 ⟨s _ h.p,s _ h.d,fun z hz=>s _ (h.dl z hz),fun z hz x hx=>s _ (h.de z hz x hx),s _ h.m,s _ h.c,fun z hz=>s _ (h.cl z hz)⟩
inductive sp_Linit (C:Addr) (vs:List V) (H:Hp) (Q:VK) (E_:XK):Prop
 | mk (p dx y d m c:Addr) (ds:List (Addr×List Pr)) (mr:List Int) (cr:List (Addr×List Int)) (L:Kn) (_:vs=[.ref p,.ref y,.ref d,.ref m,.ref c]) (_:Has H ((p,.ins C dx [])::(dx,.own p)::L)) (_:(d,HO.lst (dsV ds)) ∈ L) (_:(∀ z ∈ ds,(z.1,HO.lst (prV z.2)) ∈ L)) (_:(∀ z ∈ ds,∀ x ∈ z.2,pK2 x ∈ L)) (_:(m,HO.lst (mr.map V.int)) ∈ L) (_:(c,HO.lst (crV cr)) ∈ L) (_:(∀ z ∈ cr,(z.1,HO.lst (z.2.map V.int)) ∈ L)) (_:ds.length<=1000) (_:(∀ z ∈ ds,z.2.length<=500)) (_:∀ H' A N,A.p=p->A.y=y->A.d=d->A.m=m->A.c=c->(A.p,HO.ins C A.dx (lfl A)) ∈ N->(∃ kvs,(A.r,HO.dT kvs) ∈ N/\∀ k ∈ kvs.map (·.1),∃ z ∈ ds,∃ x ∈ z.2,k=kE x.2.1 x.2.2)->Has H' (N++L)->Q .non H'):sp_Linit C vs H Q E_
inductive sp_door (C:Addr) (vs:List V) (H:Hp) (Q:VK) (E_:XK):Prop
 | mk (A:LA) (ds:List (Addr×List Pr)) (mr:List Int) (cr:List (Addr×List Int)) (L:Kn) (k r:Nat) (z:Addr×List Pr) (x:Pr) (_:vs=[.ref A.p,.int k,.int r]) (_:(∀ z ∈ L,H z.1=some z.2)) (_:LIn C A ds mr cr L) (_:ds[k]?=some z) (_:z.2[r]?=some x) (_:Q (.ref x.1) H):sp_door C vs H Q E_
noncomputable def pB:Sp:=fun _ _ _ _=>False
section
variable {P:Program}{w:World}{K:PySem.W.Frag}{mg:Str->Option Value}{base:Heap}{t:Adr}
theorem scLd:FnScope ["self","stretch","row"] ["self","stretch","row"] (aj oA):={}
theorem iV (T:Txt K mg t):FnOk P w K mg base CX0 2 t.f_J11 t.d_J11 ["self","stretch","row"] (sp_door t.c_Laid):=by
 refine T.F_J11.ok scLd (fun vs H Q E h=>?_) (fun cdv A outer s H vs Q E hr h=>?_)
 ·obtain⟨_,_,_,_,_,_,_,_,_,rfl,_⟩:=h
  rfl
 ·obtain⟨A,ds,mr,cr,L,k,r,z,x,rfl,hL,lin,hz,hx,q⟩:=h
  have hk:k<ds.length:=(List.getElem?_eq_some_iff.mp hz).1
  have hr':r<z.2.length:=(List.getElem?_eq_some_iff.mp hx).1
  have gd:=hL _ lin.d
  have gz:=hL _ (lin.dl z (si hz))
  have gp:=hL _ lin.p
  have ed:(dsV ds)[k]?=some (.ref z.1):=by show(ds.map _)[k]?=_; rw[sx,hz]; rfl
  have ex:(prV z.2)[r]?=some (.ref x.1):=by unfold prV; rw[sx,hx]; rfl
  refine⟨_,(ae (ao (pcl (lr T) hr T.m_Jc T.F_Jc.kp (qx T) (aa (pv 1) (aa (aR aJ (by rfl) T.z_len (by rfl) (aa (aw (pv 0) rfl) ah)) ah))))
   (ae (ao (pcl (oI T) hr T.m_Jx T.F_Jx.kp (rO T) (aa (pv 2) (aa (aR aJ (by rfl) T.z_len (by rfl) (aa (aM aN (aw (pv 0) rfl) (pv 1)) ah)) ah))))
   (ai (aB (aM aN (aM aN (aw (pv 0) rfl) (pv 1) (fun _ _=>rfl)) (pv 2)))))),?_⟩
  rw[show L2.start ["self","stretch","row"] [V.ref A.p,V.int k,V.int r]=([some (V.ref A.p),some (V.int k),some (V.int r)]:St) from rfl]
  refine⟨_,U,_,U,A.p,_,A.dx,_,_,U,gp,T.cl_Laid,T.n_Laid_doors,lF _,A.d,_,U,.inl (SqL.of gd),k,_,U,by omega,(by show(k:Int)<((ds.map _).length:Nat); rw[su]; omega),?_⟩
  refine⟨_,U,_,U,A.p,_,A.dx,_,_,U,gp,T.cl_Laid,T.n_Laid_doors,lF _,_,U,A.d,_,_,_,U,U,SqL.of gd,aC ed,z.1,_,U,.inl (SqL.of gz),r,_,U,by omega,(by unfold prV; rw[su]; omega),?_⟩
  exact⟨_,U,A.p,_,A.dx,_,_,U,gp,T.cl_Laid,T.n_Laid_doors,lF _,_,U,A.d,_,_,_,U,U,SqL.of gd,aC ed,_,U,z.1,_,_,_,U,U,SqL.of gz,aC ex,q⟩
theorem scLm:FnScope ["self","mark"] ["self","mark"] (aj qY):={}
theorem oR (T:Txt K mg t):FnOk P w K mg base CX0 2 t.f_Jg t.d_Jg ["self","mark"] pB:=T.F_Jg.ok scLm (fun _ _ _ _ h=>h.elim) (fun _ _ _ _ _ _ _ _ _ h=>h.elim)
theorem scLr2:FnScope ["self","counter"] ["self","counter"] (aj qZ):={}
theorem ok_Jf (T:Txt K mg t):FnOk P w K mg base CX0 2 t.f_Jf t.d_Jf ["self","counter"] pB:=T.F_Jf.ok scLr2 (fun _ _ _ _ h=>h.elim) (fun _ _ _ _ _ _ _ _ _ h=>h.elim)
theorem scTy:FnScope ["yard","rods","entry","over","arms","rod","point","leave"] ["yard","rods"] (aj jh):={}
theorem lh (T:Txt K mg t):FnOk P w K mg base CX0 6 t.f_tally t.d_tally ["yard","rods"] pB:=T.F_tally.ok scTy (fun _ _ _ _ h=>h.elim) (fun _ _ _ _ _ _ _ _ _ h=>h.elim)
end
section
variable {P:Program}{w:World}{K:PySem.W.Frag}{mg:Str->Option Value}{base:Heap}{t:Adr}
theorem scLi:FnScope ["self","yard","doors","mark_rods","counter_rods","stretch","ends","row","end"] ["self","yard","doors","mark_rods","counter_rods"] (aj qH):={}
theorem ok_Jy (T:Txt K mg t):FnOk P w K mg base CX0 1 t.f_Jy t.d_Jy ["self","yard","doors","mark_rods","counter_rods"] (sp_Linit t.c_Laid):=by
 refine T.F_Jy.ok scLi (fun vs H Q E h=>?_) (fun cdv A outer s H vs Q E hr h=>?_)
 ·obtain⟨_,_,_,_,_,_,_,_,_,_,rfl,_⟩:=h
  rfl
 ·obtain⟨p,dx,y,d,m,c,ds,mr,cr,L,rfl,hH,md,mdl,mde,mm,mc,mcl,bd,bz,q⟩:=h
  have hu:=cD hr
  refine⟨_,(ae (aZ (pv 0) (pv 1) rfl)
   (ae (aZ (pv 0) (pv 2) rfl)
   (ae (aZ (pv 0) (pv 3) rfl)
   (ae (aZ (pv 0) (pv 4) rfl)
   (ae (aZ (pv 0) fc rfl)
   (ai (bi PassesOwn.never rfl (gQ (by rfl) T.z_enumerate (aa (pv 2) ah)) (bt rfl (ay (aq (i:=5) scLi.nd rfl (Or.inl rfl)) (ay (aq (i:=6) scLi.nd rfl (Or.inl rfl)) ba)))
    (ai (bi PassesOwn.never rfl (gQ (by rfl) T.z_enumerate (aa (pv 6) ah)) (bt rfl (ay (aq (i:=7) scLi.nd rfl (Or.inl rfl)) (ay (aq (i:=8) scLi.nd rfl (Or.inl rfl)) ba)))
      (ai (cJ hu (aw (pv 0) rfl) (pv 8) (aF (aa (pv 5) (aa (pv 7) ah))) rfl))))))))))),?_⟩
  rw[show L2.start ["self","yard","doors","mark_rods","counter_rods","stretch","ends","row","end"] [V.ref p,V.ref y,V.ref d,V.ref m,V.ref c]=([some (V.ref p),some (V.ref y),some (V.ref d),some (V.ref m),some (V.ref c),none,none,none,none]:St) from rfl]
  refine⟨_,U,_,U,p,_,dx,_,U,hH.get 0 U,T.cl_Laid,T.n_Laid_yard,(show 0<1000 by decide),?_⟩
  have h1:=hH.puti 0 U (.ins t.c_Laid dx (aX ("yard" : Str) (.ref y) ([]:List (Str×V))))
  rw[show aX ("yard" : Str) (.ref y) ([]:List (Str×V))=([("yard",.ref y)]:List (Str×V)) from by kernel_rfl] at h1 ⊢
  generalize upd H p _=H1 at h1 ⊢
  refine⟨_,U,_,U,p,_,dx,_,U,h1.get 0 U,T.cl_Laid,T.n_Laid_doors,(show 1<1000 by decide),?_⟩
  have h2:=h1.puti 0 U (.ins t.c_Laid dx (aX ("doors" : Str) (.ref d) ([("yard",.ref y)]:List (Str×V))))
  rw[show aX ("doors" : Str) (.ref d) ([("yard",.ref y)]:List (Str×V))=([("yard",.ref y),("doors",.ref d)]:List (Str×V)) from by kernel_rfl] at h2 ⊢
  generalize upd H1 p _=H2 at h2 ⊢
  refine⟨_,U,_,U,p,_,dx,_,U,h2.get 0 U,T.cl_Laid,T.n_Laid_mark_rods,(show 2<1000 by decide),?_⟩
  have h3:=h2.puti 0 U (.ins t.c_Laid dx (aX ("mark_rods" : Str) (.ref m) ([("yard",.ref y),("doors",.ref d)]:List (Str×V))))
  rw[show aX ("mark_rods" : Str) (.ref m) ([("yard",.ref y),("doors",.ref d)]:List (Str×V))=([("yard",.ref y),("doors",.ref d),("mark_rods",.ref m)]:List (Str×V)) from by kernel_rfl] at h3 ⊢
  generalize upd H2 p _=H3 at h3 ⊢
  refine⟨_,U,_,U,p,_,dx,_,U,h3.get 0 U,T.cl_Laid,T.n_Laid_counter_rods,(show 3<1000 by decide),?_⟩
  have h4:=h3.puti 0 U (.ins t.c_Laid dx (aX ("counter_rods" : Str) (.ref c) ([("yard",.ref y),("doors",.ref d),("mark_rods",.ref m)]:List (Str×V))))
  rw[show aX ("counter_rods" : Str) (.ref c) ([("yard",.ref y),("doors",.ref d),("mark_rods",.ref m)]:List (Str×V))=([("yard",.ref y),("doors",.ref d),("mark_rods",.ref m),("counter_rods",.ref c)]:List (Str×V)) from by kernel_rfl] at h4 ⊢
  generalize upd H3 p _=H4 at h4 ⊢
  intro r hr0
  have h5:=h4.alloc hr0 (.dT [])
  refine⟨_,U,p,_,dx,_,U,h5.get 1 U,T.cl_Laid,T.n_Laid_rows_at,(show 4<1000 by decide),?_⟩
  have h6:=h5.puti 1 U (.ins t.c_Laid dx (aX ("rows_at" : Str) (.ref r) ([("yard",.ref y),("doors",.ref d),("mark_rods",.ref m),("counter_rods",.ref c)]:List (Str×V))))
  rw[show aX ("rows_at" : Str) (.ref r) ([("yard",.ref y),("doors",.ref d),("mark_rods",.ref m),("counter_rods",.ref c)]:List (Str×V))=lfl ⟨p,dx,y,d,m,c,r⟩ from by kernel_rfl] at h6 ⊢
  generalize upd (upd H4 r _) p _=H6 at h6 ⊢
  obtain⟨B,eB⟩:∃ B:LA,(⟨p,dx,y,d,m,c,r⟩:LA)=B:=⟨_,U⟩
  obtain rfl:B.p=p:=by rw[<- eB]
  obtain rfl:B.dx=dx:=by rw[<- eB]
  obtain rfl:B.y=y:=by rw[<- eB]
  obtain rfl:B.d=d:=by rw[<- eB]
  obtain rfl:B.m=m:=by rw[<- eB]
  obtain rfl:B.c=c:=by rw[<- eB]
  obtain rfl:B.r=r:=by rw[<- eB]
  rw[eB] at h6
  clear hH h1 h2 h3 h4 h5 eB
  have h7:Has H6 ((B.r,.dT [])::(B.p,.ins t.c_Laid B.dx (lfl B))::(B.dx,.own B.p)::([]++L)):=h6
  have hsub:∀ {N:Kn}{c1 c2 c3 z:Addr×HO},z ∈ L->z ∈ c1::c2::c3::(N++L):=fun h=>r9 _ (r9 _ (r9 _ (se _ h)))
  have ld:(dsV ds).length=ds.length:=su ..
  refine⟨_,U,B.d,U,⟨_,SqL.of (h7.at_ _ (hsub md))⟩,fI (xs:=dsV ds) (fun i σ H'=>∃ (kvs:List (List Key×V)) (Nw:Kn) (o1 o2 o3 o4:Option V),σ=[some (.ref B.p),some (.ref B.y),some (.ref B.d),some (.ref B.m),some (.ref B.c),o1,o2,o3,o4] /\
   Has H' ((B.r,.dT kvs)::(B.p,.ins t.c_Laid B.dx (lfl B))::(B.dx,.own B.p)::(Nw++L))/\kvs.length<=500*i/\∀ k ∈ kvs.map (·.1),∃ z ∈ ds,∃ x ∈ z.2,k=kE x.2.1 x.2.2) ⟨[],[],_,_,_,_,U,h7,Nat.zero_le _,(fun _ h=>nomatch h)⟩ (fun i σ H' _ ⟨kvs,Nw,_,_,_,_,_,h8,_,_⟩=>SqL.of (h8.at_ _ (hsub md))) ?_ ?_⟩
  ·rintro i x σ H1 tp hx ⟨kvs,Nw,o1,o2,o3,o4,rfl,h8,bk,kk⟩ htp
   have hx:(ds.map fun z=>V.ref z.1)[i]?=some x:=hx
   rw[sx] at hx
   obtain⟨z,hz,rfl⟩:=Option.map_eq_some_iff.mp hx
   have hzm:=si hz
   have hi:i<ds.length:=(List.getElem?_eq_some_iff.mp hz).1
   have h9:=h8.alloc htp (.tup [.int i,.ref z.1])
   refine⟨tp,_,U,SqT.of (h9.get 0 U),U,_,_,U,_,_,U,U,?_⟩
   dsimp only[List.set]
   have h10:=h9.tail
   have lz:(prV z.2).length=z.2.length:=by unfold prV; rw[su]
   refine⟨_,U,z.1,U,⟨_,SqL.of (h10.at_ _ (hsub (mdl z hzm)))⟩,fI (xs:=prV z.2) (fun j σ H'=>∃ (kvs:List (List Key×V)) (Nw:Kn) (o3 o4:Option V),σ=[some (.ref B.p),some (.ref B.y),some (.ref B.d),some (.ref B.m),some (.ref B.c),some (.int i),some (.ref z.1),o3,o4] /\
    Has H' ((B.r,.dT kvs)::(B.p,.ins t.c_Laid B.dx (lfl B))::(B.dx,.own B.p)::(Nw++L))/\kvs.length<=500*i+j/\∀ k ∈ kvs.map (·.1),∃ z ∈ ds,∃ x ∈ z.2,k=kE x.2.1 x.2.2) ⟨kvs,Nw,_,_,U,h10,bk,kk⟩ (fun j σ H' _ ⟨kvs,Nw,_,_,_,h8,_,_⟩=>SqL.of (h8.at_ _ (hsub (mdl z hzm)))) ?_ ?_⟩
   ·clear h8 h9 h10 bk kk
    rintro j x σ H2 tp2 hx ⟨kvs,Nw,o3,o4,rfl,h8,bk,kk⟩ htp2
    unfold prV at hx
    rw[sx] at hx
    obtain⟨e,he,rfl⟩:=Option.map_eq_some_iff.mp hx
    have hj:j<z.2.length:=(List.getElem?_eq_some_iff.mp he).1
    have h9:=h8.alloc htp2 (.tup [.int j,.ref e.1])
    refine⟨tp2,_,U,SqT.of (h9.get 0 U),U,_,_,U,_,_,U,U,?_⟩
    dsimp only[List.set]
    have h10:=h9.tail
    refine⟨_,U,_,U,(show 2<=sizeLine by decide),fun a ha=>?_⟩
    have h11:=h10.alloc ha (.tup [.int i,.int j])
    have ge:=h11.at_ _ (r9 _ (hsub (mde z hzm e (si he))))
    have bz':=bz z hzm
    refine⟨_,U,B.p,_,B.dx,_,_,U,h11.get 2 U,T.cl_Laid,T.n_Laid_rows_at,oT _,_,U,B.r,_,U,DPut.t (k:=kE e.2.1 e.2.2) (h11.get 1 U) ge (sizeOk (by omega)),?_⟩
    have h12:=h11.puti 1 U (.dT (aG kvs (kE e.2.1 e.2.2) (.ref a)))
    refine⟨aG kvs (kE e.2.1 e.2.2) (.ref a),(a,.tup [.int i,.int j])::Nw,_,_,U,?_,by have:=bf kvs (kE e.2.1 e.2.2) (.ref a); omega,fun k hk=>(jN hk).elim (kk k) fun h=>⟨z,hzm,e,si he,h⟩⟩
    refine Has.ac h12 ?_
    simp only[List.set_cons_succ,List.set_cons_zero,List.cons_append,Ms.app,Ms.cons]
    ac_rfl
   ·rintro σ H2 ⟨kvs,Nw,o3,o4,rfl,h8,bk,kk⟩
    have:=bz z hzm
    exact⟨kvs,Nw,_,_,_,_,U,h8,by omega,kk⟩
  ·rintro σ H1 ⟨kvs,Nw,o1,o2,o3,o4,rfl,h8,bk,kk⟩
   exact q _ B ((B.r,.dT kvs)::(B.p,.ins t.c_Laid B.dx (lfl B))::(B.dx,.own B.p)::Nw) rfl rfl rfl rfl rfl (r9 _ sg) ⟨kvs,sg,kk⟩ h8
end
noncomputable def Rw.dc (cr:List (Addr×List Int)):Rw->Nat
 | .bell _=>1
 | .call _=>0
 | .fin=>0
noncomputable def Rw.outs:Rw->Nat
 | .bell _=>1
 | .call _=>0
 | .fin=>0
noncomputable def Rw.deedy:Rw->Bool
 | .call _=>false
 | .fin=>false
 | _=>true
structure ROk (mr:List Int) (cr:List (Addr×List Int)) (n:Nat):Prop where
 m:∀ r ∈ mr,0<=r/\r<n
 c:∀ z ∈ cr,∀ r ∈ z.2,0<=r/\r<n
 n:∀ z ∈ cr,z.2≠[]/\z.2.length<=8
theorem ROk.up {y y':YR} (h:ROk mr cr y.sides.length) (u:Up y y'):ROk mr cr y'.sides.length :=
 ⟨fun r hr=>⟨(h.m r hr).1,by have:=(h.m r hr).2; have:=u.sl; omega⟩,fun z hz r hr=>⟨(h.c z hz r hr).1,by have:=(h.c z hz r hr).2; have:=u.sl; omega⟩,h.n⟩
noncomputable def DD (y:YR) (L:Kn) (mr:List Int) (cr:List (Addr×List Int)) (x:Int×Int):Rw->List (Int×Int)->Prop
 | .bell n,o=>∃ b:Int,Mt y L x (b,0)/\Kp y b .bell/\au y.notes (Sum.inl b)=some (.int n)/\o=[(b,1)]
 | .call _,_=>True
 | .fin,_=>True
theorem DD.up {y y':YR}{L L':Kn}{x:Int×Int}{w:Rw}{o:List (Int×Int)} (h:DD y L mr cr x w o) (u:Up y y') (s:∀ v ∈ L,v ∈ L'):DD y' L' mr cr x w o:=by
 cases w with
 | bell n=>obtain⟨b,h1,h2,h3,h4⟩:=h; exact⟨b,h1.up u s,h2.up u,u.n _ _ h3,h4⟩
 | call _=>exact h
 | fin=>exact h
theorem jX {y:YR}{N M R:Nat} (h:Ld y N M R) (note:Int) (rod:V):au (bE y .bell note rod).notes (Sum.inl (N:Int))=some (.int note):=by
 show au (if Kd.bell=Kd.bell then aG y.notes (Sum.inl y.next) (.int note) else y.notes) _=_
 rw[if_pos rfl,aD,if_pos (by rw[h.nx])]
inductive sp_deed (Cy Cl:Addr) (vs:List V) (H:Hp) (Q:VK) (E_:XK):Prop
 | mk (p:Addr) (y:YR) (L:Kn) (A:LA) (ds:List (Addr×List Pr)) (mr:List Int) (cr:List (Addr×List Int)) (a:Addr) (x:Rw) (out:Pr) (N M R nr k ns:Nat) (G:List (Int×Int)) (_:vs=[.ref A.p,.ref a,.ref out.1]) (_:A.y=p) (_:YIn Cy H p y L) (_:LIn Cl A ds mr cr L) (_:(a,HO.tup x.v) ∈ L) (_:pK2 out ∈ L) (_:Ld y N M R) (_:Al y (out.2::G)) (_:x.ok mr.length cr.length nr k ns) (_:x.deedy=true) (_:ROk mr cr y.sides.length) (_:N<=6000) (_:M<=25000) (_:R<=1000) (_:∀ H' y' Nw l (zs:List Pr) N' M',Ld y' N' M' R->N'<=N+x.dc cr->M'<=M+50->Up y y'->Al y' (zs.map (·.2)++G)->zs.length=x.outs->(∀ z ∈ zs,pK2 z ∈ Nw∨z=out)->DD y' (Nw++L) mr cr out.2 x (zs.map (·.2))->YIn Cy H' p y' ((l,.lst (prV zs))::(Nw++L))->Q (.ref l) H'):sp_deed Cy Cl vs H Q E_
theorem cO {p:Addr}{y:YR}{L L':Kn} (Y:YIn C H p y L) (e:L=L'):YIn C H p y L':=e ▸ Y
theorem perm3 {α:Type}{a b c:α}{l:List α}:(a::b::c::l).Perm (c::a::b::l):=(List.Perm.cons a (.swap c b l)).trans (.swap c a _)
section
variable {P:Program}{w:World}{K:PySem.W.Frag}{mg:Str->Option Value}{base:Heap}{t:Adr}
theorem scDd:FnScope ["laid","row","out","yard","word","bell","point","into","done","around"] ["laid","row","out"] (aj oj):={}
theorem p8 (T:Txt K mg t):FnOk P w K mg base CX0 7 t.f_J81 t.d_J81 ["laid","row","out"] (sp_deed t.c_Yard t.c_Laid):=by
 obtain⟨ds_l2,hd_Jb1_2,hb_Jb1_2⟩:=cc T
 obtain⟨ds_l3,hd_Jb1_3,hb_Jb1_3⟩:=l5 T
 obtain⟨g_lay,bJ⟩:=bJ T
 refine T.F_J81.ok scDd (fun vs H Q E h=>?_) (fun cdv A outer s H vs Q E hr h=>?_)
 ·obtain⟨_,_,_,_,_,_,_,_,_,_,_,_,_,_,_,_,_,rfl,_⟩:=h
  rfl
 ·obtain⟨p,y,L,B,ds,mr,cr,a,x,out,N,M,R,nr,k,ns,G,rfl,eY,Y,lin,mx,mo,D,al,xok,xd,rok,bN,bM,bR,q⟩:=h
  refine⟨_,(ae (aH (i:=3) scDd.nd rfl (Or.inl rfl) (aw (pv 0) rfl))
   (ae (aH (i:=4) scDd.nd rfl (Or.inl rfl) (aM aY (pv 1) am))
   (ae (aI (ap br (pv 4) aL (ar _))
    (ae (aH (i:=5) scDd.nd rfl (Or.inl rfl) (ax (pv 3) T.cl_Yard T.M_Jb1 (ci T) hr hb_Jb1_3 hd_Jb1_3 az (aa aL (aa (aM aY (pv 1) am) ah))))
     (ae (ao (ax (pv 3) T.cl_Yard T.M_J21 (bS T) hr (cQ T) .nil az (@aa _ _ _ _ _ (pv 2) (@aa _ _ _ _ _ (aF (aa (pv 5) (aa am ah))) ah (by rfl)) (by rfl))))
     (ai (aB (aU (@aa _ _ _ _ _ (aF (aa (pv 5) (aa am ah))) ah (by rfl)))))))
    av)
   (ae (aI (ap br (pv 4) aL (ar _))
    (ae (aH (i:=6) scDd.nd rfl (Or.inl rfl) (iq (pv 3) T.cl_Yard T.M_Jb1 (ci T) (hr.mono (by decide)) bJ az (aa aL ah) (jn (ax (pv 0) T.cl_Laid T.M_Jg (oR T) hr (rW T) .nil az (aa (aM aY (pv 1) am) ah)) kW)))
     (ae (ao (ax (pv 3) T.cl_Yard T.M_J21 (bS T) hr (cQ T) .nil az (@aa _ _ _ _ _ (pv 2) (@aa _ _ _ _ _ (aF (aa (pv 6) (aa (aM aY (pv 1) am) ah))) ah (by rfl)) (by rfl))))
     (ai (aB (aU (@aa _ _ _ _ _ (aF (aa (pv 6) (aa am ah))) ah (by rfl)))))))
    av)
   (ae (aI (ap br (pv 4) aL (ar _))
    (ae (aH (i:=6) scDd.nd rfl (Or.inl rfl) (iq (pv 3) T.cl_Yard T.M_Jb1 (ci T) (hr.mono (by decide)) bJ az (aa aL ah) (jn (ax (pv 0) T.cl_Laid T.M_Jg (oR T) hr (rW T) .nil az (aa (aM aY (pv 1) am) ah)) kW)))
     (ae (ao (ax (pv 3) T.cl_Yard T.M_J21 (bS T) hr (cQ T) .nil az (@aa _ _ _ _ _ (pv 2) (@aa _ _ _ _ _ (aF (aa (pv 6) (aa am ah))) ah (by rfl)) (by rfl))))
     (ai (aB (aU (@aa _ _ _ _ _ (aF (aa (pv 6) (aa am ah))) (@aa _ _ _ _ _ (aF (aa (pv 6) (aa am ah))) ah (by rfl)) (by rfl)))))))
    av)
   (ae (aI (ap br (pv 4) aL (ar _))
    (ae (ce (pcl (lh T) hr T.m_tally T.F_tally.kp (nj T) (aa (pv 3) (aa (ax (pv 0) T.cl_Laid T.M_Jf (ok_Jf T) hr (b_Jf T) .nil az (aa (aM aY (pv 1) am) ah)) ah))) (bt rfl (ay (aq (i:=7) scDd.nd rfl (Or.inl rfl)) (ay (aq (i:=8) scDd.nd rfl (Or.inl rfl)) (ay (aq (i:=9) scDd.nd rfl (Or.inl rfl)) ba)))))
     (ae (ao (ax (pv 3) T.cl_Yard T.M_J21 (bS T) hr (cQ T) .nil az (aa (pv 2) (aa (pv 7) ah))))
     (ai (aB (aU (aa (pv 8) (aa (pv 9) ah)))))))
    av)
   (ai (aB (aU (aa (pv 2) ah)))))))))),?_⟩
  rw[show L2.start ["laid","row","out","yard","word","bell","point","into","done","around"] [V.ref B.p,V.ref a,V.ref out.1]=([some (V.ref B.p),some (V.ref a),some (V.ref out.1),none,none,none,none,none,none,none]:St) from rfl]
  have gB:=Y.at_ lin.p
  have ga:=Y.at_ mx
  subst eY
  refine⟨_,U,B.p,_,B.dx,_,_,U,gB,T.cl_Laid,T.n_Laid_yard,fD _,?_⟩
  dsimp only[List.set]
  refine⟨_,U,a,_,_,_,U,U,SqT.of ga,aC (j:=0) rfl,?_⟩
  dsimp only[List.set]
  have fo:Fr y out.2:=al.2 _ sg
  have gal:=al.tail
  cases x with
  | call s=>cases xd
  | fin=>cases xd
  | bell n=>
   refine⟨_,U,U,_,U,ifT (decide_eq_true rfl) ?_⟩
   obtain⟨A1,gy⟩:=Y.obj
   refine⟨_,U,B.y,A1.dx,_,U,gy,(cn _ _ _).1,_,U,a,_,_,_,U,U,SqT.of ga,aC (j:=1) rfl,?_⟩
   refine tn0 ?_
   refine cT Y D ⟨by omega,by omega,bR⟩ .bell n .non (fun _=>xok) (fun c=>nomatch c) (fun H2 Y2=>?_)
   have D2:=D.lay .bell n .non
   have al2:=al.lay2 D .bell n .non rfl
   have up2:=D.up .bell n .non
   dsimp only[List.set]
   obtain⟨A2,gy2⟩:=Y2.obj
   refine⟨_,U,B.y,A2.dx,_,U,gy2,(b7 _ _ _).2.2.1,_,U,_,U,(show 2<=sizeLine by decide),fun c0 hc0=>?_⟩
   have Y3:=Y2.alloc hc0 (.tup [.int N,.int 0])
   refine tn0 ?_
   have al3:=al2.perm (perm3 (a:=((N:Int),0)) (b:=((N:Int),1)))
   have f0:=al2.2 _ sg
   have fo2:=al3.2 _ sg
   refine cm (a:=out) (b:=(c0,(N:Int),0)) Y3 D2 (by omega) (r9 _ mo) sg fo2 f0 al3.ne (fun H4 Y4=>?_)
   have D4:=D2.link (a:=out) (b:=(c0,(N:Int),0)) fo2 f0
   have al4:=Al.link (a:=out) (b:=(c0,(N:Int),0)) al3
   have up4:=up2.trans (Up.link (a:=out) (b:=(c0,(N:Int),0)) fo2 f0)
   refine⟨_,U,(show 2<=sizeLine by decide),fun c1 hc1=>?_⟩
   have Y5:=Y4.alloc hc1 (.tup [.int N,.int 1])
   refine⟨(sz_ 1),fun l hl=>?_⟩
   exact q _ _ [(c1,.tup [.int N,.int 1]),(c0,.tup [.int N,.int 0])] l [(c1,(N:Int),1)] _ _ D4 (Nat.le_refl _) (by omega) up4 al4 rfl (fun z hz=>by rw[sy.mp hz]; exact .inl sg) ⟨N,Mt.l1 (b:=(c0,(N:Int),0)) (r9 _ sg) al3.ne,(Kp.lay D .bell n .non).up (Up.link (a:=out) (b:=(c0,(N:Int),0)) fo2 f0),jX D n .non,U⟩ (Y5.alloc hl _)
end
theorem YIn.ac {p:Addr}{y:YR}{L L':Kn} (Y:YIn C H p y L) (e:Ms.mk L=Ms.mk L'):YIn C H p y L':=Y.perm (Ms.perm e)
theorem YIn.mid {p:Addr}{y:YR}{X Y:Kn}{a:Addr}{o:HO} (h:YIn C H p y (X++(a,o)::Y)) (o':HO) (hn:∀ z:Pr,(a,o)≠pK2 z:=by intro z c; simp[pK2] at c):YIn C (upd H a o') p y (X++(a,o')::Y) :=
 ((h.perm List.perm_middle).put0 o' hn).perm List.perm_middle.symm
theorem wL_S {C:Addr}{i:Nat}{z z':Addr×List (Addr×Pr×Pr)} (h:W.S[i]?=some z) (e:z'.1=z.1):∃ X Y,wL C W=X++(z.1,HO.lst (z.2.map fun c=>V.ref c.1))::Y/\wL C { W with S:=W.S.set i z' }=X++(z.1,HO.lst (z'.2.map fun c=>V.ref c.1))::Y:=by
 obtain⟨a,b,e1,e2⟩:=spl h
 have er:(W.S.set i z').map (fun z=>V.ref z.1)=W.S.map (fun z=>V.ref z.1):=by rw[e2,e1,sw,sw,sH,sH,e]
 refine⟨w5 C W++(wD W.D++wS a),wS b++wT W.T,?_,?_⟩
 ·unfold wL
  rw[show wS W.S=wS a++(z.1,HO.lst (z.2.map fun c=>V.ref c.1))::wS b by rw[e1]; show(a++z::b).map _=_; rw[sw,sH]]
  simp only[sr,List.cons_append]
 ·unfold wL
  rw[show w5 C { W with S:=W.S.set i z' }=w5 C W by show [_,_,_,(W.ts,HO.lst ((W.S.set i z').map fun z=>V.ref z.1)),_]=_; rw[er]; rfl]
  rw[show wS (W.S.set i z')=wS a++(z.1,HO.lst (z'.2.map fun c=>V.ref c.1))::wS b by rw[e2]; show(a++z'::b).map _=_; rw[sw,sH,e]]
  simp only[sr,List.cons_append]
theorem wL_T {C:Addr}{i:Nat}{z z':Addr×List Pr} (h:W.T[i]?=some z) (e:z'.1=z.1):∃ X Y,wL C W=X++(z.1,HO.lst (prV z.2))::Y/\wL C { W with T:=W.T.set i z' }=X++(z.1,HO.lst (prV z'.2))::Y:=by
 obtain⟨a,b,e1,e2⟩:=spl h
 have er:(W.T.set i z').map (fun z=>V.ref z.1)=W.T.map (fun z=>V.ref z.1):=by rw[e2,e1,sw,sw,sH,sH,e]
 refine⟨w5 C W++(wD W.D++(wS W.S++wT a)),wT b,?_,?_⟩
 ·unfold wL
  rw[show wT W.T=wT a++(z.1,HO.lst (prV z.2))::wT b by rw[e1]; show(a++z::b).map _=_; rw[sw,sH]]
  simp only[sr]
 ·unfold wL
  rw[show w5 C { W with T:=W.T.set i z' }=w5 C W by show [_,_,_,_,(W.tc,HO.lst ((W.T.set i z').map fun z=>V.ref z.1))]=_; rw[er]; rfl]
  rw[show wT (W.T.set i z')=wT a++(z.1,HO.lst (prV z'.2))::wT b by rw[e2]; show(a++z'::b).map _=_; rw[sw,sH,e]]
  simp only[sr]
variable{L:Kn}{D':List ((Int×Int)×Addr×List Pr)}
theorem WOk.led {Pl:Int×Int->Prop}{e:Pr}{pl:Int×Int} (h:WOk W L Pl) (l:Led W.D D' e pl) (hp:Pl pl) (he:pK2 e ∈ L):WOk { W with D:=D' } L Pl:=by
 refine⟨l.kd,l.ne,fun z hz=>?_,fun z hz x hx=>?_,h.eS,h.eT⟩
 ·rcases l.pk z hz with e | e
  ·rw[e]; exact hp
  ·obtain⟨u,hu,e⟩:=sQ.mp e
   rw[<- e]; exact h.pd u hu
 ·rcases (l.io z.1 x).mp ⟨z,hz,rfl,hx⟩ with ⟨u,hu,_,hx⟩ | ⟨_,rfl⟩
  ·exact h.eD u hu x hx
  ·exact he
theorem WS.pendD (W:WS) {x:Int×Int} (h:(dE D').Perm (x::dE W.D)):(WS.pend { W with D:=D' }).Perm (x::W.pend):=List.Perm.append_right _ h
theorem WS.pendS (W:WS) {S':List (Addr×List (Addr×Pr×Pr))}{x:Int×Int} (h:(sE S').Perm (x::sE W.S)):(WS.pend { W with S:=S' }).Perm (x::W.pend):=(List.Perm.append_left _ (List.Perm.append_right _ h)).trans List.perm_middle
theorem WS.pendT (W:WS) {T':List (Addr×List Pr)}{x:Int×Int} (h:(tE T').Perm (x::tE W.T)):(WS.pend { W with T:=T' }).Perm (x::W.pend):=(List.Perm.append_left _ (List.Perm.append_left _ h)).trans ((List.Perm.append_left _ List.perm_middle).trans List.perm_middle)
noncomputable def Rw.rc (cr:List (Addr×List Int)):Rw->Nat
 | .call _=>3
 | .fin=>1
 | x=>x.dc cr+x.outs
noncomputable def WS.cN (W:WS):Nat:=W.dn+3*W.sn+W.tn
noncomputable def WS.cM (W:WS):Nat:=4*W.dn+12*W.sn+4*W.tn
theorem Mt.mv {y:YR}{L L':Kn}{x z:Int×Int} (h:Mt y L x z) (s:∀ b:Pr,pK2 b ∈ L->pK2 b ∈ L'):Mt y L' x z:=by
 obtain⟨b,h1,h2⟩:=h
 exact⟨b,h1,s (b,z) h2⟩
theorem Ch.mv {y:YR}{L L':Kn}{n:Nat}{x z:Int×Int} (h:Ch y L n x z) (s:∀ b:Pr,pK2 b ∈ L->pK2 b ∈ L'):Ch y L' n x z:=by
 induction h with
 | refl x=>exact .refl x
 | still m k ha _ ih=>exact .still (m.mv s) k ha ih
theorem Lead.mv {y:YR}{L L':Kn}{x z:Int×Int} (h:Lead y L x z) (s:∀ b:Pr,pK2 b ∈ L->pK2 b ∈ L'):Lead y L' x z:=by
 obtain⟨b,h1,n,w,h2,h3,h4⟩:=h
 exact⟨b,h1,n,w,h2,h3.mv s,h4.mv s⟩
theorem FT.mv {y:YR}{L L':Kn}{x:Int×Int}{rs:List Int} (h:FT y L x l rs) (s:∀ b:Pr,pK2 b ∈ L->pK2 b ∈ L'):FT y L' x l rs:=by
 induction h with
 | leaf x=>exact .leaf x
 | node m1 m2 k hr _ _ ih1 ih2=>exact .node (m1.mv s) (m2.mv s) k hr ih1 ih2
theorem DD.mv {y:YR}{L L':Kn}{x:Int×Int}{w:Rw}{o:List (Int×Int)} (h:DD y L mr cr x w o) (s:∀ b:Pr,pK2 b ∈ L->pK2 b ∈ L'):DD y L' mr cr x w o:=by
 cases w with
 | bell n=>obtain⟨b,h1,h2⟩:=h; exact⟨b,h1.mv s,h2⟩
 | call _=>exact h
 | fin=>exact h
theorem ky (C:Addr) (W:WS) (b:Pr):pK2 b ∉ wL C W:=by
 unfold wL
 intro h
 rcases sC.mp h with h | h
 ·simp at h
 rcases sC.mp h with h | h
 ·obtain⟨z,_,e⟩:=sQ.mp h
  injection e with _ e
  cases e
 rcases sC.mp h with h | h
 ·obtain⟨z,_,e⟩:=sQ.mp h
  injection e with _ e
  cases e
 ·obtain⟨z,_,e⟩:=sQ.mp h
  injection e with _ e
  cases e
theorem ju {Cy Cw:Addr}{p:Addr}{y:YR}{Q:V->Hp->Prop}{e:Pr}{b wp:Addr}{pl:Int×Int} (ew:W.p=wp) (Y:YIn Cy H p y (wL Cw W++L)) (mb:pK2 (b,pl) ∈ L) (kd:(W.D.map (·.1)).Nodup) (ne:∀ z ∈ W.D,z.2.2≠[]) (bd:W.dn<=5000)
  (q:∀ H' D',Led W.D D' e pl->YIn Cy H' p y (wL Cw { W with D:=D' }++L)->Q .non H'):sp_lead Cw [.ref wp,.ref e.1,.ref b] H Q E0:=by
 subst ew
 obtain⟨A,rfl,h,re⟩:=Y.re
 have ac:∀ {a b c:Kn},Ms.mk (a++(b++c))=Ms.mk (b++(a++c)):=fun {a b c}=>by
  simp only[Ms.app]
  ac_rfl
 exact⟨W,yL Cy A y++L,e,b,pl,U,Has.ac h ac,se _ mb,kd,ne,bd,fun H' D' ld h'=>q H' D' ld (re rfl (fun z hz=>(sC.mp hz).elim (fun c=>absurd c (ky _ _ z)) fun c=>se _ c) (Has.ac h' ac))⟩
noncomputable def inS (W:WS) (s:Nat) (o:Int×Int) (b:Int×Int):Prop:=∃ z,W.S[s]?=some z/\∃ c ∈ z.2,c.2.1.2=o/\c.2.2.2=b
noncomputable def inT (W:WS) (s:Nat) (o:Int×Int):Prop:=∃ z,W.T[s]?=some z/\∃ c ∈ z.2,c.2=o
noncomputable def S0 (W:WS):Prop:=∀ z,W.S[0]?=some z->z.2=[]
structure Wup (W W':WS):Prop where
 d:∀ q x,inD W.D q x->inD W'.D q x
 s:∀ s o b,inS W s o b->inS W' s o b
 t:∀ s o,inT W s o->inT W' s o
 z:S0 W->S0 W'
theorem Wup.refl (W:WS):Wup W W:=⟨fun _ _ h=>h,fun _ _ _ h=>h,fun _ _ h=>h,id⟩
theorem Wup.trans {A B C:WS} (h:Wup A B) (g:Wup B C):Wup A C:=⟨fun q x i=>g.d q x (h.d q x i),fun s o b i=>g.s s o b (h.s s o b i),fun s o i=>g.t s o (h.t s o i),fun i=>g.z (h.z i)⟩
noncomputable def RowW (y:YR) (L:Kn) (mr:List Int) (cr:List (Addr×List Int)) (W:WS) (k r:Nat) (o:Int×Int):Rw->Prop
 | .call s=>inS W s.toNat o ((k:Int),(r:Int)+1)
 | .fin=>inT W k o
 | x=>∃ zs:List Pr,DD y L mr cr o x (zs.map (·.2))/\∀ (j:Nat) (z:Pr) (pl:Int×Int),zs[j]?=some z->(x.onw k r)[j]?=some pl->inD W.D pl z
theorem RowW.of {y:YR}{W:WS}{k r:Nat}{o:Int×Int}{x:Rw} (hd:x.deedy=true) (zs:List Pr) (h:DD y L mr cr o x (zs.map (·.2))) (g:∀ (j:Nat) (z:Pr) (pl:Int×Int),zs[j]?=some z->(x.onw k r)[j]?=some pl->inD W.D pl z):RowW y L mr cr W k r o x:=by
 cases x <;> first | exact⟨zs,h,g⟩ | cases hd
theorem RowW.up {y y':YR}{L L':Kn}{W W':WS}{k r:Nat}{o:Int×Int}{x:Rw} (h:RowW y L mr cr W k r o x) (u:Up y y') (s:∀ b:Pr,pK2 b ∈ L->pK2 b ∈ L') (w:Wup W W'):RowW y' L' mr cr W' k r o x:=by
 cases x with
 | call c=>exact w.s _ _ _ h
 | fin=>exact w.t _ _ h
 | bell n=>obtain⟨zs,h1,h2⟩:=h; exact⟨zs,(h1.up u (fun _ h=>h)).mv s,fun j z pl a b=>w.d _ _ (h2 j z pl a b)⟩
inductive sp_layrow (Cy Cl Cw:Addr) (vs:List V) (H:Hp) (Q:VK) (E_:XK):Prop
 | mk (p:Addr) (y:YR) (L:Kn) (A:LA) (ds:List (Addr×List Pr)) (mr:List Int) (cr:List (Addr×List Int)) (W:WS) (a:Addr) (x:Rw) (k r:Nat) (z:Addr×List Pr) (e:Pr) (N M R nr:Nat) (G:List (Int×Int)) (Pl:Int×Int->Prop) (_:vs=[.ref A.p,.ref W.p,.ref a,.int k,.int r]) (_:A.y=p) (_:YIn Cy H p y (wL Cw W++L)) (_:LIn Cl A ds mr cr L) (_:(a,HO.tup x.v) ∈ L) (_:ds[k]?=some z) (_:z.2[r]?=some e) (_:Ld y N M R) (_:Al y (W.pend++((e.2.1,1)::G))) (_:x.ok mr.length cr.length nr k W.S.length) (_:ROk mr cr y.sides.length) (_:WOk W L Pl) (_:k<W.T.length) (_:(∀ q ∈ x.onw k r,Pl q)) (_:N+W.cN<=4900) (_:M+W.cM<=20000) (_:R<=1000) (_:∀ H' y' Nw W' N' M',W'.p=W.p->W'.S.length=W.S.length->W'.T.length=W.T.length->Ld y' N' M' R->N'+W'.cN<=N+W.cN+x.rc cr->M'+W'.cM<=M+W.cM+60->Up y y'->Al y' (W'.pend++G)->WOk W' (Nw++L) Pl->Wup W W'->RowW y' (Nw++L) mr cr W' k r (e.2.1,1) x->YIn Cy H' p y' (wL Cw W'++(Nw++L))->Q .non H'):sp_layrow Cy Cl Cw vs H Q E_
variable{K:PySem.W.Frag}
theorem iE {a b:Addr}{xs ys:List V}{g:TG}{tb:TS}{D:Ends}{σ:St} (hl:xs.length=ys.length) (Pv:Nat->St->Hp->Prop) (h0:Pv 0 σ H) (ha:∀ i σ H,i<=xs.length->Pv i σ H->SqL K H a xs/\SqL K H b ys)
  (hs:∀ i x y σ H p,xs[i]?=some x->ys[i]?=some y->Pv i σ H->H p=none->g (.ref p) σ (upd H p (.tup [x,y])) fun σ2 H2=>tb { D with nx:=Pv (i+1),ct:=Pv (i+1),bk:=D.nx } σ2 H2) (hd:∀ σ H,Pv xs.length σ H->D.nx σ H) :
  ∃ W:Nat->Nat->St->Hp->Prop,(∃ m,W 0 m σ H)/\∀ i m σ H,W i m σ H ->
   ((Itz K a b).stop i H/\D.nx σ H)∨((Itz K a b).go i H/\∃ N:St->Hp->Prop,(∀ σ' H',N σ' H'->∃ m',m'<m/\W (i+1) m' σ' H')/\∀ x H',(Itz K a b).yld i H x H'->g x σ H' fun σ2 H2=>tb { D with nx:=N,ct:=N,bk:=D.nx } σ2 H2):=by
 refine⟨fun i m σ H=>m=xs.length - i/\i<=xs.length/\Pv i σ H,⟨_,U,Nat.zero_le _,h0⟩,?_⟩
 rintro i m σ H ⟨rfl,hi,hp⟩
 obtain⟨qa,qb⟩:=ha i σ H hi hp
 by_cases c:i<xs.length
 ·refine .inr ⟨⟨xs,xs[i],ys,ys[i]'(by omega),qa,sq c,qb,sq (by omega)⟩,Pv (i+1),fun σ' H' h'=>⟨_,by omega,U,by omega,h'⟩,?_⟩
  rintro v H' ⟨p,x,y,rfl,hpn,rfl,hx,hy⟩
  exact hs i x y σ H p (hx _ qa) (hy _ qb) hp hpn
 ·have e:i=xs.length:=by omega
  subst e
  exact .inl ⟨⟨xs,ys,qa,qb,.inl (Nat.le_refl _)⟩,hd σ H hp⟩
theorem Rw.outs_onw {x:Rw} (h:x.deedy=true) (k n:Int):(x.onw k n).length=x.outs:=by cases x <;> first | rfl | cases h
theorem Rw.nce:∀ {x:Rw},x.deedy=true->¬ (V.str x.ws=V.str ("call" : Str))/\¬ (V.str x.ws=V.str ("end" : Str))
 | .bell _,_=>⟨(show ¬ (V.str ("bell" : Str)=V.str ("call" : Str)) by decide +kernel),(show ¬ (V.str ("bell" : Str)=V.str ("end" : Str)) by decide +kernel)⟩
section
variable {P:Program}{w:World}{K:PySem.W.Frag}{mg:Str->Option Value}{base:Heap}{t:Adr}
theorem scLw:FnScope ["laid","ways","row","stretch","number","out","end","place"] ["laid","ways","row","stretch","number"] (aj nZ):={}
theorem pZ (T:Txt K mg t):FnOk P w K mg base CX0 8 t.f_Jf1 t.d_Jf1 ["laid","ways","row","stretch","number"] (sp_layrow t.c_Yard t.c_Laid t.c_Ways):=by
 refine T.F_Jf1.ok scLw (fun vs H Q E h=>?_) (fun cdv A outer s H vs Q E hr h=>?_)
 ·obtain⟨_,_,_,_,_,_,_,_,_,_,_,_,_,_,_,_,_,_,_,_,rfl,_⟩:=h
  rfl
 ·obtain⟨p,y,L,B,ds,mr,cr,W,a,x,k,r,z,e,N,M,R,nr,G,Pl,rfl,eY,Y,lin,mx,hz,he,D,al,xok,rok,wok,hk,hpl,bN,bM,bR,q⟩:=h
  refine⟨_,(ae (aH (i:=5) scLw.nd rfl (Or.inl rfl) (aF (aa (aM aY (ax (pv 0) T.cl_Laid T.M_J11 (iV T) hr (l3 T) .nil az (aa (pv 3) (aa (pv 4) ah))) am) (aa am ah))))
   (ai (aI (ap br (aM aY (pv 2) am) aL (ar _))
    (ai (ao (bL PySem.F.plainAttrs_list PySem.F.slot_list_append PySem.F.type_list_append aV (aM aN (aw (pv 1) rfl) (aM aY (pv 2) am (fun _ _=>rfl))) (@aa _ _ _ _ _ (aF (@aa _ _ _ _ _ (pv 5) (@aa _ _ _ _ _ (aF (aa (pv 3) (aa (aQ bA (pv 4) am) ah))) ah (by rfl)) (by rfl))) ah (by rfl)))))
    (ai (aI (ap br (aM aY (pv 2) am) aL (ar _))
      (ai (ao (bL PySem.F.plainAttrs_list PySem.F.slot_list_append PySem.F.type_list_append aV (aM aN (aw (pv 1) rfl) (pv 3)) (aa (pv 5) ah))))
      (ai (bi PassesOwn.never rfl (iT (by rfl) T.z_zip (aa (pcl (p8 T) hr T.m_J81 T.F_J81.kp (b_J81 T) (aa (pv 0) (aa (pv 2) (aa (pv 5) ah)))) (aa (pcl (pW T) hr T.m_Ji1 T.F_Ji1.kp (b_Ji1 T) (aa (pv 2) (aa (pv 3) (aa (pv 4) ah)))) ah))) (bt rfl (ay (aq (i:=6) scLw.nd rfl (Or.inl rfl)) (ay (aq (i:=7) scLw.nd rfl (Or.inl rfl)) ba)))
        (ai (ao (ax (pv 1) T.cl_Ways T.M_J31 (lx T) hr (oW T) .nil az (aa (pv 6) (aa (pv 7) ah)))))))))))),?_⟩
  rw[show L2.start ["laid","ways","row","stretch","number","out","end","place"] [V.ref B.p,V.ref W.p,V.ref a,V.int k,V.int r]=([some (V.ref B.p),some (V.ref W.p),some (V.ref a),some (V.int k),some (V.int r),none,none,none]:St) from rfl]
  have inL:∀ {v:Addr×HO},v ∈ L->v ∈ wL t.c_Ways W++L:=fun h=>se _ h
  have gB:=Y.at_ (inL lin.p)
  have hzm:=si hz
  have ge:=Y.at_ (inL (lin.de z hzm e (si he)))
  refine⟨_,U,B.p,B.dx,_,U,gB,(lE _).1,_,U,_,U,?_⟩
  refine tn0 ?_
  refine⟨B,ds,mr,cr,L,k,r,z,e,U,fun v hv=>Y.at_ (inL hv),lin,hz,he,?_⟩
  refine⟨e.1,_,_,_,U,U,SqT.of ge,aC (j:=0) rfl,(show 2<=sizeLine by decide),fun o ho=>?_⟩
  dsimp only[List.set]
  have Y1:=(Y.alloc ho (.tup [.int e.2.1,.int 1])).perm (List.perm_middle (l₁:=wL t.c_Ways W) (l₂:=L)).symm
  have ga:=Y1.at_ (se _ (r9 _ mx))
  have gw:H W.p=some (.ins t.c_Ways W.dx (wfl W)):=Y.at_ (z:=(W.p,.ins t.c_Ways W.dx (wfl W))) (sk _ sg)
  have gW:=Y1.at_ (z:=(W.p,.ins t.c_Ways W.dx (wfl W))) (sk _ sg)
  have lin1:=lin.mono (fun v hv=>r9 (o,HO.tup [.int e.2.1,.int 1]) hv)
  have wok1:=wok.mono (fun v hv=>r9 (o,HO.tup [.int e.2.1,.int 1]) hv)
  generalize upd H o _=H1 at Y1 ga gW ⊢
  have wp:Al y ((e.2.1,1)::(W.pend++G)):=al.perm List.perm_middle
  refine⟨_,U,a,_,_,_,U,U,SqT.of ga,aC (j:=0) rfl,U,_,U,?_⟩
  by_cases hd:x.deedy=true
  ·obtain⟨hc,hf⟩:=Rw.nce hd
   refine ifF (decide_eq_false hc) ?_
   refine⟨_,U,a,_,_,_,U,U,SqT.of ga,aC (j:=0) rfl,U,_,U,ifF (decide_eq_false hf) ?_⟩
   refine⟨_,U,_,U,_,U,?_⟩
   refine tn0 ?_
   refine⟨p,y,_,B,ds,mr,cr,a,x,(o,e.2.1,1),N,M,R,nr,k,W.S.length,W.pend++G,U,eY,Y1,lin1.mono (fun v hv=>se _ hv),se _ (r9 _ mx),se _ sg,D,wp,xok,hd,rok,by omega,by omega,bR,fun H2 y2 N2 l zs N' M' D2 bN2 bM2 up2 al2 lz mz dd2 Y2=>?_⟩
   have gr:(a,HO.tup x.v) ∈ (l,HO.lst (prV zs))::(N2++(wL t.c_Ways W++(o,HO.tup [.int e.2.1,.int 1])::L)):=r9 _ (se _ (se _ (r9 _ mx)))
   refine⟨_,U,_,U,_,U,?_⟩
   refine tn0 ?_
   obtain⟨A2,eA2,h2,re2⟩:=Y2.rac
   refine⟨a,x,k,r,_,U,h2,se _ gr,fun H3 l2 ps eps h3=>?_⟩
   refine tn0 ?_
   subst eA2
   obtain⟨L3,eL3⟩:∃ L3:Kn,(l2,HO.lst (prV ps))::(l,HO.lst (prV zs))::(PrK ps++(N2++((o,HO.tup [.int e.2.1,.int 1])::L)))=L3:=⟨_,U⟩
   have Y3:YIn t.c_Yard H3 A2.p y2 (wL t.c_Ways W++L3):=by
    refine re2 (X:=(l2,HO.lst (prV ps))::PrK ps) h3 (Ms.perm ?_)
    rw[<- eL3]
    simp only[Ms.app,Ms.cons]
    ac_rfl
   clear h2 h3
   have dd3:DD y2 L3 mr cr (e.2.1,1) x (zs.map (·.2)):=dd2.mv fun b hb=>by
    rw[<- eL3]
    rcases sC.mp hb with h | h
    ·exact r9 _ (r9 _ (se _ (sk _ h)))
    ·rcases sC.mp h with h | h
     ·exact absurd h (ky _ _ b)
     ·exact r9 _ (r9 _ (se _ (se _ h)))
   have toL3:∀ v ∈ L,v ∈ L3:=fun v hv=>by rw[<- eL3]; exact r9 _ (r9 _ (se _ (se _ (r9 _ hv))))
   have ml2:(l2,HO.lst (prV ps)) ∈ L3:=by rw[<- eL3]; exact sg
   have ml:(l,HO.lst (prV zs)) ∈ L3:=by rw[<- eL3]; exact r9 _ sg
   have mps:∀ v ∈ ps,pK2 v ∈ L3:=fun v hv=>by rw[<- eL3]; exact r9 _ (r9 _ (sk _ (sF (f:=fun z:Pr=>(z.1,HO.tup [.int z.2.1,.int z.2.2])) hv)))
   have mzs:∀ v ∈ zs,pK2 v ∈ L3:=fun v hv=>by
    rw[<- eL3]
    rcases mz v hv with h | rfl
    ·exact r9 _ (r9 _ (se _ (sk _ h)))
    ·exact r9 _ (r9 _ (se _ (se _ sg)))
   have lps:ps.length=zs.length:=by rw[lz,<- Rw.outs_onw hd (k:Int) (r:Int),<- eps,su]
   have lpv:∀ l:List Pr,(prV l).length=l.length:=fun l=>by unfold prV; rw[su]
   have o2:x.outs<=2:=by cases x <;> simp only[Rw.outs] <;> decide
   refine⟨l,l2,U,⟨_,SqL.of (Y3.at_ (se _ ml))⟩,⟨_,SqL.of (Y3.at_ (se _ ml2))⟩,iE (xs:=prV zs) (ys:=prV ps) (by rw[lpv,lpv,lps]) (fun j σ H'=>∃ (W':WS) (u1 u2:Option V),σ=[some (.ref B.p),some (.ref W.p),some (.ref a),some (.int k),some (.int r),some (.ref o),u1,u2]/\W'.p=W.p/\W'.S=W.S/\W'.T=W.T /\
    YIn t.c_Yard H' A2.p y2 (wL t.c_Ways W'++L3)/\WOk W' L3 Pl/\W'.dn=W.dn+j/\Al y2 (W'.pend++((zs.drop j).map (·.2)++G))/\Wup W W'/\∀ (i:Nat) (z:Pr) (pl:Int×Int),i<j->zs[i]?=some z->(x.onw k r)[i]?=some pl->inD W'.D pl z) ⟨W,_,_,U,U,U,U,Y3,wok.mono toL3,U,?_,Wup.refl _,fun i z pl h=>absurd h (Nat.not_lt_zero _)⟩ (fun j σ H' _ ⟨W',u1,u2,_,_,_,_,Y',_⟩=>⟨SqL.of (Y'.at_ (se _ ml)),SqL.of (Y'.at_ (se _ ml2))⟩) ?_ ?_⟩
   ·refine al2.perm ?_
    rw[<- sr,<- sr]
    exact List.Perm.append_right _ List.perm_append_comm
   ·rintro j v1 v2 σ H4 tp hv1 hv2 ⟨W',u1,u2,rfl,e1,e2,e3,Y4,wok4,dn4,al4,wu4,io4⟩ htp
    unfold prV at hv1 hv2
    rw[sx] at hv1 hv2
    obtain⟨d,hd1,rfl⟩:=Option.map_eq_some_iff.mp hv1
    obtain⟨pl,hp1,rfl⟩:=Option.map_eq_some_iff.mp hv2
    have hj:j<zs.length:=(List.getElem?_eq_some_iff.mp hd1).1
    have Y5:=Y4.alloc htp (.tup [.ref d.1,.ref pl.1])
    refine⟨tp,_,U,SqT.of (Y5.at_ sg),U,_,_,U,_,_,U,U,?_⟩
    dsimp only[List.set]
    have Y6:=Y5.drop
    have gW':=Y6.at_ (z:=(W'.p,.ins t.c_Ways W'.dx (wfl W'))) (sk _ sg)
    rw[e1] at gW'
    refine⟨_,U,W.p,W'.dx,_,U,gW',nJ _,_,U,_,U,?_⟩
    refine tn0 ?_
    have hpm:pl.2 ∈ x.onw k r:=by rw[<- eps]; exact sF (f:=fun z:Pr=>z.2) (si hp1)
    have bdn:W'.dn<=5000:=by rw[dn4]; unfold WS.cN at bN; omega
    refine ju (b:=pl.1) (pl:=pl.2) e1 Y6 (mps pl (si hp1)) wok4.kd wok4.ne bdn (fun H7 D' ld Y7=>?_)
    have hdm:=si hd1
    refine⟨{ W' with D:=D' },_,_,U,e1,e2,e3,Y7,wok4.led ld (hpl _ hpm) (mzs d hdm),?_,?_,wu4.trans ⟨fun q x h=>(ld.io q x).mpr (.inl h),fun _ _ _ h=>h,fun _ _ h=>h,id⟩,fun i z q hi hz hq=>?_⟩
    ·have:=ld.pm.length_eq
     rw[sG] at this
     show(dE D').length=_
     rw[this]
     have h:(dE W'.D).length=W.dn+j:=dn4
     omega
    ·refine al4.perm ?_
     have edr:zs.drop j=d::zs.drop (j+1):=by rw[List.drop_eq_getElem_cons hj,(List.getElem?_eq_some_iff.mp hd1).2]
     rw[edr,sH,List.cons_append]
     exact List.perm_middle.trans (List.Perm.append_right _ (W'.pendD ld.pm).symm)
    ·rcases Nat.lt_succ_iff_lt_or_eq.mp hi with hi | rfl
     ·exact(ld.io q z).mpr (.inl (io4 i z q hi hz hq))
     ·rw[hd1] at hz
      cases hz
      rw[<- eps,sx,hp1] at hq
      cases hq
      exact(ld.io _ _).mpr (.inr ⟨U,U⟩)
   ·rintro σ H4 ⟨W',u1,u2,rfl,e1,e2,e3,Y4,wok4,dn4,al4,wu4,io4⟩
    rw[lpv] at dn4 al4
    rw[List.drop_length,List.map_nil,List.nil_append] at al4
    have er:x.rc cr=x.dc cr+x.outs:=by cases x <;> first | rfl | cases hd
    refine q H4 y2 ((l2,HO.lst (prV ps))::(l,HO.lst (prV zs))::(PrK ps++(N2++[(o,HO.tup [.int e.2.1,.int 1])]))) W' N' M' e1 (by rw[e2]) (by rw[e3]) D2 ?_ ?_ up2 al4 ?_ wu4 (RowW.of hd zs (dd3.mv fun b hb=>?_) fun j z pl hz hq=>io4 j z pl (by rw[lpv]; exact(List.getElem?_eq_some_iff.mp hz).1) hz hq) ?_
    ·unfold WS.cN
     rw[er,dn4,show W'.sn=W.sn by unfold WS.sn; rw[e2],show W'.tn=W.tn by unfold WS.tn; rw[e3]]
     omega
    ·unfold WS.cM
     rw[dn4,show W'.sn=W.sn by unfold WS.sn; rw[e2],show W'.tn=W.tn by unfold WS.tn; rw[e3]]
     omega
    ·refine wok4.mono fun v hv=>?_
     rw[<- eL3] at hv
     simpa only [List.cons_append,sr,List.nil_append] using hv
    ·rw[<- eL3] at hb
     simpa only [List.cons_append,sr,List.nil_append] using hb
    ·refine cO Y4 ?_
     rw[<- eL3]
     simp only[List.cons_append,sr,List.nil_append]
  ·cases x with
   | bell _=>exact absurd rfl hd
   | call s=>
    refine ifT (decide_eq_true rfl) ?_
    obtain⟨s0,s1⟩:=xok
    obtain⟨sn,rfl⟩:=Int.eq_ofNat_of_zero_le (show 0<=s by omega)
    have hsn:sn<W.S.length:=by omega
    have hS:=sq hsn
    obtain⟨zS,ezS⟩:∃ zS,W.S[sn]=zS:=⟨_,U⟩
    rw[ezS] at hS
    have gts:=Y1.at_ (z:=(W.ts,HO.lst (W.S.map fun z=>V.ref z.1))) (sk _ (by unfold wL; simp))
    have gz:=Y1.at_ (z:=(zS.1,HO.lst (zS.2.map fun c=>V.ref c.1))) (sk _ (by
     unfold wL
     exact se _ (se _ (sk _ (sF (f:=fun z:Addr×List (Addr×Pr×Pr)=>(z.1,HO.lst (z.2.map fun c=>V.ref c.1))) (si hS))))))
    have eS:(W.S.map fun z=>V.ref z.1)[sn]?=some (.ref zS.1):=by rw[sx,hS]; rfl
    have lS:(zS.2.map fun c=>c.2.1.2).length<=W.sn:=i7 (f:=fun z:Addr×List (Addr×Pr×Pr)=>z.2.map fun c=>c.2.1.2) hS
    refine⟨_,U,W.p,_,W.dx,_,_,U,gW,T.cl_Ways,T.n_Ways_to_Jt,nI _,_,U,a,_,_,_,U,U,SqT.of ga,aC (j:=1) rfl,W.ts,_,_,_,U,U,SqL.of gts,aC eS,.inl ⟨U,_,SqL.of gz⟩,_,U,_,U,_,U,_,_,U,U,(show 2<=sizeLine by decide),fun b hb=>?_⟩
    have Y2:=Y1.alloc hb (.tup [.int k,.int (r+1)])
    refine⟨(show 2<=sizeLine by decide),fun c hc=>?_⟩
    have Y3:=Y2.alloc hc (.tup [.ref o,.ref b])
    refine tn0 ?_
    have gz3:=Y3.at_ (z:=(zS.1,HO.lst (zS.2.map fun c=>V.ref c.1))) (r9 _ (r9 _ (sk _ (by
     unfold wL
     exact se _ (se _ (sk _ (sF (f:=fun z:Addr×List (Addr×Pr×Pr)=>(z.1,HO.lst (z.2.map fun c=>V.ref c.1))) (si hS))))))))
    refine⟨zS.1,_,_,U,U,gz3,sizeOk (by rw[su] at lS ⊢; unfold WS.cN at bN; omega),?_⟩
    obtain⟨z',ez'⟩:∃ z':Addr×List (Addr×Pr×Pr),(zS.1,zS.2++[(c,(o,e.2.1,1),(b,(k:Int),(r:Int)+1))])=z':=⟨_,U⟩
    obtain⟨X,X2,eX,eX'⟩:=wL_S (C:=t.c_Ways) (z':=z') hS (by rw[<- ez'])
    have ev:zS.2.map (fun c=>V.ref c.1)++[.ref c]=z'.2.map (fun c=>V.ref c.1):=by rw[<- ez',sw]; rfl
    rw[ev]
    have Y4:YIn t.c_Yard _ p y (X++(zS.1,HO.lst (zS.2.map fun c=>V.ref c.1))::(X2++((c,.tup [.ref o,.ref b])::(b,.tup [.int k,.int (r+1)])::(o,.tup [.int e.2.1,.int 1])::L))):=Y3.ac (by rw[eX]; simp only[Ms.app,Ms.cons]; ac_rfl)
    have Y5:=Y4.mid (.lst (z'.2.map fun c=>V.ref c.1))
    have pm:(sE (W.S.set sn z')).Perm ((e.2.1,1)::sE W.S):=by
     unfold sE
     exact g7 (z':=z') (x:=(e.2.1,1)) hS (by rw[<- ez',sw]; rfl)
    have esn:(WS.sn { W with S:=W.S.set sn z' })=W.sn+1:=by
     have:=pm.length_eq
     rw[sG] at this
     exact this
    refine q _ y [(c,.tup [.ref o,.ref b]),(b,.tup [.int k,.int (r+1)]),(o,.tup [.int e.2.1,.int 1])] { W with S:=W.S.set sn z' } N M rfl (List.length_set ..) rfl D ?_ ?_ (Up.refl _) ?_ ?_ ?_ ?_ ?_
    ·show N+(W.dn+3*WS.sn { W with S:=W.S.set sn z' }+W.tn)<=N+(W.dn+3*W.sn+W.tn)+3
     rw[esn]; omega
    ·show M+(4*W.dn+12*WS.sn { W with S:=W.S.set sn z' }+4*W.tn)<=M+(4*W.dn+12*W.sn+4*W.tn)+60
     rw[esn]; omega
    ·exact wp.perm (List.Perm.append_right G (W.pendS pm).symm)
    ·have up:∀ v ∈ L,v ∈ [(c,HO.tup [.ref o,.ref b]),(b,.tup [.int k,.int (r+1)]),(o,.tup [.int e.2.1,.int 1])]++L:=fun v hv=>se _ hv
     have w0:=wok.mono up
     refine⟨w0.kd,w0.ne,w0.pd,w0.eD,fun u hu v hv=>?_,w0.eT⟩
     rcases List.mem_or_eq_of_mem_set hu with hu | rfl
     ·exact w0.eS u hu v hv
     ·rw[<- ez'] at hv
      rcases sC.mp hv with hv | hv
      ·exact w0.eS _ (si hS) v hv
      ·rw[sy.mp hv]
       exact⟨sk _ sg,sk _ (r9 _ (r9 _ sg)),sk _ (r9 _ sg),hpl _ (r9 _ sg)⟩
    ·refine⟨fun _ _ h=>h,fun s' o' b' ⟨z,hz,c',hc',h'⟩=>?_,fun _ _ h=>h,fun s0 z hz=>s0 z (by
      have hz:(W.S.set sn z')[0]?=some z:=hz
      rw[List.getElem?_set,if_neg (by omega)] at hz
      exact hz)⟩
     by_cases cs:sn=s'
     ·subst cs
      rw[hS] at hz
      cases hz
      refine⟨z',?_,c',?_,h'⟩
      ·show(W.S.set sn z')[sn]?=_
       rw[List.getElem?_set,if_pos rfl,if_pos hsn]
      ·rw[<- ez']; exact sk _ hc'
     ·refine⟨z,?_,c',hc',h'⟩
      show(W.S.set sn z')[s']?=_
      rw[List.getElem?_set,if_neg cs]; exact hz
    ·refine⟨z',?_,(c,(o,e.2.1,1),(b,(k:Int),(r:Int)+1)),?_,U,U⟩
     ·show(W.S.set sn z')[((sn:Int)).toNat]?=_
      rw[Int.toNat_natCast,List.getElem?_set,if_pos rfl,if_pos hsn]
     ·rw[<- ez']; exact se _ sg
    ·refine cO Y5 ?_
     rw[eX']
     simp only[sr,List.cons_append,List.nil_append]
   | fin=>
    refine ifF (sne "end" "call") ?_
    refine⟨_,U,a,_,_,_,U,U,SqT.of ga,aC (j:=0) rfl,U,_,U,ifT (decide_eq_true rfl) ?_⟩
    have hT:=sq hk
    obtain⟨zT,ezT⟩:∃ zT,W.T[k]=zT:=⟨_,U⟩
    rw[ezT] at hT
    have gts:=Y1.at_ (z:=(W.tc,HO.lst (W.T.map fun z=>V.ref z.1))) (sk _ (by unfold wL; simp))
    have gz:=Y1.at_ (z:=(zT.1,HO.lst (prV zT.2))) (sk _ (by
     unfold wL
     exact se _ (se _ (se _ (sF (f:=fun z:Addr×List Pr=>(z.1,HO.lst (prV z.2))) (si hT))))))
    have lT:(zT.2.map (·.2)).length<=W.tn:=i7 (f:=fun z:Addr×List Pr=>z.2.map (·.2)) hT
    have eT:(W.T.map fun z=>V.ref z.1)[k]?=some (.ref zT.1):=by rw[sx,hT]; rfl
    refine⟨_,U,W.p,_,W.dx,_,_,U,gW,T.cl_Ways,T.n_Ways_to_callers,kx _,_,U,W.tc,_,_,_,U,U,SqL.of gts,aC eT,.inl ⟨U,_,SqL.of gz⟩,_,U,?_⟩
    refine tn0 ?_
    refine⟨zT.1,_,_,U,U,gz,sizeOk (by unfold prV; rw[su] at lT ⊢; unfold WS.cN at bN; omega),?_⟩
    obtain⟨z',ez'⟩:∃ z':Addr×List Pr,(zT.1,zT.2++[(o,e.2.1,1)])=z':=⟨_,U⟩
    obtain⟨X,X2,eX,eX'⟩:=wL_T (C:=t.c_Ways) (z':=z') hT (by rw[<- ez'])
    have ev:prV zT.2++[.ref o]=prV z'.2:=by rw[<- ez']; unfold prV; rw[sw]; rfl
    rw[ev]
    have Y4:YIn t.c_Yard _ p y (X++(zT.1,HO.lst (prV zT.2))::(X2++((o,.tup [.int e.2.1,.int 1])::L))):=cO Y1 (by rw[eX]; simp only[sr,List.cons_append])
    have Y5:=Y4.mid (.lst (prV z'.2))
    have pm:(tE (W.T.set k z')).Perm ((e.2.1,1)::tE W.T):=by
     unfold tE
     exact g7 (z':=z') (x:=(e.2.1,1)) hT (by rw[<- ez',sw]; rfl)
    have etn:(WS.tn { W with T:=W.T.set k z' })=W.tn+1:=by
     have:=pm.length_eq
     rw[sG] at this
     exact this
    refine q _ y [(o,.tup [.int e.2.1,.int 1])] { W with T:=W.T.set k z' } N M rfl rfl (List.length_set ..) D ?_ ?_ (Up.refl _) ?_ ?_ ?_ ?_ ?_
    ·show N+(W.dn+3*W.sn+WS.tn { W with T:=W.T.set k z' })<=N+(W.dn+3*W.sn+W.tn)+1
     rw[etn]; omega
    ·show M+(4*W.dn+12*W.sn+4*WS.tn { W with T:=W.T.set k z' })<=M+(4*W.dn+12*W.sn+4*W.tn)+60
     rw[etn]; omega
    ·exact wp.perm (List.Perm.append_right G (W.pendT pm).symm)
    ·have w0:=wok.mono (fun v (hv:v ∈ L)=>(se [(o,HO.tup [.int e.2.1,.int 1])] hv))
     refine⟨w0.kd,w0.ne,w0.pd,w0.eD,w0.eS,fun u hu v hv=>?_⟩
     rcases List.mem_or_eq_of_mem_set hu with hu | rfl
     ·exact w0.eT u hu v hv
     ·rw[<- ez'] at hv
      rcases sC.mp hv with hv | hv
      ·exact w0.eT _ (si hT) v hv
      ·rw[sy.mp hv]
       exact sk _ sg
    ·refine⟨fun _ _ h=>h,fun _ _ _ h=>h,fun s' o' ⟨z,hz,c',hc',h'⟩=>?_,id⟩
     by_cases cs:k=s'
     ·subst cs
      rw[hT] at hz
      cases hz
      refine⟨z',?_,c',?_,h'⟩
      ·show(W.T.set k z')[k]?=_
       rw[List.getElem?_set,if_pos rfl,if_pos hk]
      ·rw[<- ez']; exact sk _ hc'
     ·refine⟨z,?_,c',hc',h'⟩
      show(W.T.set k z')[s']?=_
      rw[List.getElem?_set,if_neg cs]; exact hz
    ·refine⟨z',?_,(o,e.2.1,1),?_,U⟩
     ·show(W.T.set k z')[k]?=_
      rw[List.getElem?_set,if_pos rfl,if_pos hk]
     ·rw[<- ez']; exact se _ sg
    ·refine cO Y5 ?_
     rw[eX']
     simp only[sr,List.cons_append,List.nil_append]
end
noncomputable def DW (y:YR) (L:Kn) (a:Nat) (e i o:Int×Int):Prop:=∃ (n:Int) (r:Nat),Mt y L e (n,0)/\Mt y L (n,0) e/\Kp y n .still/\au y.rods (Sum.inl n)=some (.int r)/\a<=r/\y.sides[r]?=some (.int 1)/\i=(n,2)/\o=(n,1)
theorem DW.up {y y':YR}{L L':Kn}{a:Nat}{e i o:Int×Int} (h:DW y L a e i o) (u:Up y y') (s:∀ b:Pr,pK2 b ∈ L->pK2 b ∈ L'):DW y' L' a e i o:=by
 obtain⟨n,r,h1,h2,h3,h4,h5,h6,h7⟩:=h
 refine⟨n,r,(h1.up u (fun _ h=>h)).mv s,(h2.up u (fun _ h=>h)).mv s,h3.up u,u.r _ _ h4,h5,?_,h7⟩
 obtain⟨t,et⟩:=u.s
 rw[<- et,sO (List.getElem?_eq_some_iff.mp h6).1]
 exact h6
theorem jW {y:YR}{k:Kd} (note:Int) (hk:k.point=true):(bE y k note .non).sides[y.sides.length]?=some (.int 1):=by
 show(if k.point=true/\V.non=.non then y.sides++[.int 1] else y.sides)[_]?=_
 rw[if_pos ⟨hk,U⟩,sM (Nat.le_refl _),Nat.sub_self]
 rfl
inductive sp_ldoor (Cy Cw:Addr) (vs:List V) (H:Hp) (Q:VK) (E_:XK):Prop
 | mk (p:Addr) (y:YR) (L:Kn) (W:WS) (e:Pr) (b:Addr) (pl:Int×Int) (N M R:Nat) (G:List (Int×Int)) (Pl:Int×Int->Prop) (_:vs=[.ref p,.ref W.p,.ref e.1,.ref b]) (_:YIn Cy H p y (wL Cw W++L)) (_:pK2 e ∈ L) (_:pK2 (b,pl) ∈ L) (_:Ld y N M R) (_:Al y (e.2::(dE W.D++G))) (_:WOk W L Pl) (_:Pl pl) (_:N<=7000) (_:M<=28000) (_:R<=1000) (_:W.dn<=5000) (_:∀ H' y' Nw D' (i:Pr),Ld y' (N+1) (M+2) R->Up y y'->(dE D').length=W.dn+1->Al y' (i.2::(dE D'++G))->WOk { W with D:=D' } (Nw++L) Pl->pK2 i ∈ Nw->Wup W { W with D:=D' }->(∃ o:Pr,DW y' (Nw++L) y.sides.length e.2 i.2 o.2/\inD D' pl o)->YIn Cy H' p y' (wL Cw { W with D:=D' }++(Nw++L))->Q (.ref i.1) H'):sp_ldoor Cy Cw vs H Q E_
section
variable {P:Program}{w:World}{K:PySem.W.Frag}{mg:Str->Option Value}{base:Heap}{t:Adr}
theorem scLo:FnScope ["yard","ways","end","place","both","inward","outward"] ["yard","ways","end","place"] (aj qU):={}
theorem oO (T:Txt K mg t):FnOk P w K mg base CX0 6 t.f_Jl t.d_Jl ["yard","ways","end","place"] (sp_ldoor t.c_Yard t.c_Ways):=by
 refine T.F_Jl.ok scLo (fun vs H Q E h=>?_) (fun cdv A outer s H vs Q E hr h=>?_)
 ·obtain⟨_,_,_,_,_,_,_,_,_,_,_,_,rfl,_⟩:=h
  rfl
 ·obtain⟨p,y,L,W,e,b,pl,N,M,R,G,Pl,rfl,Y,me,mb,D,al,wok,hpl,bN,bM,bR,bD,q⟩:=h
  refine⟨_,(ae (ce (pcl (p0 T) hr T.m_Je1 T.F_Je1.kp (b_Je1 T) (aa (pv 0) ah)) (bt rfl (ay (aq (i:=4) scLo.nd rfl (Or.inl rfl)) (ay (aq (i:=5) scLo.nd rfl (Or.inl rfl)) (ay (aq (i:=6) scLo.nd rfl (Or.inl rfl)) ba)))))
   (ae (ao (ax (pv 0) T.cl_Yard T.M_J21 (bS T) hr (cQ T) .nil az (aa (pv 4) (aa (pv 2) ah))))
   (ae (ao (ax (pv 1) T.cl_Ways T.M_J31 (lx T) hr (oW T) .nil az (aa (pv 6) (aa (pv 3) ah))))
   (ai (aB (pv 5)))))),?_⟩
  rw[show L2.start ["yard","ways","end","place","both","inward","outward"] [V.ref p,V.ref W.p,V.ref e.1,V.ref b]=([some (V.ref p),some (V.ref W.p),some (V.ref e.1),some (V.ref b),none,none,none]:St) from rfl]
  refine⟨_,U,?_⟩
  refine tn0 ?_
  refine⟨p,y,_,N,M,R,U,Y,D,by omega,by omega,bR,fun H2 tp b0 b2 b1 Y2=>?_⟩
  refine⟨tp,_,U,SqT.of (Y2.at_ sg),U,_,_,U,_,_,U,_,_,U,U,?_⟩
  dsimp only[List.set]
  have al2:=al.lay3 D .still 0 .non rfl
  have D2:=D.lay .still 0 .non
  have up2:=D.up .still 0 .non
  have k2:Kp _ N .still:=Kp.lay D .still 0 .non
  have r2:=(iB D .still 0 rfl).1
  have s2:=jW (y:=y) (k:=.still) 0 rfl
  obtain⟨y2,ey2⟩:∃ y2,bE y .still 0 .non=y2:=⟨_,U⟩
  rw[ey2] at k2 r2 s2 Y2 al2 D2 up2
  obtain⟨L2,eL2⟩:∃ L2:Kn,(tp,HO.tup [.ref b0,.ref b2,.ref b1])::pK2 (b1,(N:Int),1)::pK2 (b2,(N:Int),2)::pK2 (b0,(N:Int),0)::L=L2:=⟨_,U⟩
  have toL2:∀ v ∈ L,v ∈ L2:=fun v hv=>by rw[<- eL2]; exact r9 _ (r9 _ (r9 _ (r9 _ hv)))
  have Y3:YIn t.c_Yard H2 p y2 (wL t.c_Ways W++L2):=Y2.ac (by rw[<- eL2]; simp only[Ms.app,Ms.cons]; ac_rfl)
  have m0:pK2 (b0,(N:Int),0) ∈ L2:=by rw[<- eL2]; exact r9 _ (r9 _ (r9 _ sg))
  have m1:pK2 (b1,(N:Int),1) ∈ L2:=by rw[<- eL2]; exact r9 _ sg
  obtain⟨A3,gy⟩:=Y3.obj
  refine⟨_,U,p,A3.dx,_,U,gy,(b7 _ _ _).2.2.1,_,U,_,U,?_⟩
  refine tn0 ?_
  have al3:Al y2 (((N:Int),0)::e.2::((N:Int),2)::((N:Int),1)::(dE W.D++G)):=al2.perm (.cons _ (perm3.trans (.cons _ (.swap _ _ _))))
  have f0:=al3.2 _ sg
  have fe:=al3.2 _ (r9 _ sg)
  refine cm (a:=(b0,(N:Int),0)) (b:=e) Y3 D2 (by omega) (se _ m0) (se _ (toL2 _ me)) f0 fe al3.ne (fun H4 Y4=>?_)
  have D4:=D2.link (a:=(b0,(N:Int),0)) (b:=e) f0 fe
  have al4:=Al.link (a:=(b0,(N:Int),0)) (b:=e) al3
  have up4:=up2.trans (Up.link (a:=(b0,(N:Int),0)) (b:=e) f0 fe)
  have gW:=Y4.at_ (z:=(W.p,.ins t.c_Ways W.dx (wfl W))) (sk _ sg)
  refine⟨_,U,W.p,W.dx,_,U,gW,nJ _,_,U,_,U,?_⟩
  refine tn0 ?_
  refine ju (e:=(b1,(N:Int),1)) (b:=b) (pl:=pl) rfl Y4 (toL2 _ mb) wok.kd wok.ne bD (fun H5 D' ld Y5=>?_)
  refine⟨_,U,?_⟩
  refine q H5 _ [(tp,HO.tup [.ref b0,.ref b2,.ref b1]),pK2 (b1,(N:Int),1),pK2 (b2,(N:Int),2),pK2 (b0,(N:Int),0)] D' (b2,(N:Int),2) D4 up4 ?_ ?_ ?_ ?_ ⟨fun q x h=>(ld.io q x).mpr (.inl h),fun _ _ _ h=>h,fun _ _ h=>h,id⟩ ⟨(b1,(N:Int),1),?_,(ld.io _ _).mpr (.inr ⟨U,U⟩)⟩ ?_
  ·rw[ld.pm.length_eq]; rfl
  ·exact al4.perm (.cons _ (List.Perm.append_right G ld.pm.symm))
  ·exact((wok.mono toL2).led ld hpl m1).mono (fun v hv=>by rw[<- eL2] at hv; exact hv)
  ·exact r9 _ (r9 _ sg)
  ·have l4:=Up.link (a:=(b0,(N:Int),0)) (b:=e) f0 fe
   refine⟨N,y.sides.length,?_,?_,k2.up l4,l4.r _ _ r2,Nat.le_refl _,s2,U,U⟩
   ·exact Mt.l2 (a:=(b0,(N:Int),0)) (r9 _ (r9 _ (r9 _ sg)))
   ·exact Mt.l1 (a:=(b0,(N:Int),0)) (se _ me) al3.ne
  ·exact cO Y5 (by rw[<- eL2]; rfl)
end
theorem apc {α:Type}{a b c:List α}:(a++(b++c)).Perm (b++(a++c)):=by
 rw[<- sr a b c,<- sr b a c]
 exact List.Perm.append_right _ List.perm_append_comm
theorem Al.lay1 {y:YR}{N M R:Nat} (h:Ld y N M R) (g:Al y l) (k:Kd) (note:Int) (rod:V) (hk:k.many=1):Al (bE y k note rod) (((N:Int),0)::l):=by
 refine⟨List.nodup_cons.mpr ⟨fun c=>(g.2 _ c).ne h rfl,g.1⟩,fun x hx=>?_⟩
 rcases sD.mp hx with rfl | hx
 ·exact Fr.new h k note rod (Int.le_refl _) (by rw[hk]; decide)
 ·exact(g.2 x hx).lay h k note rod
theorem fA {p lo:Addr}{y:YR}{zs:List Pr}{z:Pr}{N M R:Nat}{G:List (Int×Int)}{Q:V->Hp->Prop} (Y:YIn C H p y L) (ml:(lo,HO.lst (prV zs)) ∈ L) (mzs:∀ x ∈ zs,pK2 x ∈ L) (mz:pK2 z ∈ L) (D:Ld y N M R) (al:Al y (z.2::(zs.map (·.2)++G)))
  (bN:N+zs.length<=8000) (bM:M+4*zs.length<=29000) (bR:R<=1000) (q:∀ H' y' Nw M',Ld y' (N+(zs.length - 1)) M' R->M'<=M+4*zs.length->Up y y'->Al y' G->(∀ x ∈ zs,Lead y' (Nw++L) x.2 z.2)->YIn C H' p y' (Nw++L)->Q .non H'):sp_merge C [.ref p,.ref lo,.ref z.1] H Q E0:=by
 obtain⟨n1,n2⟩:=List.nodup_cons.mp al.1
 have n3:=List.nodup_append.mp n2
 refine⟨p,y,L,lo,zs,z,N,M,R,U,Y,ml,mzs,mz,D,n3.1,fun c=>n1 (sk _ c),fun x hx=>al.2 _ (r9 _ (sk _ (sF (f:=fun x:Pr=>x.2) hx))),al.2 _ sg,bN,bM,bR,fun H' y' Nw M' D' _ _ _ bM' up old ld Y'=>q H' y' Nw M' D' bM' up ?_ (fun x hx=>⟨_,by rw[D'.nx]; omega,ld x hx⟩) Y'⟩
 exact⟨n3.2.1,fun x hx=>old x (al.2 _ (r9 _ (se _ hx))) (fun c=>n3.2.2 x c x hx rfl) (fun c=>n1 (by rw[<- c]; exact se _ hx))⟩
theorem Al.fan {y y2:YR}{N M R:Nat} (D:Ld y N M R) {zs:List Pr} (g:Al y l) (old:∀ x,Fr y x->Fr y2 x) (f0:Fr y2 ((N:Int),0)) (n0:((N:Int),0) ∉ zs.map (·.2)) (nd:(zs.map (·.2)).Nodup) (fz:∀ x ∈ zs,Fr y2 x.2/\(N:Int)<=x.2.1):Al y2 (((N:Int),0)::(zs.map (·.2)++l)):=by
 have lt:∀ x ∈ l,x.1<(N:Int):=fun x hx=>D.lt (g.2 x hx).1
 refine⟨List.nodup_cons.mpr ⟨fun c=>?_,List.nodup_append.mpr ⟨nd,g.1,fun a ha b hb e=>?_⟩⟩,fun x hx=>?_⟩
 ·rcases sC.mp c with c | c
  ·exact n0 c
  ·exact absurd (lt _ c) (Int.lt_irrefl _)
 ·obtain⟨u,hu,rfl⟩:=sQ.mp ha
  have h1:=(fz u hu).2
  have h2:=lt b hb
  rw[<- e] at h2
  omega
 ·rcases sD.mp hx with rfl | hx
  ·exact f0
  ·rcases sC.mp hx with hx | hx
   ·obtain⟨u,hu,rfl⟩:=sQ.mp hx
    exact(fz u hu).1
   ·exact old x (g.2 x hx)
theorem gE {b:Pr}{X Y:Kn} (h:pK2 b ∈ X++(wL C W++Y)):pK2 b ∈ X++Y:=by
 rcases sC.mp h with h | h
 ·exact sk _ h
 ·rcases sC.mp h with h | h
  ·exact absurd h (ky _ _ b)
  ·exact se _ h
theorem DW.weak {y:YR}{a a':Nat}{e i o:Int×Int} (h:DW y L a e i o) (g:a'<=a):DW y L a' e i o:=by
 obtain⟨n,r,h1,h2,h3,h4,h5,h6⟩:=h
 exact⟨n,r,h1,h2,h3,h4,Nat.le_trans g h5,h6⟩
noncomputable def CallsW (y0 y:YR) (L:Kn) (D:List ((Int×Int)×Addr×List Pr)) (k:Nat) (calls:List (Addr×Pr×Pr)) (ends:List Pr):Prop :=
 (calls=[]/\∃ n:Int,Kp y n .stop/\∀ x ∈ ends,Lead y L x.2 (n,0)) ∨
 (calls≠[]/\∃ (f:Int) (l lv:List (Int×Int)) (rs:List Int) (m:Nat) (i:Int×Int) (o:Pr),Kp y f .line/\FT y L (f,1) l rs/\l.Perm lv/\lv.length=calls.length/\rs.Nodup/\(calls.length:Int)<=y.next/\m<=y.sides.length/\(∀ r ∈ rs,(y0.sides.length:Int)<=r/\r<m)/\DW y L m (f,0) i o.2/\inD D ((k:Int),0) o/\(∀ x ∈ ends,Lead y L x.2 i) /\
  ∀ (j:Nat) (lf:Int×Int) (c:Addr×Pr×Pr),lv[j]?=some lf->calls[j]?=some c->∃ (i':Int×Int) (o':Pr),DW y L m lf i' o'.2/\inD D c.2.2.2 o'/\Mt y L c.2.1.2 i'/\Mt y L i' c.2.1.2)
theorem CallsW.up {y0 y y':YR}{L L':Kn}{D D':List ((Int×Int)×Addr×List Pr)}{k:Nat}{calls:List (Addr×Pr×Pr)}{ends:List Pr} (h:CallsW y0 y L D k calls ends) (u:Up y y') (s:∀ b:Pr,pK2 b ∈ L->pK2 b ∈ L') (w:∀ q x,inD D q x->inD D' q x):CallsW y0 y' L' D' k calls ends:=by
 rcases h with ⟨e,n,h1,h2⟩ | ⟨e,f,l,lv,rs,m,i,o,h1,h2,h3,h4,h5,hl,hm,h6,h7,h8,h9,h10⟩
 ·exact .inl ⟨e,n,h1.up u,fun x hx=>((h2 x hx).up u (fun _ h=>h)).mv s⟩
 ·refine .inr ⟨e,f,l,lv,rs,m,i,o,h1.up u,(h2.up u (fun _ h=>h)).mv s,h3,h4,h5,Int.le_trans hl u.x,Nat.le_trans hm u.sl,h6,h7.up u s,w _ _ h8,fun x hx=>((h9 x hx).up u (fun _ h=>h)).mv s,fun j lf c a b=>?_⟩
  obtain⟨i',o',g1,g2,g3,g4⟩:=h10 j lf c a b
  exact⟨i',o',g1.up u s,w _ _ g2,(g3.up u (fun _ h=>h)).mv s,(g4.up u (fun _ h=>h)).mv s⟩
inductive sp_lcalls (Cy Cw:Addr) (vs:List V) (H:Hp) (Q:VK) (E_:XK):Prop
 | mk (p:Addr) (y:YR) (L:Kn) (W:WS) (k:Nat) (zS:Addr×List (Addr×Pr×Pr)) (zT:Addr×List Pr) (N M R:Nat) (G:List (Int×Int)) (Pl:Int×Int->Prop) (_:vs=[.ref p,.ref W.p,.int k]) (_:YIn Cy H p y (wL Cw W++L)) (_:W.S[k]?=some zS) (_:W.T[k]?=some zT) (_:Ld y N M R) (_:Al y (dE W.D++(zS.2.map (fun c=>c.2.1.2)++(zT.2.map (·.2)++G)))) (_:WOk W L Pl) (_:Pl ((k:Int),0)) (_:N+W.dn+3*zS.2.length+zT.2.length<=4800) (_:M+4*W.dn+12*zS.2.length+4*zT.2.length<=20000) (_:R<=1000) (_:∀ H' y' Nw D' N' M',Ld y' N' M' R->N'+(dE D').length<=N+W.dn+3*zS.2.length+zT.2.length+2->M'+4*(dE D').length<=M+4*W.dn+12*zS.2.length+4*zT.2.length+10->Up y y'->Al y' (dE D'++G)->WOk { W with D:=D' } (Nw++L) Pl->(∀ q x,inD W.D q x->inD D' q x)->CallsW y y' (Nw++L) D' k zS.2 zT.2->YIn Cy H' p y' (wL Cw { W with D:=D' }++(Nw++L))->Q .non H'):sp_lcalls Cy Cw vs H Q E_
theorem kB {W:WS}{k:Nat}{z:Addr×List (Addr×Pr×Pr)} (h:W.S[k]?=some z):(z.1,HO.lst (z.2.map fun c=>V.ref c.1)) ∈ wL C W:=by
 unfold wL
 exact se _ (se _ (sk _ (sF (f:=fun z:Addr×List (Addr×Pr×Pr)=>(z.1,HO.lst (z.2.map fun c=>V.ref c.1))) (si h))))
theorem nM {W:WS}{k:Nat}{z:Addr×List Pr} (h:W.T[k]?=some z):(z.1,HO.lst (prV z.2)) ∈ wL C W:=by
 unfold wL
 exact se _ (se _ (se _ (sF (f:=fun z:Addr×List Pr=>(z.1,HO.lst (prV z.2))) (si h))))
theorem oX :(W.ts,HO.lst (W.S.map fun z=>V.ref z.1)) ∈ wL C W:=by unfold wL; simp
theorem kA :(W.tc,HO.lst (W.T.map fun z=>V.ref z.1)) ∈ wL C W:=by unfold wL; simp
theorem nL :(W.p,HO.ins C W.dx (wfl W)) ∈ wL C W:=sg
section
variable {P:Program}{w:World}{K:PySem.W.Frag}{mg:Str->Option Value}{base:Heap}{t:Adr}
theorem scLk2:FnScope ["yard","ways","stretch","calls","root","leaves","leaf","out","behind"] ["yard","ways","stretch"] (aj qL):={}
theorem ok_Ju (T:Txt K mg t):FnOk P w K mg base CX0 7 t.f_Ju t.d_Ju ["yard","ways","stretch"] (sp_lcalls t.c_Yard t.c_Ways):=by
 obtain⟨ds_l2,hd_Jb1_2,hb_Jb1_2⟩:=cc T
 refine T.F_Ju.ok scLk2 (fun vs H Q E h=>?_) (fun cdv A outer s H vs Q E hr h=>?_)
 ·obtain⟨_,_,_,_,_,_,_,_,_,_,_,_,rfl,_⟩:=h
  rfl
 ·obtain⟨p,y,L,W,k,zS,zT,N,M,R,G,Pl,rfl,Y,hS,hT,D,al,wok,hpl,bN,bM,bR,q⟩:=h
  refine⟨_,(ae (aH (i:=3) scLk2.nd rfl (Or.inl rfl) (aM aN (aw (pv 1) rfl) (pv 2)))
   (ae (aI (eZ (db (pv 3) (by intro _; rfl)))
    (ae (ao (pcl (fq T) hr T.m_merge T.F_merge.kp (hJ T) (@aa _ _ _ _ _ (pv 0) (@aa _ _ _ _ _ (aM aN (aw (pv 1) rfl) (pv 2)) (@aa _ _ _ _ _ (aF (aa (ax (pv 0) T.cl_Yard T.M_Jb1 (ci T) hr hb_Jb1_2 hd_Jb1_2 az (aa aL ah)) (aa am ah))) ah (by rfl)) (by rfl)) (by rfl))))
     (ai jm))
    av)
   (ae (ce (pcl (pU T) hr T.m_fan T.F_fan.kp (b_fan T) (aa (pv 0) (aa (aR aJ (by rfl) T.z_len (by rfl) (aa (pv 3) ah)) ah))) (bt rfl (ay (aq (i:=4) scLk2.nd rfl (Or.inl rfl)) (ay (aq (i:=5) scLk2.nd rfl (Or.inl rfl)) ba))))
   (ae (ao (pcl (fq T) hr T.m_merge T.F_merge.kp (hJ T) (aa (pv 0) (aa (aM aN (aw (pv 1) rfl) (pv 2)) (aa (pcl (oO T) hr T.m_Jl T.F_Jl.kp (rT T) (@aa _ _ _ _ _ (pv 0) (@aa _ _ _ _ _ (pv 1) (@aa _ _ _ _ _ (pv 4) (@aa _ _ _ _ _ (aF (aa (pv 2) (aa am ah))) ah (by rfl)) (by rfl)) (by rfl)) (by rfl))) ah)))))
   (ai (bi PassesOwn.never rfl (iT (by rfl) T.z_zip (aa (pv 5) (aa (pv 3) ah))) (bt rfl (ay (aq (i:=6) scLk2.nd rfl (Or.inl rfl)) (ay (bt rfl (ay (aq (i:=7) scLk2.nd rfl (Or.inl rfl)) (ay (aq (i:=8) scLk2.nd rfl (Or.inl rfl)) ba))) ba)))
    (ai (ao (ax (pv 0) T.cl_Yard T.M_J21 (bS T) hr (cQ T) .nil az (aa (pv 7) (aa (pcl (oO T) hr T.m_Jl T.F_Jl.kp (rT T) (aa (pv 0) (aa (pv 1) (aa (pv 6) (aa (pv 8) ah))))) ah))))))))))),?_⟩
  rw[show L2.start ["yard","ways","stretch","calls","root","leaves","leaf","out","behind"] [V.ref p,V.ref W.p,V.int k]=([some (V.ref p),some (V.ref W.p),some (V.int k),none,none,none,none,none,none]:St) from rfl]
  have gW:=Y.at_ (sk _ nL)
  have eS:(W.S.map fun z=>V.ref z.1)[k]?=some (.ref zS.1):=by rw[sx,hS]; rfl
  have eT:(W.T.map fun z=>V.ref z.1)[k]?=some (.ref zT.1):=by rw[sx,hT]; rfl
  have mT:∀ x ∈ zT.2,pK2 x ∈ L:=fun x hx=>wok.eT zT (si hT) x hx
  have mS:=fun c hc=>wok.eS zS (si hS) c hc
  refine⟨_,U,W.p,_,W.dx,_,_,U,gW,T.cl_Ways,T.n_Ways_to_Jt,nI _,_,U,W.ts,_,_,_,U,U,SqL.of (Y.at_ (sk _ oX)),aC eS,?_⟩
  dsimp only[List.set]
  have gS:=Y.at_ (sk _ (kB hS))
  have lS:(zS.2.map fun c=>V.ref c.1).length=zS.2.length:=su ..
  by_cases hc:zS.2=[]
  ·refine⟨_,U,false,.inl ⟨_,SqL.of gS,by rw[hc]; rfl⟩,fE ?_⟩
   rw[hc,List.map_nil,List.nil_append] at al
   refine⟨_,U,_,U,W.p,_,W.dx,_,_,U,gW,T.cl_Ways,T.n_Ways_to_callers,kx _,_,U,W.tc,_,_,_,U,U,SqL.of (Y.at_ (sk _ kA)),aC eT,?_⟩
   obtain⟨A1,gy⟩:=Y.obj
   refine⟨_,U,p,A1.dx,_,U,gy,(cn _ _ _).1,?_⟩
   refine tc1 ?_
   refine cT Y D ⟨by omega,by omega,bR⟩ .stop 0 .non (fun c=>nomatch c) (fun c=>nomatch c) (fun H2 Y2=>?_)
   have D2:=D.lay .stop 0 .non
   have al2:=al.lay1 D .stop 0 .non rfl
   have up2:=D.up .stop 0 .non
   have k2:Kp _ N .stop:=Kp.lay D .stop 0 .non
   refine⟨(show 2<=sizeLine by decide),fun c0 hc0=>?_⟩
   have Y3:=Y2.alloc hc0 (.tup [.int N,.int 0])
   refine tn0 ?_
   refine fA (z:=(c0,(N:Int),0)) (zs:=zT.2) (G:=dE W.D++G) Y3 (r9 _ (sk _ (nM hT))) (fun x hx=>r9 _ (se _ (mT x hx))) sg D2 (al2.perm (.cons _ ?_)) (by omega) (by omega) bR (fun H4 y4 N4 M4 D4 bM4 up4 al4 ld4 Y4=>?_)
   ·rw[<- sr,<- sr]
    exact List.Perm.append_right _ List.perm_append_comm
   refine q H4 y4 (N4++[(c0,.tup [.int N,.int 0])]) W.D _ M4 D4 ?_ ?_ (up2.trans up4) al4 (wok.mono fun v hv=>se _ hv) (fun _ _ h=>h) (.inl ⟨hc,N,k2.up up4,fun x hx=>(ld4 x hx).mv fun b hb=>?_⟩) (Y4.ac (by simp only[Ms.app,Ms.cons,Ms.nil,Ms.zr]; ac_rfl))
   ·show N+1+(zT.2.length - 1)+W.dn<=_; rw[hc,List.length_nil]; omega
   ·show M4+4*W.dn<=_; rw[hc,List.length_nil]; omega
   ·have hb':pK2 b ∈ (N4++[(c0,HO.tup [.int N,.int 0])])++(wL t.c_Ways W++L):=by simpa only [sr,List.cons_append,List.nil_append] using hb
    exact gE hb'
  ·refine⟨_,U,true,.inl ⟨_,SqL.of gS,?_⟩,dq ?_⟩
   ·cases e:zS.2 with
    | nil=>exact absurd e hc
    | cons=>rfl
   have c1:1<=zS.2.length:=by
    cases e:zS.2 with
    | nil=>exact absurd e hc
    | cons=>exact Nat.succ_le_succ (Nat.zero_le _)
   refine⟨_,U,_,U,zS.1,_,U,.inl (SqL.of gS),?_⟩
   refine tn0 ?_
   rw[lS]
   refine⟨p,y,_,N,M,R,zS.2.length,U,Y,D,c1,by omega,by omega,bR,fun H2 y2 N2 tp b0 lv zs M2 lz D2 bM2 up2 old2 f0 n0 nd2 fz m0 kf ⟨lT,rsT,ft,lpm,rnd,rbd⟩ Y2=>?_⟩
   refine⟨tp,_,U,SqT.of (Y2.at_ sg),U,_,_,U,_,_,U,U,?_⟩
   dsimp only[List.set]
   have al2:=Al.fan D al old2 f0 n0 nd2 (fun x hx=>⟨(fz x hx).1,(fz x hx).2.1⟩)
   have gW2:=Y2.at_ (r9 _ (r9 _ (se _ (sk _ nL))))
   have gtc2:=Y2.at_ (r9 _ (r9 _ (se _ (sk _ kA))))
   refine⟨_,U,_,U,W.p,_,W.dx,_,_,U,gW2,T.cl_Ways,T.n_Ways_to_callers,kx _,_,U,W.tc,_,_,_,U,U,SqL.of gtc2,aC eT,_,U,_,U,_,U,_,U,(show 2<=sizeLine by decide),fun bk hbk=>?_⟩
   obtain⟨L2,eL2⟩:∃ L2:Kn,(bk,HO.tup [.int k,.int 0])::(tp,HO.tup [.ref b0,.ref lv])::(lv,HO.lst (prV zs))::(N2++L)=L2:=⟨_,U⟩
   have toL2:∀ v ∈ L,v ∈ L2:=fun v hv=>by rw[<- eL2]; exact r9 _ (r9 _ (r9 _ (se _ hv)))
   have nL2:∀ v ∈ N2,v ∈ L2:=fun v hv=>by rw[<- eL2]; exact r9 _ (r9 _ (r9 _ (sk _ hv)))
   have ft2:FT y2 L2 ((N:Int),1) lT rsT:=ft.mv fun b hb=>by
    rcases sC.mp (gE hb) with h | h
    ·exact nL2 _ h
    ·exact toL2 _ h
   have mbk:pK2 (bk,((k:Int),0)) ∈ L2:=by rw[<- eL2]; exact sg
   have mlv:(lv,HO.lst (prV zs)) ∈ L2:=by rw[<- eL2]; exact r9 _ (r9 _ sg)
   have Y3:YIn t.c_Yard _ p y2 (wL t.c_Ways W++L2):=(Y2.alloc hbk (.tup [.int k,.int 0])).ac (by rw[<- eL2]; simp only[Ms.app,Ms.cons]; ac_rfl)
   refine tn0 ?_
   refine⟨p,y2,L2,W,(b0,(N:Int),0),bk,((k:Int),0),N+zS.2.length,M2,R,zs.map (·.2)++(zS.2.map (fun c=>c.2.1.2)++(zT.2.map (·.2)++G)),Pl,U,Y3,nL2 _ m0,mbk,D2,al2.perm (.cons _ ?_),wok.mono toL2,hpl,by omega,by omega,bR,by omega,fun H4 y4 N4 D4 i4 Ld4 up4 dn4 al4 wok4 mi4 wu4 ⟨o4,dw4,io4⟩ Y4=>?_⟩
   ·exact apc
   refine tn0 ?_
   refine fA (z:=i4) (zs:=zT.2) (G:=dE D4++(zs.map (·.2)++(zS.2.map (fun c=>c.2.1.2)++G))) Y4 (sk _ (nM (W:={ W with D:=D4 }) hT)) (fun x hx=>se _ (se _ (toL2 _ (mT x hx)))) (se _ (sk _ mi4)) Ld4 (al4.perm (.cons _ ?_)) (by omega) (by omega) bR (fun H5 y5 N5 M5 D5 bM5 up5 al5 ld5 Y5=>?_)
   ·have e:∀ a b c d g:List (Int×Int),(a++(b++(c++(d++g)))).Perm (d++(a++(b++(c++g)))):=fun a b c d g=>by
     have h1:(a++(b++(c++(d++g))))=(a++b++c)++(d++g):=by simp only[sr]
     have h2:d++(a++(b++(c++g)))=d++((a++b++c)++g):=by simp only[sr]
     rw[h1,h2,<- sr,<- sr]
     exact List.Perm.append_right _ List.perm_append_comm
    exact e _ _ _ _ _
   obtain⟨Nb,eNb⟩:∃ Nb:Nat,N+zS.2.length+1+(zT.2.length - 1)=Nb:=⟨_,U⟩
   rw[eNb] at D5
   have lpv:∀ l:List Pr,(prV l).length=l.length:=fun l=>by unfold prV; rw[su]
   obtain⟨Lw,eLw⟩:∃ Lw:Kn,N5++(N4++L2)=Lw:=⟨_,U⟩
   have toLw:∀ v ∈ L2,v ∈ Lw:=fun v hv=>by rw[<- eLw]; exact se _ (se _ hv)
   have Y6:YIn t.c_Yard H5 p y5 (wL t.c_Ways { W with D:=D4 }++([]++Lw)):=Y5.ac (by rw[<- eLw]; simp only[Ms.app,Ms.nil,Ms.zl]; ac_rfl)
   have wok6:WOk { W with D:=D4 } ([]++Lw) Pl:=wok4.mono fun v hv=>by rw[<- eLw]; exact se _ (se _ hv)
   have up6:=(up2.trans up4).trans up5
   have u25:=up4.trans up5
   have toW4:∀ v ∈ N4++L2,v ∈ Lw:=fun v hv=>by rw[<- eLw]; exact se _ hv
   have ft6:FT y5 Lw ((N:Int),1) lT rsT:=ft2.up u25 toLw
   have kf6:Kp y5 N .line:=kf.up u25
   have dw6:DW y5 Lw y2.sides.length ((N:Int),0) i4.2 o4.2:=dw4.up up5 fun b hb=>toW4 _ hb
   have ld6:∀ x ∈ zT.2,Lead y5 Lw x.2 i4.2:=fun x hx=>(ld5 x hx).mv fun b hb=>by rw[<- eLw]; exact gE hb
   refine⟨_,U,_,U,?_⟩
   refine tn0 ?_
   refine⟨lv,zS.1,U,⟨_,SqL.of (Y6.at_ (se _ (toLw _ mlv)))⟩,⟨_,SqL.of (Y6.at_ (sk _ (kB (W:={ W with D:=D4 }) hS)))⟩,iE (xs:=prV zs) (ys:=zS.2.map fun c=>V.ref c.1) (by rw[lpv,lS,lz]) (fun j σ H'=>∃ (y':YR) (D':List ((Int×Int)×Addr×List Pr)) (Nj:Kn) (M':Nat) (u1 u2 u3:Option V),σ=[some (.ref p),some (.ref W.p),some (.int k),some (.ref zS.1),some (.ref b0),some (.ref lv),u1,u2,u3] /\
    Ld y' (Nb+j) M' R/\M'<=M5+4*j/\(dE D').length=W.dn+1+j/\Up y y'/\Al y' (dE D'++((zs.drop j).map (·.2)++((zS.2.drop j).map (fun c=>c.2.1.2)++G)))/\WOk { W with D:=D' } (Nj++Lw) Pl/\YIn t.c_Yard H' p y' (wL t.c_Ways { W with D:=D' }++(Nj++Lw))/\Up y5 y'/\(∀ q x,inD D4 q x->inD D' q x)/\∀ (i:Nat) (lf:Pr) (c:Addr×Pr×Pr),i<j->zs[i]?=some lf->zS.2[i]?=some c->∃ (i9:Int×Int) (o9:Pr),DW y' (Nj++Lw) y2.sides.length lf.2 i9 o9.2/\inD D' c.2.2.2 o9/\Mt y' (Nj++Lw) c.2.1.2 i9/\Mt y' (Nj++Lw) i9 c.2.1.2)
    ⟨y5,D4,[],M5,_,_,_,U,D5,Nat.le_refl _,dn4,up6,al5,wok6,Y6,Up.refl _,(fun _ _ h=>h),fun i lf c h=>absurd h (Nat.not_lt_zero _)⟩ (fun j σ H' _ ⟨y',D',Nj,M',u1,u2,u3,_,_,_,_,_,_,_,Y',_⟩=>⟨SqL.of (Y'.at_ (se _ (se _ (toLw _ mlv)))),SqL.of (Y'.at_ (sk _ (kB (W:={ W with D:=D' }) hS)))⟩) ?_ ?_⟩
   ·clear Y6 wok6 up6 D5 al5 Y5
    rintro j v1 v2 σ H6 tp2 hv1 hv2 ⟨y6,D6,Nj,M6,u1,u2,u3,rfl,Ld6,bM6,dn6,up6,al6,wok6,Y6,u56,io6,cs6⟩ htp2
    unfold prV at hv1
    rw[sx] at hv1 hv2
    obtain⟨lf,hl1,rfl⟩:=Option.map_eq_some_iff.mp hv1
    obtain⟨c,hc1,rfl⟩:=Option.map_eq_some_iff.mp hv2
    have hj:j<zs.length:=(List.getElem?_eq_some_iff.mp hl1).1
    have hj2:j<zS.2.length:=(List.getElem?_eq_some_iff.mp hc1).1
    obtain⟨mc1,mc2,mc3,hcp⟩:=mS c (si hc1)
    have Y7:=Y6.alloc htp2 (.tup [.ref lf.1,.ref c.1])
    have gc:=Y7.at_ (r9 _ (se _ (se _ (toLw _ (toL2 _ mc1)))))
    refine⟨tp2,_,U,SqT.of (Y7.at_ sg),U,_,_,U,_,_,U,?_⟩
    refine⟨c.1,_,U,SqT.of gc,U,_,_,U,_,_,U,U,U,?_⟩
    dsimp only[List.set]
    have Y8:=Y7.drop
    have edz:zs.drop j=lf::zs.drop (j+1):=by rw[List.drop_eq_getElem_cons hj,(List.getElem?_eq_some_iff.mp hl1).2]
    have eds:zS.2.drop j=c::zS.2.drop (j+1):=by rw[List.drop_eq_getElem_cons hj2,(List.getElem?_eq_some_iff.mp hc1).2]
    rw[edz,eds,sH,sH,List.cons_append,List.cons_append] at al6
    obtain⟨A8,gy8⟩:=Y8.obj
    refine⟨_,U,p,A8.dx,_,U,gy8,(b7 _ _ _).2.2.1,_,U,_,U,_,U,_,U,_,U,?_⟩
    refine tn0 ?_
    have mlf:pK2 lf ∈ Nj++Lw:=se _ (toLw _ (nL2 _ (fz lf (si hl1)).2.2))
    refine⟨p,y6,Nj++Lw,{ W with D:=D6 },lf,c.2.2.1,c.2.2.2,Nb+j,M6,R,c.2.1.2::((zs.drop (j+1)).map (·.2)++((zS.2.drop (j+1)).map (fun c=>c.2.1.2)++G)),Pl,U,Y8,mlf,se _ (toLw _ (toL2 _ mc3)),Ld6,al6.perm ?_,wok6,hcp,by omega,by omega,bR,by show(dE D6).length<=5000; omega,fun H9 y9 N9 D9 i9 Ld9 up9 dn9 al9 wok9 mi9 wu9 ⟨o9,dw9,io9⟩ Y9=>?_⟩
    ·refine List.perm_middle.trans (.cons _ (List.Perm.append_left _ ?_))
     exact List.perm_middle
    refine tn0 ?_
    have al9':Al y9 (c.2.1.2::i9.2::(dE D9++((zs.drop (j+1)).map (·.2)++((zS.2.drop (j+1)).map (fun c=>c.2.1.2)++G)))):=al9.perm ((List.Perm.cons _ List.perm_middle).trans (.swap _ _ _))
    have fo:=al9'.2 _ sg
    have fi:=al9'.2 _ (r9 _ sg)
    refine cm (a:=c.2.1) (b:=i9) Y9 Ld9 (by omega) (se _ (se _ (se _ (toLw _ (toL2 _ mc2))))) (se _ (sk _ mi9)) fo fi al9'.ne (fun H10 Y10=>?_)
    refine⟨_,D9,N9++Nj,M6+2+2,_,_,_,U,Ld9.link fo fi,by omega,by rw[dn9]; show(dE D6).length+1=_; omega,(up6.trans up9).trans (Up.link fo fi),Al.link al9',?_,?_,(u56.trans up9).trans (Up.link fo fi),(fun q x h=>wu9.d q x (io6 q x h)),fun i lf' c' hi hz hq=>?_⟩
    ·rw[sr]; exact wok9
    ·rw[sr]; exact Y10
    ·rw[sr]
     have l10:=Up.link (a:=c.2.1) (b:=i9) fo fi
     rcases Nat.lt_succ_iff_lt_or_eq.mp hi with hi | rfl
     ·obtain⟨i',o',g1,g2,g3,g4⟩:=cs6 i lf' c' hi hz hq
      have s:∀ v ∈ Nj++Lw,v ∈ N9++(Nj++Lw):=fun v hv=>se _ hv
      exact⟨i',o',g1.up (up9.trans l10) (fun b hb=>s _ hb),wu9.d _ _ g2,g3.up (up9.trans l10) s,g4.up (up9.trans l10) s⟩
     ·rw[hl1] at hz
      rw[hc1] at hq
      cases hz
      cases hq
      exact⟨i9.2,o9,(dw9.up l10 (fun b hb=>hb)).weak (u25.trans u56).sl,io9,Mt.l1 (sk _ mi9) al9'.ne,Mt.l2 (se _ (se _ (toLw _ (toL2 _ mc2))))⟩
   ·clear Y6 wok6 up6 D5 al5 Y5
    rintro σ H6 ⟨y6,D6,Nj,M6,u1,u2,u3,rfl,Ld6,bM6,dn6,up6,al6,wok6,Y6,u56,io6,cs6⟩
    rw[lpv] at Ld6 bM6 dn6 al6 cs6
    rw[List.drop_length,lz,List.drop_length,List.map_nil,List.map_nil,List.nil_append,List.nil_append] at al6
    have e:Nj++Lw=(Nj++(N5++(N4++[(bk,HO.tup [.int k,.int 0]),(tp,HO.tup [.ref b0,.ref lv]),(lv,HO.lst (prV zs))]))++N2)++L:=by
     rw[<- eLw,<- eL2]
     simp only[sr,List.cons_append,List.nil_append]
    have sj:∀ v ∈ Lw,v ∈ Nj++Lw:=fun v hv=>se _ hv
    have cw:CallsW y y6 (Nj++Lw) D6 k zS.2 zT.2:=by
     refine .inr ⟨hc,N,lT,zs.map (·.2),rsT,y2.sides.length,i4.2,o4,kf6.up u56,ft6.up u56 sj,lpm,by rw[su]; exact lz,rnd,(by rw[Ld6.nx]; omega),(u25.trans u56).sl,rbd,dw6.up u56 (fun b hb=>sj _ hb),io6 _ _ io4,fun x hx=>(ld6 x hx).up u56 sj,fun j lf c a b=>?_⟩
     rw[sx] at a
     obtain⟨z,hz,rfl⟩:=Option.map_eq_some_iff.mp a
     exact cs6 j z c (List.getElem?_eq_some_iff.mp hz).1 hz b
    refine q H6 y6 _ D6 _ M6 Ld6 (by omega) (by omega) up6 al6 (by rw[<- e]; exact wok6) (fun q x h=>io6 q x (wu4.d q x h)) (by rw[<- e]; exact cw) (by rw[<- e]; exact Y6)
end
theorem ip (A:PA):(pfl A).lookup ("rows" : Str)=none:=by kernel_rfl
inductive sp_prows (C:Addr) (vs:List V) (H:Hp) (Q:VK) (E_:XK):Prop
 | mk (A:PA) (ms ws:List Int) (ss:Ss) (L:Kn) (k:Nat) (z:Addr×List (Addr×Rw)) (_:vs=[.ref A.p,.int k]) (_:Has H L) (_:PIn C A ms ws ss L) (_:ss[k]?=some z) (_:∀ H' l,Has H' ((l,.lst (rwV z.2))::L)->Q (.ref l) H'):sp_prows C vs H Q E_
section
variable {P:Program}{w:World}{K:PySem.W.Frag}{mg:Str->Option Value}{base:Heap}{t:Adr}
theorem scPs:FnScope ["self","stretch"] ["self","stretch"] (aj qV):={}
theorem oQ (T:Txt K mg t):FnOk P w K mg base CX0 2 t.f_Jk t.d_Jk ["self","stretch"] (sp_prows t.c_Program):=by
 refine T.F_Jk.ok scPs (fun vs H Q E h=>?_) (fun cdv A outer s H vs Q E hr h=>?_)
 ·obtain⟨_,_,_,_,_,_,_,rfl,_⟩:=h
  rfl
 ·obtain⟨A,ms,ws,ss,L,k,z,rfl,hH,pin,hz,q⟩:=h
  have hL:∀ {z:Addr×HO},z ∈ L->H z.1=some z.2:=fun m=>hH.at_ _ m
  have hk:k<ss.length:=(List.getElem?_eq_some_iff.mp hz).1
  refine⟨_,(ae (ao (pcl (lr T) hr T.m_Jc T.F_Jc.kp (qx T) (aa (pv 1) (aa (aT (pv 0) T.cl_Program T.M_Ji (fu T) hr (ja T) .nil az) ah))))
   (ai (aB (bu bh (by rfl) T.z_list (by rfl) (aa (aM aN (aw (pv 0) rfl) (pv 1)) ah))))),?_⟩
  refine⟨_,U,_,U,A.p,A.dx,_,U,hL pin.p,(cq _).1,A,_,U,hL pin.p,hL pin.s,k,_,U,by omega,(by unfold ssV; rw[su]; omega),?_⟩
  exact⟨_,U,A.p,_,A.dx,_,_,U,hL pin.p,T.cl_Program,T.n_Program_Jt,jo _,_,U,A.s,_,_,_,U,U,SqL.of (hL pin.s),aC (cX hz),z.1,_,U,.inl (SqL.of (hL (pin.l z (si hz)))),fun l hl=>q _ l (hH.alloc hl _)⟩
end
noncomputable def dF (ds:List (Addr×List Pr)):List (Int×Int):=ds.flatMap fun z=>z.2.map (·.2)
noncomputable def dB (ds:List (Addr×List Pr)):List (Int×Int):=ds.flatMap fun z=>z.2.map fun e=>(e.2.1,1)
noncomputable def dN (ds:List (Addr×List Pr)) (q:Int×Int):Prop:=∃ (k r:Nat) (z:Addr×List Pr) (e:Pr),q=((k:Int),(r:Int))/\ds[k]?=some z/\z.2[r]?=some e
noncomputable def rcs (cr:List (Addr×List Int)) (rs:List (Addr×Rw)):Nat:=(rs.map fun x=>x.2.rc cr).sum
noncomputable def rct (cr:List (Addr×List Int)) (ss:Ss):Nat:=(ss.map fun z=>rcs cr z.2).sum
noncomputable def rln (ss:Ss):Nat:=(ss.map fun z=>z.2.length).sum
noncomputable def DMt (ds:List (Addr×List Pr)) (ss:Ss):Prop:=ds.map (fun z=>z.2.length)=ss.map (fun z=>z.2.length)
variable{ss:Ss}
theorem DMt.get (h:DMt ds ss) {k:Nat}{z:Addr×List (Addr×Rw)} (hz:ss[k]?=some z):∃ u,ds[k]?=some u/\u.2.length=z.2.length:=by
 have e:(ds.map fun z=>z.2.length)[k]?=some z.2.length:=by rw[h,sx,hz]; rfl
 rw[sx] at e
 obtain⟨u,h1,h2⟩:=Option.map_eq_some_iff.mp e
 exact⟨u,h1,h2⟩
theorem DMt.len (h:DMt ds ss):ds.length=ss.length:=by simpa using congrArg List.length h
theorem DMt.pl (h:DMt ds ss) {k r:Nat}{z:Addr×List (Addr×Rw)} (hz:ss[k]?=some z) (hr:r<z.2.length):dN ds ((k:Int),(r:Int)):=by
 obtain⟨u,h1,h2⟩:=h.get hz
 exact⟨k,r,u,u.2[r]'(by omega),U,h1,sq (by omega)⟩
theorem cv {α:Type}{l:List α}{k:Nat}{z:α} (h:l[k]?=some z):l.take (k+1)=l.take k++[z]:=by rw[List.take_succ,h]; rfl
theorem ik {k:Nat}{z:Addr×List (Addr×Rw)} (h:ss[k]?=some z):rct cr (ss.take (k+1))=rct cr (ss.take k)+rcs cr z.2:=by
 unfold rct
 rw[cv h,sw,List.sum_append]
 simp
theorem cZ {k:Nat}{z:Addr×List (Addr×Rw)} (h:ss[k]?=some z):rln (ss.take (k+1))=rln (ss.take k)+z.2.length:=by
 unfold rln
 rw[cv h,sw,List.sum_append]
 simp
theorem il {rs:List (Addr×Rw)}{r:Nat}{x:Addr×Rw} (h:rs[r]?=some x):rcs cr (rs.take (r+1))=rcs cr (rs.take r)+x.2.rc cr:=by
 unfold rcs
 rw[cv h,sw,List.sum_append]
 simp
theorem iO {l:List Nat}{m:List Nat} (h:l.Sublist m):l.sum<=m.sum:=by
 induction h with
 | slnil=>exact Nat.le_refl _
 | cons a _ ih=>rw[List.sum_cons]; omega
 | cons_cons a _ ih=>rw[List.sum_cons,List.sum_cons]; omega
theorem pG {cr:List (Addr×List Int)}{ss:Ss} (k:Nat):rct cr (ss.take k)<=rct cr ss:=iO ((List.take_sublist k ss).map _)
theorem kQ {ss:Ss} (k:Nat):rln (ss.take k)<=rln ss:=iO ((List.take_sublist k ss).map _)
theorem pH {cr:List (Addr×List Int)}{rs:List (Addr×Rw)} (k:Nat):rcs cr (rs.take k)<=rcs cr rs:=iO ((List.take_sublist k rs).map _)
theorem lV:∀ {ds:List (Addr×List Pr)}{k r k' r':Nat}{z z':Addr×List Pr}{e e':Pr},(dF ds).Nodup->ds[k]?=some z->z.2[r]?=some e->ds[k']?=some z'->z'.2[r']?=some e'->e.2=e'.2->k=k'/\r=r'
 | [],k,_,_,_,_,_,_,_,_,h,_,_,_,_=>by simp at h
 | u::ds,k,r,k',r',z,z',e,e',nd,h1,h2,h3,h4,he=>by
  have nd:(u.2.map (·.2)++dF ds).Nodup:=nd
  obtain⟨n1,n2,n3⟩:=List.nodup_append.mp nd
  have out:∀ {j s:Nat}{v:Addr×List Pr}{g:Pr},ds[j]?=some v->v.2[s]?=some g->g.2 ∈ dF ds:=fun hv hg=>List.mem_flatMap.mpr ⟨_,si hv,sF (f:=fun x:Pr=>x.2) (si hg)⟩
  cases k with
  | zero=>
   cases h1
   cases k' with
   | zero=>
    cases h3
    refine⟨U,?_⟩
    have hr:r<(u.2.map (fun x:Pr=>x.2)).length:=by rw[su]; exact(List.getElem?_eq_some_iff.mp h2).1
    refine(List.getElem?_inj hr n1).mp ?_
    rw[sx,sx,h2,h4]
    exact congrArg some he
   | succ k'=>exact absurd he (n3 _ (sF (f:=fun x:Pr=>x.2) (si h2)) _ (out h3 h4))
  | succ k=>
   cases k' with
   | zero=>
    cases h3
    exact absurd he.symm (n3 _ (sF (f:=fun x:Pr=>x.2) (si h4)) _ (out h1 h2))
   | succ k'=>
    obtain⟨a,b⟩:=lV n2 h1 h2 h3 h4 he
    exact⟨by rw[a],b⟩
theorem iG (nf:(dF ds).Nodup):∀ {D:List ((Int×Int)×Addr×List Pr)},(D.map (·.1)).Nodup->(∀ z ∈ D,dN ds z.1)->∃ es:List Pr,es.length=D.length/\(es.map (·.2)).Nodup/\(∀ x ∈ es,x.2 ∈ dF ds) /\
  ∀ (i:Nat) z,D[i]?=some z->∃ (k r:Nat) (u:Addr×List Pr) (e:Pr),z.1=((k:Int),(r:Int))/\ds[k]?=some u/\u.2[r]?=some e/\es[i]?=some e
 | [],_,_=>⟨[],U,List.nodup_nil,fun x hx=>(nomatch hx),fun i z h=>by simp at h⟩
 | w::D,nd,pl=>by
  obtain⟨n1,n2⟩:=List.nodup_cons.mp nd
  obtain⟨es,le,ne,me,ge⟩:=iG nf n2 fun z hz=>pl z (r9 _ hz)
  obtain⟨k,r,u,e,e1,h1,h2⟩:=pl w sg
  have mF:e.2 ∈ dF ds:=List.mem_flatMap.mpr ⟨u,si h1,sF (f:=fun x:Pr=>x.2) (si h2)⟩
  refine⟨e::es,by rw[sG,sG,le],List.nodup_cons.mpr ⟨fun c=>?_,ne⟩,fun x hx=>?_,fun i z h=>?_⟩
  ·obtain⟨x,hx,ex⟩:=sQ.mp c
   obtain⟨i,hi⟩:=List.mem_iff_getElem?.mp hx
   have hil:i<D.length:=by rw[<- le]; exact(List.getElem?_eq_some_iff.mp hi).1
   obtain⟨k',r',u',e',e1',h1',h2',h3'⟩:=ge i _ (sq hil)
   rw[hi] at h3'
   cases h3'
   obtain⟨a,b⟩:=lV nf h1 h2 h1' h2' ex.symm
   refine n1 (sQ.mpr ⟨_,List.getElem_mem hil,?_⟩)
   show _=w.1
   rw[e1',e1,a,b]
  ·rcases sD.mp hx with rfl | hx
   ·exact mF
   ·exact me x hx
  ·cases i with
   | zero=>cases h; exact⟨k,r,u,e,e1,h1,h2,U⟩
   | succ i=>exact ge i z h
theorem pS {nm nc:Nat} (dm:DMt ds ss) (good:Good nm nc ss) {k r:Nat}{z:Addr×List (Addr×Rw)}{x:Addr×Rw} (hz:ss[k]?=some z) (hx:z.2[r]?=some x):∀ q ∈ x.2.onw k r,dN ds q:=by
 obtain⟨ok,la,ly,hla,hlast⟩:=good k z hz
 have hr:r<z.2.length:=(List.getElem?_eq_some_iff.mp hx).1
 have xok:=ok x (si hx)
 have nl:x.2.last=false->dN ds ((k:Int),(r:Int)+1):=fun h=>by
  have:r+1<z.2.length:=by
   rcases Nat.lt_or_ge (r+1) z.2.length with c | c
   ·exact c
   ·exfalso
    rw[List.getLast?_eq_getElem?,show z.2.length - 1=r by omega,hx] at hla
    cases hla
    rw[h] at hlast
    cases hlast
  exact dm.pl hz this
 have ir:∀ {a:Int},0<=a->a<z.2.length->dN ds ((k:Int),a):=fun {a} h0 h1=>by
  obtain⟨n,rfl⟩:=Int.eq_ofNat_of_zero_le h0
  exact dm.pl hz (by omega)
 obtain⟨xa,xr⟩:=x
 cases xr with
 | bell n=>intro q hq; rw[sy.mp hq]; exact nl rfl
 | call s=>
  intro q hq
  rcases sD.mp hq with rfl | hq
  ·obtain⟨s0,s1⟩:=xok
   obtain⟨n,rfl⟩:=Int.eq_ofNat_of_zero_le (show 0<=s by omega)
   have hn:n<ss.length:=by omega
   obtain⟨_,a',y',h',_⟩:=good n _ (sq hn)
   refine dm.pl (r:=0) (sq hn) ?_
   cases e:ss[n].2 with
   | nil=>rw[e] at h'; cases h'
   | cons=>exact Nat.succ_pos _
  ·rw[sy.mp hq]; exact nl rfl
 | fin=>intro q hq; cases hq
noncomputable def RowsW (y:YR) (L:Kn) (mr:List Int) (cr:List (Addr×List Int)) (W:WS) (ds:List (Addr×List Pr)) (ss:Ss) (p:Nat->Nat->Prop):Prop :=
 ∀ k r z x u e,p k r->ss[k]?=some z->z.2[r]?=some x->ds[k]?=some u->u.2[r]?=some e->RowW y L mr cr W k r (e.2.1,1) x.2
theorem RowsW.up {y y':YR}{L L':Kn}{W W':WS}{p:Nat->Nat->Prop} (h:RowsW y L mr cr W ds ss p) (u:Up y y') (s:∀ b:Pr,pK2 b ∈ L->pK2 b ∈ L') (w:Wup W W'):RowsW y' L' mr cr W' ds ss p :=
 fun k r z x u' e a b c d f=>(h k r z x u' e a b c d f).up u s w
noncomputable def AllC (Yf:Nat->YR) (L:Kn) (W:WS) (n:Nat):Prop:=∀ j,j<n->Up (Yf j) (Yf (j+1))/\∀ zS zT,W.S[j]?=some zS->W.T[j]?=some zT->CallsW (Yf j) (Yf (j+1)) L W.D j zS.2 zT.2
noncomputable def ToDoor (y:YR) (L:Kn) (ds:List (Addr×List Pr)) (pl o:Int×Int):Prop:=∃ (k r:Nat) (u:Addr×List Pr) (e:Pr),pl=((k:Int),(r:Int))/\ds[k]?=some u/\u.2[r]?=some e/\Lead y L o e.2
theorem ToDoor.up {y y':YR}{L L':Kn}{pl o:Int×Int} (h:ToDoor y L ds pl o) (u:Up y y') (s:∀ b:Pr,pK2 b ∈ L->pK2 b ∈ L'):ToDoor y' L' ds pl o:=by
 obtain⟨k,r,z,e,h1,h2,h3,h4⟩:=h
 exact⟨k,r,z,e,h1,h2,h3,(h4.up u (fun _ h=>h)).mv s⟩
noncomputable def mh (y0 y:YR) (L:Kn) (mr:List Int) (cr:List (Addr×List Int)) (ds:List (Addr×List Pr)) (ss:Ss):Prop:=∃ (W:WS) (Yf:Nat->YR),W.S.length=ss.length/\W.T.length=ss.length/\S0 W/\RowsW y L mr cr W ds ss (fun _ _=>True)/\Up y0 (Yf 0)/\Up (Yf ss.length) y/\AllC Yf L W ss.length/\∀ pl o,inD W.D pl o->ToDoor y L ds pl o.2
inductive sp_lways (Cy Cl Cp:Addr) (vs:List V) (H:Hp) (Q:VK) (E_:XK):Prop
 | mk (p:Addr) (y:YR) (L:Kn) (A:LA) (B:PA) (ds:List (Addr×List Pr)) (mr:List Int) (cr:List (Addr×List Int)) (ms ws:List Int) (ss:Ss) (N M R:Nat) (_:vs=[.ref A.p,.ref B.p]) (_:A.y=p) (_:YIn Cy H p y L) (_:LIn Cl A ds mr cr L) (_:PIn Cp B ms ws ss L) (_:Good mr.length cr.length ss) (_:DMt ds ss) (_:Ld y N M R) (_:Al y (dF ds++dB ds)) (_:ROk mr cr y.sides.length) (_:ss.length<=100) (_:N+rct cr ss+2*ss.length<=4500) (_:M+60*rln ss+10*ss.length<=18000) (_:R<=1000) (_:∀ H' y' Nw N' M',Ld y' N' M' R->N'<=N+rct cr ss+2*ss.length->Up y y'->mh y y' (Nw++L) mr cr ds ss->YIn Cy H' p y' (Nw++L)->Q .non H'):sp_lways Cy Cl Cp vs H Q E_
section
variable {P:Program}{w:World}{K:PySem.W.Frag}{mg:Str->Option Value}{base:Heap}{t:Adr}
theorem scLy2:FnScope ["laid","program","ways","stretch","number","row","place","outs"] ["laid","program"] (aj om):={}
theorem p9 (T:Txt K mg t):FnOk P w K mg base CX0 9 t.f_J71 t.d_J71 ["laid","program"] (sp_lways t.c_Yard t.c_Laid t.c_Program):=by
 refine T.F_J71.ok scLy2 (fun vs H Q E h=>?_) (fun cdv A outer s H vs Q E hr h=>?_)
 ·obtain⟨_,_,_,_,_,_,_,_,_,_,_,_,_,_,rfl,_⟩:=h
  rfl
 ·obtain⟨p,y,L,A',B,ds,mr,cr,ms,ws,ss,N,M,R,rfl,eY,Y,lin,pin,good,dm,D,al,rok,bs,bN,bM,bR,q⟩:=h
  subst eY
  refine⟨_,(ae (aH (i:=2) scLy2.nd rfl (Or.inl rfl) (gR T.mk_Ways (ok_Jz T) (hr.mono (by decide)) (by rfl) T.m_Ways (b_Jz T) .nil az (aa (aT (pv 1) T.cl_Program T.M_Ji (fu T) hr (ja T) .nil az) ah)))
   (ae (bi PassesOwn.never rfl (bp (by rfl) T.z_range (aa (aT (pv 1) T.cl_Program T.M_Ji (fu T) hr (ja T) .nil az) ah)) (aq (i:=3) scLy2.nd rfl (Or.inl rfl))
    (ai (bi PassesOwn.never rfl (gQ (by rfl) T.z_enumerate (aa (ax (pv 1) T.cl_Program T.M_Jk (oQ T) hr (rV T) .nil az (aa (pv 3) ah)) ah)) (bt rfl (ay (aq (i:=4) scLy2.nd rfl (Or.inl rfl)) (ay (aq (i:=5) scLy2.nd rfl (Or.inl rfl)) ba)))
      (ai (ao (pcl (pZ T) hr T.m_Jf1 T.F_Jf1.kp (b_Jf1 T) (aa (pv 0) (aa (pv 2) (aa (pv 5) (aa (pv 3) (aa (pv 4) ah)))))))))))
   (ae (bi PassesOwn.never rfl (bp (by rfl) T.z_range (aa (aT (pv 1) T.cl_Program T.M_Ji (fu T) hr (ja T) .nil az) ah)) (aq (i:=3) scLy2.nd rfl (Or.inl rfl))
    (ai (ao (pcl (ok_Ju T) hr T.m_Ju T.F_Ju.kp (b_Ju T) (aa (aw (pv 0) rfl) (aa (pv 2) (aa (pv 3) ah)))))))
   (ai (kT (bi PassesOwn.never rfl (jQ (aw (pv 2) rfl)) (bt rfl (ay (aq (i:=6) scLy2.nd rfl (Or.inl rfl)) (ay (aq (i:=7) scLy2.nd rfl (Or.inl rfl)) ba)))
    (ae (ce (pv 6) (bt rfl (ay (aq (i:=3) scLy2.nd rfl (Or.inl rfl)) (ay (aq (i:=4) scLy2.nd rfl (Or.inl rfl)) ba))))
     (ai (ao (pcl (fq T) hr T.m_merge T.F_merge.kp (hJ T) (aa (aw (pv 0) rfl) (aa (pv 7) (aa (ax (pv 0) T.cl_Laid T.M_J11 (iV T) hr (l3 T) .nil az (aa (pv 3) (aa (pv 4) ah))) ah))))))))))))),?_⟩
  rw[show L2.start ["laid","program","ways","stretch","number","row","place","outs"] [V.ref A'.p,V.ref B.p]=([some (V.ref A'.p),some (V.ref B.p),none,none,none,none,none,none]:St) from rfl]
  have lss:(ssV ss).length=ss.length:=by unfold ssV; rw[su]
  have many:∀ {H':Hp}{Q':V->Hp->Prop},(∀ v ∈ L,H' v.1=some v.2)->Q' (.int ss.length) H'->sp_many t.c_Program [.ref B.p] H' Q' E0:=fun {H' Q'} hL hq=>⟨B,_,U,hL _ pin.p,hL _ pin.s,by rw[lss]; exact hq⟩
  refine⟨_,U,B.p,B.dx,_,U,Y.at_ pin.p,(cq _).1,?_⟩
  refine tn0 ?_
  refine many (fun v hv=>Y.at_ hv) ?_
  refine tn0 ?_
  intro wp dx h1 h2 h3
  obtain⟨Ay,eAy,hY,reY⟩:=Y.re
  refine⟨wp,dx,yL t.c_Yard Ay y++L,ss.length,U,(hY.alloc h2 _).alloc ?_ _,by omega,fun H2 W eW eD eSl eTl hS hT h4=>?_⟩
  ·rw[aA (Ne.symm h3)]; exact h1
  refine⟨U,?_⟩
  dsimp only[gj,List.set]
  have Y1:YIn t.c_Yard H2 A'.y y (wL t.c_Ways W++([]++L)):=reY eAy (fun z hz=>se _ hz) (h4.perm (List.perm_append_comm_assoc _ _ _))
  clear hY h4 h1 h2 h3
  have inL:∀ {W:WS}{Nw:Kn}{v:Addr×HO},v ∈ L->v ∈ wL t.c_Ways W++(Nw++L):=fun h=>se _ (se _ h)
  have nS:sE W.S=[]:=by
   unfold sE
   rw[List.flatMap_eq_nil_iff]
   intro z hz
   rw[hS z hz]; rfl
  have nT:tE W.T=[]:=by
   unfold tE
   rw[List.flatMap_eq_nil_iff]
   intro z hz
   rw[hT z hz]; rfl
  have wok1:WOk W ([]++L) (dN ds):=⟨by rw[eD]; exact List.nodup_nil,by rw[eD]; exact(fun z hz=>(nomatch hz)),by rw[eD]; exact(fun z hz=>(nomatch hz)),by rw[eD]; exact(fun z hz=>(nomatch hz)),(fun z hz c hc=>by rw[hS z hz] at hc; exact(nomatch hc)),(fun z hz c hc=>by rw[hT z hz] at hc; exact(nomatch hc))⟩
  have pd1:W.pend=[]:=by unfold WS.pend; rw[eD,nS,nT]; rfl
  have c1:W.cN=0:=by unfold WS.cN WS.dn WS.sn WS.tn; rw[eD,nS,nT]; rfl
  have c2:W.cM=0:=by unfold WS.cM WS.dn WS.sn WS.tn; rw[eD,nS,nT]; rfl
  refine⟨_,U,B.p,B.dx,_,U,Y1.at_ (inL pin.p),(cq _).1,?_⟩
  refine tn0 ?_
  refine many (fun v hv=>Y1.at_ (inL hv)) ?_
  refine tn0 ?_
  refine⟨_,U,by omega,by omega,bw (fun k σ H'=>∃ (y':YR) (W:WS) (Nw:Kn) (N' M':Nat) (o1 o2 o3 o4 o5:Option V),σ=[some (.ref A'.p),some (.ref B.p),some (.ref wp),o1,o2,o3,o4,o5]/\W.p=wp/\W.S.length=ss.length/\W.T.length=ss.length/\S0 W/\Ld y' N' M' R/\N'+W.cN<=N+rct cr (ss.take k)/\M'+W.cM<=M+60*rln (ss.take k)/\Up y y' /\
   Al y' (W.pend++(dB (ds.drop k)++dF ds))/\WOk W (Nw++L) (dN ds)/\YIn t.c_Yard H' A'.y y' (wL t.c_Ways W++(Nw++L))/\RowsW y' (Nw++L) mr cr W ds ss (fun j _=>j<k)) ⟨y,W,[],N,M,_,_,_,_,_,U,eW,eSl,eTl,fun z hz=>hS z (si hz),D,by rw[c1]; exact Nat.le_refl _,by rw[c2]; exact Nat.le_refl _,Up.refl _,?_,wok1,Y1,fun k' r' z' x' u' e' a=>absurd a (Nat.not_lt_zero _)⟩ ?_ ?_⟩
  ·rw[pd1]
   exact al.perm List.perm_append_comm
  ·clear Y1 wok1 pd1 c1 c2 eW eD eSl eTl hS hT nS nT
   rintro k σ H3 hk ⟨y1,W,Nw,N1,M1,o1,o2,o3,o4,o5,rfl,eW,eSl,eTl,s0,D1,bN1,bM1,up1,al1,wok1,Y1,rw1⟩
   have hkl:k<ss.length:=by omega
   have hz:=sq hkl
   obtain⟨z,ez⟩:∃ z,ss[k]=z:=⟨_,U⟩
   rw[ez] at hz
   have hzm:=si hz
   obtain⟨u,hu,lu⟩:=dm.get hz
   have hkd:k<ds.length:=by rw[dm.len]; exact hkl
   have edr:ds.drop k=u::ds.drop (k+1):=by rw[List.drop_eq_getElem_cons hkd,(List.getElem?_eq_some_iff.mp hu).2]
   have edB:dB (ds.drop k)=u.2.map (fun e=>(e.2.1,1))++dB (ds.drop (k+1)):=by rw[edr]; rfl
   rw[edB] at al1
   have hge:=pG (cr:=cr) (ss:=ss) (k+1)
   have hgl:=kQ (ss:=ss) (k+1)
   rw[ik hz] at hge
   rw[cZ hz] at hgl
   dsimp only[List.set]
   rw[Int.zero_add]
   refine⟨_,U,B.p,B.dx,_,U,Y1.at_ (inL pin.p),ip _,_,U,?_⟩
   refine tn0 ?_
   obtain⟨A1,eA1,hY1,re1⟩:=Y1.rac
   refine⟨B,ms,ws,ss,_,k,z,U,hY1,pin.mono fun v hv=>se _ (inL hv),hz,fun H4 l h4=>?_⟩
   refine tn0 ?_
   have Y2:YIn t.c_Yard H4 A'.y y1 (wL t.c_Ways W++(((l,HO.lst (rwV z.2))::Nw)++L)):=re1 (X:=[(l,HO.lst (rwV z.2))]) h4 (Ms.perm (by simp only[List.cons_append,List.nil_append,Ms.app,Ms.cons]; ac_rfl))
   have wok2:WOk W (((l,HO.lst (rwV z.2))::Nw)++L) (dN ds):=wok1.mono fun v hv=>r9 _ hv
   have lrw:(rwV z.2).length=z.2.length:=by unfold rwV; rw[su]
   refine⟨l,U,⟨_,SqL.of (Y2.at_ (se _ sg))⟩,fI (xs:=rwV z.2) (fun r σ H'=>∃ (y':YR) (W:WS) (Nw:Kn) (N' M':Nat) (o2 o3 o4 o5:Option V),σ=[some (.ref A'.p),some (.ref B.p),some (.ref wp),some (.int k),o2,o3,o4,o5]/\W.p=wp/\W.S.length=ss.length/\W.T.length=ss.length/\S0 W/\Ld y' N' M' R/\N'+W.cN<=N+rct cr (ss.take k)+rcs cr (z.2.take r)/\M'+W.cM<=M+60*(rln (ss.take k)+r)/\Up y y' /\
    Al y' (W.pend++((u.2.drop r).map (fun e=>(e.2.1,1))++(dB (ds.drop (k+1))++dF ds)))/\WOk W (Nw++L) (dN ds)/\(l,HO.lst (rwV z.2)) ∈ Nw/\YIn t.c_Yard H' A'.y y' (wL t.c_Ways W++(Nw++L))/\RowsW y' (Nw++L) mr cr W ds ss (fun j i=>j<k∨(j=k/\i<r)))
    ⟨y1,W,_,N1,M1,_,_,_,_,U,eW,eSl,eTl,s0,D1,bN1,bM1,up1,by rw[List.drop_zero]; rw[sr] at al1; exact al1,wok2,sg,Y2,fun k' r' z' x' u' e' a b c d f=>(rw1 k' r' z' x' u' e' (a.elim id fun q=>absurd q.2 (Nat.not_lt_zero _)) b c d f).up (Up.refl _) (fun b hb=>r9 _ hb) (Wup.refl _)⟩ (fun r σ H' _ ⟨y',W,Nw,N',M',_,_,_,_,_,_,_,_,_,_,_,_,_,_,_,ml,Y',_⟩=>SqL.of (Y'.at_ (se _ (sk _ ml)))) ?_ ?_⟩
   ·clear Y2 wok2 al1 up1 bN1 bM1 D1 eW eSl eTl wok1 hY1 h4
    rintro r v σ H5 tp hv ⟨y2,W,Nw,N2,M2,o2,o3,o4,o5,rfl,eW,eSl,eTl,s0,D2,bN2,bM2,up2,al2,wok2,ml,Y2,rw2⟩ htp
    unfold rwV at hv
    rw[sx] at hv
    obtain⟨x,hx,rfl⟩:=Option.map_eq_some_iff.mp hv
    have hr:r<z.2.length:=(List.getElem?_eq_some_iff.mp hx).1
    have Y3:=Y2.alloc htp (.tup [.int r,.ref x.1])
    refine⟨tp,_,U,SqT.of (Y3.at_ sg),U,_,_,U,_,_,U,U,?_⟩
    dsimp only[List.set]
    have Y4:=Y3.drop
    have hru:r<u.2.length:=by omega
    have he:=sq hru
    obtain⟨e,ee⟩:∃ e,u.2[r]=e:=⟨_,U⟩
    rw[ee] at he
    have edu:u.2.drop r=e::u.2.drop (r+1):=by rw[List.drop_eq_getElem_cons hru,ee]
    rw[edu,sH,List.cons_append] at al2
    have hcs:=pH (cr:=cr) (rs:=z.2) (r+1)
    rw[il hx] at hcs
    have xok:=(good k z hz).1 x (si hx)
    rw[<- eSl] at xok
    refine⟨_,U,_,U,_,U,_,U,_,U,?_⟩
    refine tn0 ?_
    subst eW
    refine⟨A'.y,y2,Nw++L,A',ds,mr,cr,W,x.1,x.2,k,r,u,e,N2,M2,R,z.2.length,(u.2.drop (r+1)).map (fun e=>(e.2.1,1))++(dB (ds.drop (k+1))++dF ds),dN ds,U,U,Y4,lin.mono fun v hv=>se _ hv,se _ (pin.r z hzm x (si hx)),hu,he,D2,al2,xok,rok.up up2,wok2,by omega,pS dm good hz hx,by omega,by omega,bR,fun H6 y6 N6 W6 N6' M6' e6 eS6 eT6 D6 bN6 bM6 up6 al6 wok6 wu6 rwn Y6=>?_⟩
    refine⟨y6,W6,N6++Nw,N6',M6',_,_,_,_,U,e6,by omega,by omega,wu6.z s0,D6,by rw[il hx]; omega,by omega,up2.trans up6,al6,by rw[sr]; exact wok6,se _ ml,by rw[sr]; exact Y6,fun k' r' z' x' u' e' a b c d f=>?_⟩
    rw[sr]
    by_cases new:k'=k/\r'=r
    ·obtain⟨rfl,rfl⟩:=new
     rw[hz] at b
     cases b
     rw[hx] at c
     cases c
     rw[hu] at d
     cases d
     rw[he] at f
     cases f
     exact rwn
    ·exact(rw2 k' r' z' x' u' e' (by omega) b c d f).up up6 (fun b hb=>se _ hb) wu6
   ·rintro σ H5 ⟨y2,W,Nw,N2,M2,o2,o3,o4,o5,rfl,eW,eSl,eTl,s0,D2,bN2,bM2,up2,al2,wok2,ml,Y2,rw2⟩
    rw[lrw] at bN2 bM2 al2
    rw[<- lu,List.drop_length,List.map_nil,List.nil_append] at al2
    rw[List.take_length] at bN2
    exact⟨y2,W,Nw,N2,M2,_,_,_,_,_,U,eW,eSl,eTl,s0,D2,by rw[ik hz]; omega,by rw[cZ hz]; omega,up2,al2,wok2,Y2,fun k' r' z' x' u' e' a b c d f=>rw2 k' r' z' x' u' e' (by
     by_cases ck:k'=k
     ·subst ck
      rw[hz] at b
      cases b
      exact .inr ⟨U,by rw[lrw]; exact(List.getElem?_eq_some_iff.mp c).1⟩
     ·exact .inl (by omega)) b c d f⟩
  ·clear Y1 wok1 pd1 c1 c2 eW eD eSl eTl hS hT nS nT
   rintro σ H3 ⟨y1,W,Nw,N1,M1,o1,o2,o3,o4,o5,rfl,eW,eSl,eTl,s0,D1,bN1,bM1,up1,al1,wok1,Y1,rw1⟩
   rw[Int.toNat_natCast] at bN1 bM1 al1 rw1
   rw[<- dm.len,List.drop_length] at al1
   rw[List.take_length] at bN1 bM1
   have al1:Al y1 (dE W.D++(sE W.S++(tE W.T++dF ds))):=by
    have h:W.pend++(dB []++dF ds)=dE W.D++(sE W.S++(tE W.T++dF ds)):=by
     unfold WS.pend
     rw[show dB []=[] from rfl,List.nil_append,sr,sr]
    rw[<- h]; exact al1
   refine⟨_,U,B.p,B.dx,_,U,Y1.at_ (inL pin.p),(cq _).1,?_⟩
   refine tn0 ?_
   refine many (fun v hv=>Y1.at_ (inL hv)) ?_
   refine tn0 ?_
   refine⟨_,U,by omega,by omega,bw (fun k σ H'=>∃ (y':YR) (D':List ((Int×Int)×Addr×List Pr)) (Nw:Kn) (N' M':Nat) (o1 o2 o3 o4 o5:Option V),σ=[some (.ref A'.p),some (.ref B.p),some (.ref wp),o1,o2,o3,o4,o5]/\Ld y' N' M' R/\N'+((dE D').length+3*(sE (W.S.drop k)).length+(tE (W.T.drop k)).length)<=N+rct cr ss+2*k/\M'+(4*(dE D').length+12*(sE (W.S.drop k)).length+4*(tE (W.T.drop k)).length)<=M+60*rln ss+10*k/\Up y y' /\
    Al y' (dE D'++(sE (W.S.drop k)++(tE (W.T.drop k)++dF ds)))/\WOk { W with D:=D' } (Nw++L) (dN ds)/\YIn t.c_Yard H' A'.y y' (wL t.c_Ways { W with D:=D' }++(Nw++L))/\RowsW y' (Nw++L) mr cr { W with D:=D' } ds ss (fun j _=>j<ss.length)/\∃ Yf:Nat->YR,Up y (Yf 0)/\Yf k=y'/\AllC Yf (Nw++L) { W with D:=D' } k) ⟨y1,W.D,Nw,N1,M1,_,_,_,_,_,U,D1,bN1,bM1,up1,al1,wok1,Y1,rw1,fun _=>y1,up1,U,fun j h=>absurd h (Nat.not_lt_zero _)⟩ ?_ ?_⟩
   ·clear Y1 wok1 al1 D1 bN1 bM1 up1 rw1
    rintro k σ H4 hk ⟨y1,D',Nw,N1,M1,o1,o2,o3,o4,o5,rfl,D1,bN1,bM1,up1,al1,wok1,Y1,rw1,Yf,uf,ef,af⟩
    have hkl:k<ss.length:=by omega
    have hkS:k<W.S.length:=by omega
    have hkT:k<W.T.length:=by omega
    have hS:=sq hkS
    have hT:=sq hkT
    obtain⟨zS,ezS⟩:∃ z,W.S[k]=z:=⟨_,U⟩
    obtain⟨zT,ezT⟩:∃ z,W.T[k]=z:=⟨_,U⟩
    rw[ezS] at hS
    rw[ezT] at hT
    have eS:sE (W.S.drop k)=zS.2.map (fun c=>c.2.1.2)++sE (W.S.drop (k+1)):=by rw[List.drop_eq_getElem_cons hkS,ezS]; rfl
    have eT:tE (W.T.drop k)=zT.2.map (·.2)++tE (W.T.drop (k+1)):=by rw[List.drop_eq_getElem_cons hkT,ezT]; rfl
    rw[eS,eT,sA,sA,su,su] at bN1 bM1
    have al2:Al y1 (dE D'++(zS.2.map (fun c=>c.2.1.2)++(zT.2.map (·.2)++(sE (W.S.drop (k+1))++(tE (W.T.drop (k+1))++dF ds))))):=by
     refine al1.perm ?_
     rw[eS,eT,sr,sr]
     exact List.Perm.append_left _ (List.Perm.append_left _ apc)
    have hz:=sq hkl
    have pl0:dN ds ((k:Int),0):=by
     obtain⟨_,a',y',h',_⟩:=good k _ hz
     refine dm.pl (r:=0) hz ?_
     cases e:ss[k].2 with
     | nil=>rw[e] at h'; cases h'
     | cons=>exact Nat.succ_pos _
    dsimp only[List.set]
    rw[Int.zero_add]
    refine⟨_,U,A'.p,_,A'.dx,_,_,U,Y1.at_ (inL lin.p),T.cl_Laid,T.n_Laid_yard,fD _,_,U,_,U,?_⟩
    refine tn0 ?_
    subst eW
    refine⟨A'.y,y1,Nw++L,{ W with D:=D' },k,zS,zT,N1,M1,R,sE (W.S.drop (k+1))++(tE (W.T.drop (k+1))++dF ds),dN ds,U,Y1,hS,hT,D1,al2,wok1,pl0,by show N1+(dE D').length+_+_<=_; omega,by show M1+4*(dE D').length+_+_<=_; omega,bR,fun H5 y5 N5 D5 N5' M5' Ld5 bN5 bM5 up5 al5 wok5 wu5 cw5 Y5=>?_⟩
    have bN5:N5'+(dE D5).length<=N1+(dE D').length+3*zS.2.length+zT.2.length+2:=bN5
    have bM5:M5'+4*(dE D5).length<=M1+4*(dE D').length+12*zS.2.length+4*zT.2.length+10:=bM5
    refine⟨y5,D5,N5++Nw,N5',M5',_,_,_,_,_,U,Ld5,by omega,by omega,up1.trans up5,al5,by rw[sr]; exact wok5,by rw[sr]; exact Y5,by rw[sr]; exact rw1.up up5 (fun b hb=>se _ hb) ⟨wu5,fun _ _ _ h=>h,fun _ _ h=>h,id⟩,fun j=>if j<=k then Yf j else y5,by show Up y (if 0<=k then Yf 0 else y5); rw[if_pos (Nat.zero_le _)]; exact uf,if_neg (Nat.not_succ_le_self k),fun j hj=>?_⟩
    rw[sr]
    by_cases cj:j=k
    ·subst cj
     show Up (if j<=j then Yf j else y5) (if j+1<=j then Yf (j+1) else y5)/\∀ zS zT,_->_->CallsW (if j<=j then Yf j else y5) (if j+1<=j then Yf (j+1) else y5) _ _ _ _ _
     rw[if_pos (Nat.le_refl _),if_neg (Nat.not_succ_le_self j),ef]
     refine⟨up5,fun z1 z2 a b=>?_⟩
     have a:W.S[j]?=some z1:=a
     have b:W.T[j]?=some z2:=b
     rw[hS] at a
     rw[hT] at b
     cases a
     cases b
     exact cw5
    ·have hj':j<k:=by omega
     obtain⟨g1,g2⟩:=af j hj'
     show Up (if j<=k then Yf j else y5) (if j+1<=k then Yf (j+1) else y5)/\∀ zS zT,_->_->CallsW (if j<=k then Yf j else y5) (if j+1<=k then Yf (j+1) else y5) _ _ _ _ _
     rw[if_pos (Nat.le_of_lt hj'),if_pos (show j+1<=k from hj')]
     exact⟨g1,fun z1 z2 a b=>(g2 z1 z2 a b).up (Up.refl _) (fun b hb=>se _ hb) wu5⟩
   ·clear Y1 wok1 al1 D1 bN1 bM1 up1 rw1
    rintro σ H4 ⟨y1,D',Nw,N1,M1,o1,o2,o3,o4,o5,rfl,D1,bN1,bM1,up1,al1,wok1,Y1,rw1,Yf,uf,ef,af⟩
    rw[Int.toNat_natCast] at bN1 bM1 al1 ef af
    have eS:sE (W.S.drop ss.length)=[]:=by rw[<- eSl,List.drop_length]; rfl
    have eT:tE (W.T.drop ss.length)=[]:=by rw[<- eTl,List.drop_length]; rfl
    rw[eS,eT] at bN1 bM1 al1
    rw[List.nil_append,List.nil_append] at al1
    obtain⟨es,les,nes,mes,ges⟩:=iG (List.nodup_append.mp al1.1).2.1 wok1.kd wok1.pd
    have al2:Al y1 (dE D'++es.map (·.2)):=by
     obtain⟨n1,n2,n3⟩:=List.nodup_append.mp al1.1
     have ms':∀ x ∈ es.map (·.2),x ∈ dF ds:=fun x hx=>by
      obtain⟨u,hu,rfl⟩:=sQ.mp hx
      exact mes u hu
     refine⟨List.nodup_append.mpr ⟨n1,nes,fun a ha b hb=>n3 a ha b (ms' b hb)⟩,fun x hx=>?_⟩
     rcases sC.mp hx with hx | hx
     ·exact al1.2 x (sk _ hx)
     ·exact al1.2 x (se _ (ms' x hx))
    obtain⟨W2,eW2⟩:∃ W2:WS,{ W with D:=D' }=W2:=⟨_,U⟩
    have eD2:W2.D=D':=by rw[<- eW2]
    have ep2:W2.p=wp:=by rw[<- eW2]; exact eW
    rw[eW2] at Y1 wok1 rw1 af
    have s02:S0 W2:=by rw[<- eW2]; exact s0
    have lS2:W2.S.length=ss.length:=by rw[<- eW2]; exact eSl
    have lT2:W2.T.length=ss.length:=by rw[<- eW2]; exact eTl
    obtain⟨X2,eX2⟩:∃ X2:Kn,(W2.ts,HO.lst (W2.S.map fun z=>V.ref z.1))::(W2.tc,HO.lst (W2.T.map fun z=>V.ref z.1))::(wD W2.D++(wS W2.S++(wT W2.T++(Nw++L))))=X2:=⟨_,U⟩
    have eWL:wL t.c_Ways W2++(Nw++L)=[(W2.p,HO.ins t.c_Ways W2.dx (wfl W2)),(W2.dx,.own W2.p)]++(W2.td,HO.dT (dkv W2.D))::X2:=by
     rw[<- eX2]
     unfold wL
     simp only[sr,List.cons_append,List.nil_append]
    have inX:∀ v ∈ Nw++L,v ∈ X2:=fun v hv=>by rw[<- eX2]; exact r9 _ (r9 _ (se _ (se _ (se _ hv))))
    have inD':∀ z ∈ W2.D,(z.2.1,HO.lst (prV z.2.2)) ∈ X2:=fun z hz=>by rw[<- eX2]; exact r9 _ (r9 _ (sk _ (sF (f:=fun z:(Int×Int)×Addr×List Pr=>(z.2.1,HO.lst (prV z.2.2))) hz)))
    have Y2:=cO Y1 eWL
    have gtd:=Y2.at_ (se _ sg)
    have gp2:=Y2.at_ sg
    rw[ep2] at gp2
    rw[<- eD2] at al2 bN1 bM1 les ges
    refine⟨W2.td,dkv W2.D,gtd,?_⟩
    have ldk:(dkv W2.D).length=W2.D.length:=su ..
    refine⟨_,U,wp,_,W2.dx,_,_,U,gp2,T.cl_Ways,T.n_Ways_to_doors,nK _,W2.td,_,U,gtd,fun ob=>?_⟩
    have Y3:=Y2.mid (.frz ob (.dT (dkv W2.D)))
    obtain⟨Lf,eLf⟩:∃ Lf:Kn,[(W2.p,HO.ins t.c_Ways W2.dx (wfl W2)),(W2.dx,.own W2.p)]++(W2.td,HO.frz ob (.dT (dkv W2.D)))::X2=Lf:=⟨_,U⟩
    have mfz:(W2.td,HO.frz ob (.dT (dkv W2.D))) ∈ Lf:=by rw[<- eLf]; exact se _ sg
    have inLf:∀ v ∈ X2,v ∈ Lf:=fun v hv=>by rw[<- eLf]; exact se _ (r9 _ hv)
    refine i6 (fun i σ H'=>∃ (y':YR) (N2:Kn) (N' M':Nat) (o1 o2 o3 o4 o5:Option V),σ=[some (.ref A'.p),some (.ref B.p),some (.ref wp),o1,o2,o3,o4,o5]/\Ld y' N' M' R/\N'+(dE (W2.D.drop i)).length<=N+rct cr ss+2*ss.length/\M'+4*(dE (W2.D.drop i)).length<=M+60*rln ss+10*ss.length/\Up y y' /\
     Al y' (dE (W2.D.drop i)++(es.drop i).map (·.2))/\YIn t.c_Yard H' A'.y y' (N2++Lf)/\Up y1 y'/\∀ (j:Nat) (z:(Int×Int)×Addr×List Pr) (o:Pr),j<i->W2.D[j]?=some z->o ∈ z.2.2->ToDoor y' (N2++Lf) ds z.1 o.2) ⟨y1,[],N1,M1,_,_,_,_,_,U,D1,by rw[List.drop_zero]; simpa using bN1,by rw[List.drop_zero]; simpa using bM1,up1,by rw[List.drop_zero,List.drop_zero]; exact al2,cO Y3 eLf,Up.refl _,fun j z o h=>absurd h (Nat.not_lt_zero _)⟩ (fun i σ H' _ ⟨y',N2,N',M',_,_,_,_,_,_,_,_,_,_,_,Y',_⟩=>Y'.at_ (se _ mfz)) ?_ ?_
    ·clear Y1 Y2 Y3 gtd gp2 al1 al2 bN1 bM1 D1 up1
     rintro i kv pp a σ H5 hkv hpp ha ⟨y2,N2,N2',M2',o1,o2,o3,o4,o5,rfl,D2,bN2,bM2,up2,al2,Y2,u12,td2⟩
     have hkv:(W2.D.map fun z=>(kE z.1.1 z.1.2,V.ref z.2.1))[i]?=some kv:=hkv
     rw[sx] at hkv
     obtain⟨z,hz,rfl⟩:=Option.map_eq_some_iff.mp hkv
     have hi:i<W2.D.length:=(List.getElem?_eq_some_iff.mp hz).1
     have hzm:=si hz
     obtain⟨k,r,u,e,e1,hu,he,hes⟩:=ges i z hz
     have hie:i<es.length:=by rw[les]; exact hi
     have edD:W2.D.drop i=z::W2.D.drop (i+1):=by rw[List.drop_eq_getElem_cons hi,(List.getElem?_eq_some_iff.mp hz).2]
     have ede:es.drop i=e::es.drop (i+1):=by rw[List.drop_eq_getElem_cons hie,(List.getElem?_eq_some_iff.mp hes).2]
     have edE:dE (W2.D.drop i)=z.2.2.map (·.2)++dE (W2.D.drop (i+1)):=by rw[edD]; rfl
     rw[edE,sA,su] at bN2 bM2
     rw[edE,ede,sH] at al2
     have Y3:=Y2.alloc hpp (.tup [.ref a,.ref z.2.1])
     have npp:a≠pp:=fun c=>by rw[c,hpp] at ha; cases ha
     refine⟨pp,_,U,SqT.of (Y3.at_ sg),U,_,_,U,_,_,U,U,?_⟩
     dsimp only[List.set]
     have ga:upd H5 pp (.tup [.ref a,.ref z.2.1]) a=some (.tup [.int k,.int r]):=by
      rw[aA npp,ha,e1]; rfl
     refine⟨_,U,a,_,U,SqT.of ga,U,_,_,U,_,_,U,U,?_⟩
     dsimp only[List.set]
     have Y4:=Y3.drop
     have inA:∀ v ∈ L,v ∈ N2++Lf:=fun v hv=>se _ (inLf _ (inX _ (se _ hv)))
     have gA:=Y4.at_ (inA _ lin.p)
     refine⟨_,U,A'.p,_,A'.dx,_,_,U,gA,T.cl_Laid,T.n_Laid_yard,fD _,_,U,_,U,A'.p,A'.dx,_,U,gA,(lE _).1,_,U,_,U,?_⟩
     refine tn0 ?_
     refine⟨A',ds,mr,cr,L,k,r,u,e,U,fun v hv=>Y4.at_ (inA v hv),lin,hu,he,?_⟩
     refine tn0 ?_
     refine fA (z:=e) (zs:=z.2.2) (G:=dE (W2.D.drop (i+1))++(es.drop (i+1)).map (·.2)) Y4 (se _ (inLf _ (inD' z hzm))) (fun x hx=>se _ (inLf _ (inX _ (wok1.eD z hzm x hx)))) (inA _ (lin.de u (si hu) e (si he))) D2 (al2.perm ?_) (by omega) (by omega) bR (fun H6 y6 N6 M6 D6 bM6 up6 al6 ld6 Y6=>?_)
     ·rw[sr]
      exact(List.Perm.append_left _ List.perm_middle).trans List.perm_middle
     refine⟨y6,N6++N2,_,M6,_,_,_,_,_,U,D6,by omega,by omega,up2.trans up6,al6,by rw[sr]; exact Y6,u12.trans up6,fun j z' o hj hz' ho=>?_⟩
     rw[sr]
     by_cases cj:j=i
     ·subst cj
      rw[hz] at hz'
      cases hz'
      exact⟨k,r,u,e,e1,hu,he,ld6 o ho⟩
     ·exact(td2 j z' o (by omega) hz' ho).up up6 (fun b hb=>se _ hb)
    ·clear Y1 Y2 Y3 gtd gp2 al1 al2 bN1 bM1 D1 up1
     rintro σ H5 ⟨y2,N2,N2',M2',o1,o2,o3,o4,o5,rfl,D2,bN2,bM2,up2,al2,Y2,u12,td2⟩
     refine⟨ob,Y2.at_ (se _ mfz),?_⟩
     have e3:N2++Lf=(N2++[(W2.p,HO.ins t.c_Ways W2.dx (wfl W2)),(W2.dx,.own W2.p)])++(W2.td,HO.frz ob (.dT (dkv W2.D)))::X2:=by rw[<- eLf,sr]
     have Y3:=(cO Y2 e3).mid (.dT (dkv W2.D))
     refine q _ y2 (N2++(wL t.c_Ways W2++Nw)) N2' M2' D2 (by omega) up2 ?_ (cO Y3 ?_)
     ·have s1:∀ v ∈ Nw++L,v ∈ (N2++(wL t.c_Ways W2++Nw))++L:=fun v hv=>by
       simp only[sr]
       exact se _ (se _ hv)
      refine⟨W2,Yf,lS2,lT2,s02,fun k' r' z' x' u' e' _ b c d f=>(rw1 k' r' z' x' u' e' (List.getElem?_eq_some_iff.mp b).1 b c d f).up u12 (fun b hb=>s1 _ hb) (Wup.refl _),uf,by rw[ef]; exact u12,fun j hj=>⟨(af j hj).1,fun a b c d=>((af j hj).2 a b c d).up (Up.refl _) (fun b hb=>s1 _ hb) (fun _ _ h=>h)⟩,?_⟩
      rintro pl o ⟨z,hz,rfl,ho⟩
      obtain⟨j,hj⟩:=List.mem_iff_getElem?.mp hz
      refine(td2 j z o (by rw[ldk]; exact(List.getElem?_eq_some_iff.mp hj).1) hj ho).up (Up.refl _) (fun b hb=>?_)
      rw[<- eLf,<- eX2] at hb
      rcases sC.mp hb with h | h
      ·simp only[sr]; exact sk _ h
      rcases sC.mp h with h | h
      ·simp at h
      ·rcases sD.mp h with h | h
       ·injection h with _ h; cases h
       have h':pK2 b ∈ []++(wL t.c_Ways W2++(Nw++L)):=by
        unfold wL
        simp only[List.nil_append,sr,List.cons_append]
        exact r9 _ (r9 _ (r9 _ h))
       exact s1 _ (gE (X:=[]) (Y:=Nw++L) h')
     rw[sr,<- eWL]
     simp only[sr]
end
noncomputable def Dk (y:YR) (x:Pr):Prop:=Kp y x.2.1 .line/\x.2.2=0
theorem Dk.up {y y':YR}{x:Pr} (h:Dk y x) (u:Up y y'):Dk y' x:=⟨h.1.up u,h.2⟩
inductive sp_lout (Cy Cl Cp:Addr) (vs:List V) (H:Hp) (Q:VK) (E_:XK):Prop
 | mk (L:Kn) (B:PA) (ss:Ss) (_:vs=[.ref B.p]) (_:Has H L) (_:PIn Cp B [] [] ss L) (_:Good 0 0 ss) (_:ss≠[]) (_:ss.length<=40) (_:rln ss<=130) (_:∀ H' (A:LA) Nw (ds:List (Addr×List Pr)) (u:Addr×List Pr) (e:Pr) (y1 y6:YR) N M,Ld y6 N M 0->N<=rln ss+rct [] ss+2*ss.length->LIn Cl A ds [] [] (Nw++L)->(∃ kvs,(A.r,HO.dT kvs) ∈ Nw/\∀ k ∈ kvs.map (·.1),∃ z ∈ ds,∃ x ∈ z.2,k=kE x.2.1 x.2.2)->DMt ds ss->ds[0]?=some u->u.2[0]?=some e->(∀ z ∈ ds,∀ x ∈ z.2,Dk y6 x)->mh y1 y6 (Nw++L) [] [] ds ss->YIn Cy H' A.y { y6 with eng:=.ref e.1,trail:=[] } (Nw++L)->Q (.ref A.p) H'):sp_lout Cy Cl Cp vs H Q E_
theorem tc2 {c d:V}{σ:St}{Q:List V->Hp->Prop} (h:Q [c,d] H):hZ (tC c) (hZ (tC d) hX) σ H Q:=h
theorem mW {l:List Nat}{x:Nat} (h:x ∈ l):x<=l.sum:=by
 induction l with
 | nil=>cases h
 | cons a r ih=>
  rw[List.sum_cons]
  rcases sD.mp h with rfl | h
  ·omega
  ·have:=ih h; omega
theorem There.up {y y':YR} (u:Up y y') {n e:Int} (h:There y n e):There y' n e:=by
 obtain⟨k,hk,h0⟩:=h
 exact⟨k,u.k _ _ hk,h0⟩
theorem kR (ss:Ss):rct [] ss<=3*rln ss:=by
 have h1:∀ rs:List (Addr×Rw),rcs [] rs<=3*rs.length:=fun rs=>by
  induction rs with
  | nil=>exact Nat.le_refl _
  | cons x r ih=>
   have e:rcs [] (x::r)=x.2.rc []+rcs [] r:=by unfold rcs; rw[sH,List.sum_cons]
   have b:x.2.rc []<=3:=by
    cases x.2 with
    | bell _=>show 1+1<=3; decide
    | call _=>show 3<=3; decide
    | fin=>show 1<=3; decide
   rw[e,sG]
   omega
 induction ss with
 | nil=>exact Nat.le_refl _
 | cons z r ih=>
  have:=h1 z.2
  have e1:rct [] (z::r)=rcs [] z.2+rct [] r:=by unfold rct; rw[sH,List.sum_cons]
  have e2:rln (z::r)=z.2.length+rln r:=by unfold rln; rw[sH,List.sum_cons]
  rw[e1,e2]
  omega
section
variable {P:Program}{w:World}{K:PySem.W.Frag}{mg:Str->Option Value}{base:Heap}{t:Adr}
theorem scOu:FnScope ["program","yard","mark_rods","counter_rods","doors","stretch","laid"] ["program"] (aj ig):={}
theorem p5 (T:Txt K mg t):FnOk P w K mg base CX0 11 t.f_Jd1 t.d_Jd1 ["program"] (sp_lout t.c_Yard t.c_Laid t.c_Program):=by
 obtain⟨ds_l2,hd_Jb1_2,hb_Jb1_2⟩:=cc T
 obtain⟨ds_n2,hd_Jj_2,hb_Jj_2⟩:=nC T
 obtain⟨ds_n1,hd_Jj_1,hb_Jj_1⟩:=jD T
 refine T.F_Jd1.ok scOu (fun vs H Q E h=>?_) (fun cdv A outer s H vs Q E hr h=>?_)
 ·obtain⟨_,_,_,rfl,_⟩:=h
  rfl
 ·obtain⟨L,B,ss,rfl,hH,pin,good,hne,bss,brl,q⟩:=h
  refine⟨_,(ae (aH (i:=1) scOu.nd rfl (Or.inr rfl) (k0 T.mk_Yard (qf T) (hr.mono (by decide)) (by rfl) T.m_Yard (b_J01 T) .nil az))
   (ae (gO (ix:=2) scOu.nd rfl (Or.inl rfl) (esc:=aj ig) (k:=1) ["side","program","yard","mark_rods","counter_rods","doors","stretch","laid"] rfl (bF (aT (pv 0) T.cl_Program T.M_Je (ok_Je T) hr (b_Je T) .nil az)) (fun _ _ _ _ _=>by exact(aq (i:=0) (show List.Nodup (["side","program","yard","mark_rods","counter_rods","doors","stretch","laid"]:List Str) from by decide +kernel) rfl (Or.inl rfl))) (fun _ _ _ _ _=>by exact bI) (fun _ _ _ _ _=>by exact(ax (pv 2) T.cl_Yard T.M_Jj (ln T) hr hb_Jj_2 hd_Jj_2 az (aa (pv 0) ah))) rfl (by decide +kernel) (by decide +kernel) rfl (by decide +kernel) (by rfl) (fun _ _ h _=>h) (by decide +kernel))
   (ae (gO (ix:=3) scOu.nd rfl (Or.inl rfl) (esc:=aj ig) (k:=1) ["width","program","yard","mark_rods","counter_rods","doors","stretch","laid"] rfl (bF (aT (pv 0) T.cl_Program T.M_J8 (ok_J8 T) hr (b_J8 T) .nil az)) (fun _ _ _ _ _ => by exact (aq (i:=0) (show List.Nodup (["width","program","yard","mark_rods","counter_rods","doors","stretch","laid"]:List Str) from by decide +kernel) rfl (Or.inl rfl))) (fun _ _ _ _ _ => by exact bI) (fun _ _ _ _ _ => by exact (fZ (esc:=_) (k:=1) ["bit","width","program","yard","mark_rods","counter_rods","doors","stretch","laid"] rfl (bp (by rfl) T.z_range (aa (pv 0) ah)) (fun _ _ _ _ _ => by exact (aq (i:=0) (show List.Nodup (["bit","width","program","yard","mark_rods","counter_rods","doors","stretch","laid"]:List Str) from by decide +kernel) rfl (Or.inl rfl))) (fun _ _ _ _ _ => by exact bI) (fun _ _ _ _ _ => by exact (aT (pv 3) T.cl_Yard T.M_Jj (ln T) hr hb_Jj_1 hd_Jj_1 az)) rfl (by decide +kernel) (by decide +kernel) rfl (by intro y hy hf; rcases hy with _ | ⟨_,_ | ⟨_,_ | ⟨_,hy⟩⟩⟩ <;> first | (cases hf; done) | exact Or.inr rfl | exact Or.inl rfl | (cases hy; done)) (by rfl) (fun _ _ h _ => h) (by decide +kernel))) rfl (by decide +kernel) (by decide +kernel) rfl (by decide +kernel) (by rfl) (fun _ _ h _ => h) (by decide +kernel))
   (ae (aH (i:=4) scOu.nd rfl (Or.inl rfl) (aU ah))
   (ae (bi PassesOwn.never rfl (bp (by rfl) T.z_range (aa (aT (pv 0) T.cl_Program T.M_Ji (fu T) hr (ja T) .nil az) ah)) (aq (i:=5) scOu.nd rfl (Or.inl rfl))
    (ai (ao (bL PySem.F.plainAttrs_list PySem.F.slot_list_append PySem.F.type_list_append aV (pv 4) (aa (fZ (esc:=aj ig) (k:=1) ["row","program","yard","mark_rods","counter_rods","doors","stretch","laid"] rfl (bF (ax (pv 0) T.cl_Program T.M_Jk (oQ T) hr (rV T) .nil az (aa (pv 5) ah))) (fun _ _ _ _ _=>by exact(aq (i:=0) (show List.Nodup (["row","program","yard","mark_rods","counter_rods","doors","stretch","laid"]:List Str) from by decide +kernel) rfl (Or.inl rfl))) (fun _ _ _ _ _=>by exact bI) (fun _ _ _ _ _=>by exact(aF (aa (ax (pv 2) T.cl_Yard T.M_Jb1 (ci T) hr hb_Jb1_2 hd_Jb1_2 az (aa aL ah)) (aa am ah)))) rfl (by decide +kernel) (by decide +kernel) rfl (by decide +kernel) (by rfl) (fun _ _ h _=>h) (by decide +kernel)) ah)))))
   (ae (aH (i:=6) scOu.nd rfl (Or.inl rfl) (gR T.mk_Laid (ok_Jy T) (hr.mono (by decide)) (by rfl) T.m_Laid (b_Jy T) .nil az (aa (pv 1) (aa (pv 4) (aa (pv 2) (aa (pv 3) ah))))))
   (ae (ao (pcl (p9 T) hr T.m_J71 T.F_J71.kp (b_J71 T) (aa (pv 6) (aa (pv 0) ah))))
   (ae (ao (ax (pv 1) T.cl_Yard T.M_Ja1 (p7 T) hr (b_Ja1 T) .nil az (aa (ax (pv 6) T.cl_Laid T.M_J11 (iV T) hr (l3 T) .nil az (aa am (aa am ah))) ah)))
   (ai (aB (pv 6))))))))))),?_⟩
  rw[show L2.start ["program","yard","mark_rods","counter_rods","doors","stretch","laid"] [V.ref B.p]=([some (V.ref B.p),none,none,none,none,none,none]:St) from rfl]
  intro yp ydx hy1 hy2 hy3
  refine⟨yp,ydx,L,U,(hH.alloc hy2 _).alloc (by rw[aA (Ne.symm hy3)]; exact hy1) _,fun H1 A1 eA1 h1=>⟨U,?_⟩⟩
  dsimp only[gj,List.set]
  have Y1:YIn t.c_Yard H1 yp y0 L:=⟨A1,eA1,h1,w0,⟨[],none,[]⟩,GW.nil t.c_Yard⟩
  clear h1 hy1 hy2 hy3 hH
  refine⟨_,U,B.p,B.dx,_,U,Y1.at_ pin.p,(cq _).2.1,?_⟩
  refine tn0 ?_
  obtain⟨A2,eA2,h2,re2⟩:=Y1.rac
  refine⟨B,_,_,U,h2,se _ pin.p,se _ pin.m,fun H3 lm h3=>?_⟩
  have Y3:YIn t.c_Yard H3 yp y0 ((lm,HO.lst [])::L):=re2 (X:=[(lm,HO.lst [])]) h3 (Ms.perm (by simp only[List.cons_append,List.nil_append,Ms.app,Ms.cons]; ac_rfl))
  clear h2 h3 eA1 eA2
  refine⟨lm,U,⟨_,SqL.of (Y3.at_ sg)⟩,fun mrl hmrl=>?_⟩
  refine⟨fun i m zs H'=>zs=[]/\YIn t.c_Yard H' yp y0 ((mrl,.lst [])::(lm,HO.lst [])::L),⟨0,U,Y3.alloc hmrl _⟩,?_⟩
  clear Y3
  rintro i m zs H4 ⟨rfl,Y4⟩
  refine⟨Y4.at_ sg,.inl ⟨⟨_,SqL.of (Y4.at_ (r9 _ sg)),Nat.zero_le _⟩,?_⟩⟩
  dsimp only[List.set]
  obtain⟨L2,eL2⟩:∃ L2:Kn,(mrl,HO.lst [])::(lm,HO.lst [])::L=L2:=⟨_,U⟩
  have toL2:∀ v ∈ L,v ∈ L2:=fun v hv=>by rw[<- eL2]; exact r9 _ (r9 _ hv)
  have mmr:(mrl,HO.lst []) ∈ L2:=by rw[<- eL2]; exact sg
  rw[eL2] at Y4
  refine⟨_,U,B.p,B.dx,_,U,Y4.at_ (toL2 _ pin.p),(cq _).2.2.1,?_⟩
  refine tn0 ?_
  obtain⟨A5,eA5,h5,re5⟩:=Y4.rac
  refine⟨B,_,_,U,h5,se _ (toL2 _ pin.p),se _ (toL2 _ pin.w),fun H6 lw h6=>?_⟩
  have Y6:YIn t.c_Yard H6 yp y0 ((lw,HO.lst [])::L2):=re5 (X:=[(lw,HO.lst [])]) h6 (Ms.perm (by simp only[List.cons_append,List.nil_append,Ms.app,Ms.cons]; ac_rfl))
  clear h5 h6 eA5
  refine⟨lw,U,⟨_,SqL.of (Y6.at_ sg)⟩,fun crl hcrl=>?_⟩
  refine⟨fun i m zs H'=>zs=[]/\YIn t.c_Yard H' yp y0 ((crl,.lst [])::(lw,HO.lst [])::L2),⟨0,U,Y6.alloc hcrl _⟩,?_⟩
  clear Y6
  rintro i m zs H7 ⟨rfl,Y7⟩
  refine⟨Y7.at_ sg,.inl ⟨⟨_,SqL.of (Y7.at_ (r9 _ sg)),Nat.zero_le _⟩,?_⟩⟩
  dsimp only[List.set]
  obtain⟨L4,eL4⟩:∃ L4:Kn,(crl,HO.lst [])::(lw,HO.lst [])::L2=L4:=⟨_,U⟩
  obtain⟨X4,eX4⟩:∃ X4:Kn,L4=X4++L:=⟨[(crl,HO.lst []),(lw,HO.lst []),(mrl,HO.lst []),(lm,HO.lst [])],by rw[<- eL4,<- eL2]; rfl⟩
  have toL4:∀ v ∈ L,v ∈ L4:=fun v hv=>by rw[<- eL4]; exact r9 _ (r9 _ (toL2 _ hv))
  have mmr4:(mrl,HO.lst []) ∈ L4:=by rw[<- eL4]; exact r9 _ (r9 _ mmr)
  have mcl4:(crl,HO.lst []) ∈ L4:=by rw[<- eL4]; exact sg
  rw[eL4] at Y7
  refine⟨by decide,fun dl hdl=>?_⟩
  have Y8:=Y7.alloc hdl (.lst (dsV []))
  dsimp only[List.set]
  clear Y7
  have lss:(ssV ss).length=ss.length:=by unfold ssV; rw[su]
  refine⟨_,U,B.p,B.dx,_,U,Y8.at_ (r9 _ (toL4 _ pin.p)),(cq _).1,?_⟩
  refine tn0 ?_
  refine⟨B,_,U,Y8.at_ (r9 _ (toL4 _ pin.p)),Y8.at_ (r9 _ (toL4 _ pin.s)),?_⟩
  rw[lss]
  refine tn0 ?_
  refine⟨_,U,by omega,by omega,bw (fun k σ H'=>∃ (y':YR) (ds:List (Addr×List Pr)) (Nw:Kn) (o1:Option V),σ=[some (.ref B.p),some (.ref yp),some (.ref mrl),some (.ref crl),some (.ref dl),o1,none]/\ds.map (fun z=>z.2.length)=(ss.take k).map (fun z=>z.2.length)/\Ld y' (rln (ss.take k)) 0 0/\Up y0 y' /\
   Al y' (dF ds++dB ds)/\(∀ z ∈ ds,(z.1,HO.lst (prV z.2)) ∈ Nw)/\(∀ z ∈ ds,∀ x ∈ z.2,pK2 x ∈ Nw)/\YIn t.c_Yard H' yp y' ((dl,.lst (dsV ds))::(Nw++L4))/\∀ z ∈ ds,∀ x ∈ z.2,Dk y' x) ⟨y0,[],[],_,U,U,Ld.nil,Up.refl _,⟨List.nodup_nil,fun x hx=>(nomatch hx)⟩,(fun z hz=>(nomatch hz)),(fun z hz=>(nomatch hz)),Y8,(fun z hz=>(nomatch hz))⟩ ?_ ?_⟩
  ·clear Y8
   rintro k σ H9 hk ⟨y1,ds,Nw,o1,rfl,eds,D1,up1,al1,mdl,mde,Y1,dk1⟩
   have hkl:k<ss.length:=by omega
   have hz:=sq hkl
   obtain⟨z,ez⟩:∃ z,ss[k]=z:=⟨_,U⟩
   rw[ez] at hz
   have hgl:=kQ (ss:=ss) (k+1)
   rw[cZ hz] at hgl
   dsimp only[List.set]
   rw[Int.zero_add]
   have inB:∀ v ∈ L,v ∈ (dl,HO.lst (dsV ds))::(Nw++L4):=fun v hv=>r9 _ (se _ (toL4 v hv))
   refine⟨_,U,.inl ⟨U,_,SqL.of (Y1.at_ sg)⟩,_,U,B.p,B.dx,_,U,Y1.at_ (inB _ pin.p),ip _,_,U,?_⟩
   refine tn0 ?_
   obtain⟨A2,eA2,h2,re2⟩:=Y1.rac
   refine⟨B,[],[],ss,_,k,z,U,h2,pin.mono fun v hv=>se _ (inB v hv),hz,fun H3 l h3=>?_⟩
   have Y3:YIn t.c_Yard H3 yp y1 ((dl,HO.lst (dsV ds))::((l,HO.lst (rwV z.2))::(Nw++L4))):=re2 (X:=[(l,HO.lst (rwV z.2))]) h3 (Ms.perm (by simp only[List.cons_append,List.nil_append,Ms.app,Ms.cons]; ac_rfl))
   clear h2 h3 eA2
   refine⟨l,U,⟨_,SqL.of (Y3.at_ (r9 _ sg))⟩,fun D hD=>?_⟩
   obtain⟨N0,eN0⟩:∃ N0:Nat,rln (ss.take k)=N0:=⟨_,U⟩
   rw[eN0] at D1 hgl
   have lrw:(rwV z.2).length=z.2.length:=by unfold rwV; rw[su]
   refine⟨fun j m zs H'=>m=z.2.length - j/\j<=z.2.length/\∃ (y':YR) (es:List Pr) (N2:Kn),zs=prV es/\es.length=j/\Ld y' (N0+j) 0 0/\Up y0 y'/\Al y' (es.map (·.2)++(es.map (fun e=>(e.2.1,1))++(dF ds++dB ds)))/\(∀ x ∈ es,pK2 x ∈ N2)/\YIn t.c_Yard H' yp y' ((D,.lst zs)::((dl,HO.lst (dsV ds))::(N2++((l,HO.lst (rwV z.2))::(Nw++L4)))))/\(∀ z ∈ ds,∀ x ∈ z.2,Dk y' x)/\∀ x ∈ es,Dk y' x,⟨_,U,Nat.zero_le _,y1,[],[],U,U,D1,up1,al1,(fun z hz=>(nomatch hz)),Y3.alloc hD _,dk1,(fun z hz=>(nomatch hz))⟩,?_⟩
   clear Y3 D1 up1 al1 dk1
   rintro j m zs H4 ⟨rfl,hj,y4,es,N2,rfl,les,D4,up4,al4,mes,Y4,dk4,de4⟩
   refine⟨Y4.at_ sg,?_⟩
   have gl:=Y4.at_ (z:=(l,HO.lst (rwV z.2))) (r9 _ (r9 _ (se _ sg)))
   have lpv:(prV es).length=es.length:=by unfold prV; rw[su]
   by_cases hlt:j<z.2.length
   ·have hx0:(rwV z.2)[j]?=some (.ref z.2[j].1):=mJ (sq hlt)
    refine .inr ⟨⟨_,_,SqL.of gl,hx0⟩,?_⟩
    rintro x H5 ⟨rfl,hx⟩
    refine⟨U,dH ?_⟩
    obtain⟨Ay,gy⟩:=Y4.obj
    refine⟨_,U,yp,Ay.dx,_,U,gy,(cn _ _ _).1,?_⟩
    refine tc1 ?_
    refine cT Y4 D4 ⟨by omega,by omega,by omega⟩ .line 0 .non (fun c=>nomatch c) (fun c=>nomatch c) (fun H6 Y6=>?_)
    have al6:=al4.lay2 D4 .line 0 .non rfl
    have D6:=D4.lay .line 0 .non
    have up6:=up4.trans (D4.up .line 0 .non)
    refine⟨(show 2<=sizeLine by decide),fun b hb=>?_⟩
    have Y7:=Y6.alloc hb (.tup [.int ((N0+j:Nat):Int),.int 0])
    refine⟨sizeOk (by rw[lpv]; omega),Y7.at_ (r9 _ sg),z.2.length - (j+1),by omega,U,hlt,_,es++[(b,((N0+j:Nat):Int),0)],(b,.tup [.int ((N0+j:Nat):Int),.int 0])::N2,?_,by simp[les],D6,up6,?_,?_,?_,(fun z hz x hx=>(dk4 z hz x hx).up (D4.up .line 0 .non)),iK (fun x hx=>(de4 x hx).up (D4.up .line 0 .non)) ⟨Kp.lay D4 .line 0 .non,U⟩⟩
    ·unfold prV; rw[sw]; rfl
    ·refine al6.perm ?_
     rw[sw,sw]
     show List.Perm ((((N0+j:Nat):Int),0)::(((N0+j:Nat):Int),1)::_) ((es.map (·.2)++[(((N0+j:Nat):Int),0)])++((es.map (fun e=>(e.2.1,1))++[(((N0+j:Nat):Int),1)])++(dF ds++dB ds)))
     rw[sr,sr]
     refine((List.Perm.cons _ ?_).trans List.perm_middle.symm)
     refine(List.perm_middle (l₁:=es.map (fun x:Pr=>x.2))).symm.trans (List.Perm.append_left _ ?_)
     exact List.perm_middle.symm
    ·exact iK (fun x hx=>r9 _ (mes x hx)) sg
    ·exact((Y7.perm ((List.Perm.swap _ _ _).trans (.cons _ (.swap _ _ _)))).put0 _)
   ·refine .inl ⟨⟨_,SqL.of gl,by rw[lrw]; omega⟩,?_⟩
    have ej:j=z.2.length:=by omega
    have lds:(dsV ds).length<=40:=by
     have:=congrArg List.length eds
     rw[su,su,sS] at this
     show(ds.map _).length<=40
     rw[su]; omega
    refine tn0 ?_
    refine⟨dl,_,_,U,U,Y4.at_ (r9 _ sg),sizeOk (by omega),?_⟩
    refine⟨y4,ds++[(D,es)],(D,.lst (prV es))::(N2++((l,HO.lst (rwV z.2))::Nw)),_,U,?_,?_,up4,?_,?_,?_,?_,iK dk4 de4⟩
    ·rw[sw,eds,cv hz,sw]
     show _++[es.length]=_++[z.2.length]
     rw[les,ej]
    ·rw[cZ hz,eN0,<- ej]; exact D4
    ·refine al4.perm ?_
     have e1:dF (ds++[(D,es)])=dF ds++es.map (·.2):=by unfold dF; rw[List.flatMap_append]; simp
     have e2:dB (ds++[(D,es)])=dB ds++es.map (fun e=>(e.2.1,1)):=by unfold dB; rw[List.flatMap_append]; simp
     rw[e1,e2]
     generalize es.map (fun x:Pr=>x.2)=a
     generalize es.map (fun e:Pr=>(e.2.1,(1:Int)))=b
     generalize dF ds=c
     generalize dB ds=d
     rw[sr]
     refine apc.trans ?_
     refine List.perm_append_comm.trans ?_
     rw[sr,sr]
     exact apc
    ·exact iK (fun z hz=>r9 _ (se _ (r9 _ (mdl z hz)))) sg
    ·exact iK (fun z hz x hx=>r9 _ (se _ (r9 _ (mde z hz x hx)))) (fun x hx=>r9 _ (sk _ (mes x hx)))
    ·have Y5:=(Y4.perm (.swap _ _ _)).put0 (.lst (dsV ds++[.ref D]))
     rw[show dsV (ds++[(D,es)])=dsV ds++[.ref D] by show(ds++[(D,es)]).map _=_; rw[sw]; rfl]
     exact cO Y5 (by simp only[List.cons_append,sr])
  ·clear Y8
   rintro σ H9 ⟨y1,ds,Nw,o1,rfl,eds,D1,up1,al1,mdl,mde,Y1,dk1⟩
   rw[Int.toNat_natCast,List.take_length] at eds D1
   have dm:DMt ds ss:=eds
   have hls:1<=ss.length:=by
    cases ss with
    | nil=>exact absurd rfl hne
    | cons=>exact Nat.succ_le_succ (Nat.zero_le _)
   refine⟨_,U,_,U,_,U,_,U,?_⟩
   refine tn0 ?_
   intro lp ldx hl1 hl2 hl3
   obtain⟨A2,eA2,h2,re2⟩:=Y1.rac
   have up':∀ v ∈ (dl,HO.lst (dsV ds))::(Nw++L4),v ∈ yL t.c_Yard A2 y1++((dl,HO.lst (dsV ds))::(Nw++L4)):=fun v hv=>se _ hv
   have in4:∀ v ∈ L4,v ∈ (dl,HO.lst (dsV ds))::(Nw++L4):=fun v hv=>r9 _ (se _ hv)
   have inN:∀ v ∈ Nw,v ∈ (dl,HO.lst (dsV ds))::(Nw++L4):=fun v hv=>r9 _ (sk _ hv)
   have rl1:∀ z ∈ ds,z.2.length<=500:=fun z hz=>by
    obtain⟨j,hj⟩:=List.mem_iff_getElem?.mp hz
    have e:(ss.map fun z=>z.2.length)[j]?=some z.2.length:=by rw[<- eds,sx,hj]; rfl
    have:z.2.length<=rln ss:=mW (si e)
    omega
   refine⟨lp,ldx,yp,dl,mrl,crl,ds,[],[],_,U,(h2.alloc hl2 _).alloc (by rw[aA (Ne.symm hl3)]; exact hl1) _,up' _ sg,fun z hz=>up' _ (inN _ (mdl z hz)),fun z hz x hx=>up' _ (inN _ (mde z hz x hx)),up' _ (in4 _ mmr4),up' _ (in4 _ mcl4),(fun z hz=>nomatch hz),by rw[dm.len]; omega,rl1,fun H3 A3 N3 eA3 e3y e3d e3m e3c mA3 rA3 h3=>⟨U,?_⟩⟩
   dsimp only[gj,List.set]
   subst eA3
   obtain⟨L5,eL5⟩:∃ L5:Kn,N3++((dl,HO.lst (dsV ds))::(Nw++L4))=L5:=⟨_,U⟩
   have to5:∀ v ∈ (dl,HO.lst (dsV ds))::(Nw++L4),v ∈ L5:=fun v hv=>by rw[<- eL5]; exact se _ hv
   have mA5:(A3.p,HO.ins t.c_Laid A3.dx (lfl A3)) ∈ L5:=by rw[<- eL5]; exact sk _ mA3
   have Y5:YIn t.c_Yard H3 A3.y y1 L5:=e3y ▸ re2 (X:=N3) h3 (Ms.perm (by rw[<- eL5]; simp only[Ms.app,Ms.cons]; ac_rfl))
   have lin:LIn t.c_Laid A3 ds [] [] L5:=⟨mA5,by rw[e3d]; exact to5 _ sg,fun z hz=>to5 _ (inN _ (mdl z hz)),fun z hz x hx=>to5 _ (inN _ (mde z hz x hx)),by rw[e3m]; exact to5 _ (in4 _ mmr4),by rw[e3c]; exact to5 _ (in4 _ mcl4),(fun z hz=>nomatch hz)⟩
   have pin5:PIn t.c_Program B [] [] ss L5:=pin.mono fun v hv=>to5 _ (in4 _ (toL4 v hv))
   have rok:ROk [] [] y1.sides.length:=⟨(fun r hr=>nomatch hr),(fun z hz=>nomatch hz),(fun z hz=>nomatch hz)⟩
   have brc:=kR ss
   clear h2 h3 hl1 hl2 hl3 up'
   refine⟨_,U,_,U,?_⟩
   refine tn0 ?_
   refine⟨A3.y,y1,L5,A3,B,ds,[],[],[],[],ss,rln ss,0,0,U,U,Y5,lin,pin5,good,dm,D1,al1,rok,by omega,by omega,by omega,by omega,fun H6 y6 N6 N6' M6' D6 bN6 up6 lw6 Y6=>?_⟩
   have h0:0<ss.length:=hls
   have hz0:=sq h0
   obtain⟨u,hu,lu⟩:=dm.get hz0
   have hr0:0<ss[0].2.length:=by
    obtain⟨_,a',y',h',_⟩:=good 0 _ hz0
    cases e:ss[0].2 with
    | nil=>rw[e] at h'; cases h'
    | cons=>exact Nat.succ_pos _
   have he:=sq (l:=u.2) (i:=0) (by omega)
   obtain⟨e,ee⟩:∃ e,u.2[0]'(by omega)=e:=⟨_,U⟩
   rw[ee] at he
   have hum:=si hu
   have hem:=si he
   have the:There y6 e.2.1 e.2.2:=(al1.2 e.2 (sk _ (List.mem_flatMap.mpr ⟨u,hum,sF (f:=fun x:Pr=>x.2) hem⟩))).1.up up6
   have gA:=Y6.at_ (se _ mA5)
   obtain⟨Ay,gy⟩:=Y6.obj
   rw[e3y] at gy
   refine⟨_,U,yp,Ay.dx,_,U,gy,(gq _ _ _).1,_,U,A3.p,A3.dx,_,U,gA,(lE _).1,?_⟩
   refine tc2 ?_
   refine⟨A3,ds,[],[],L5,0,0,u,e,U,fun v hv=>Y6.at_ (se _ hv),lin,hu,he,?_⟩
   refine tn0 ?_
   have me7:pK2 e ∈ N6++L5:=se _ (lin.de u hum e hem)
   refine e3y ▸ pI (z:=e) Y6 me7 the (fun H8 Y8=>?_)
   refine⟨_,U,?_⟩
   have eF:N6++L5=(N6++(N3++((dl,HO.lst (dsV ds))::(Nw++X4))))++L:=by
    rw[<- eL5,eX4]
    simp only[List.cons_append,sr]
   obtain⟨kvs,mk,kk⟩:=rA3
   refine q H8 A3 (N6++(N3++((dl,HO.lst (dsV ds))::(Nw++X4)))) ds u e y1 y6 N6' M6' D6 bN6 (by rw[<- eF]; exact lin.mono fun v hv=>se _ hv) ⟨kvs,se _ (sk _ mk),kk⟩ dm hu he (fun z hz x hx=>(dk1 z hz x hx).up up6) (by rw[<- eF]; exact lw6) (by rw[<- eF]; exact Y8)
end
inductive Rn (w:Wd):Nat->Sd->Sd->Prop
 | refl (s:Sd):Rn w 0 s s
 | step {n:Nat}{s t u:Sd} (h:w.nx s=some t) (r:Rn w n t u):Rn w (n+1) s u
theorem Rn.trans {w:Wd}{n m:Nat}{s t u:Sd} (h:Rn w n s t) (g:Rn w m t u):Rn w (n+m) s u:=by
 induction h with
 | refl s=>rw[Nat.zero_add]; exact g
 | @step n s t v h _ ih=>
  have:=Rn.step h (ih g)
  rw[show n+1+m=n+m+1 by omega]
  exact this
noncomputable def AtE (s:Sd) (z:Int×Int) (ss rg:List Int):Prop:=(∃ a,s.at_=some (a,z))/\s.ss=ss/\s.rg=rg
noncomputable def Out (w:Wd) (s:Sd) (x:Int×Int) (ss rg:List Int):Prop:=(∃ z,w.mf x.1 x.2=some z/\s.at_=some z)/\s.ss=ss/\s.rg=rg
variable{s:Sd}
theorem Out.at_ {w:Wd}{x z:Int×Int}{ss rg:List Int}{y:YR} (h:Out w s x ss rg) (W:WY w y L) (m:Mt y L x z):AtE s z ss rg:=by
 obtain⟨⟨u,h1,h2⟩,h3⟩:=h
 obtain⟨a,h4⟩:=W.m _ _ m
 rw[h1] at h4
 cases h4
 exact⟨⟨a,h2⟩,h3⟩
theorem cY (l:List Int) (i:Nat):l.set i (l.getD i 0)=l:=by
 refine List.ext_getElem? fun j=>?_
 rw[List.getElem?_set]
 split
 ·rename_i c
  subst c
  split
  ·rename_i hi
   rw[List.getD_eq_getElem?_getD,sq hi]; rfl
  ·rename_i hi
   rw[List.getElem?_eq_none (by omega)]
 ·rfl
theorem AtE.step {w:Wd}{s:Sd}{p e o:Int}{ss rg:List Int}{k:Kd}{z:En} (h:AtE s (p,e) ss rg) (hk:w.kf p=some k) (ho:k.out e (ss.getD (w.rf p).toNat 0)=.int o) (hm:w.mf p o=some z) :
  ∃ t,w.nx s=some t/\Out w t (p,o) (if k.point then ss.set (w.rf p).toNat (k.side e (ss.getD (w.rf p).toNat 0)) else ss) (if k=.bell then rg++[w.nf p] else rg):=by
 obtain⟨⟨a,h1⟩,rfl,rfl⟩:=h
 refine⟨aW w s (a,p,e) k z,?_,⟨z,hm,U⟩,U,U⟩
 unfold Wd.nx
 rw[h1]
 show(match w.kf p with | none=>none | some k=>match k.out e (w.sv s p) with | .int o=>(w.mf p o).map (aW w s (a,p,e) k) | _=>none)=_
 rw[hk]
 show(match k.out e (w.sv s p) with | .int o=>(w.mf p o).map (aW w s (a,p,e) k) | _=>none)=_
 rw[show k.out e (w.sv s p)=.int o from ho]
 show(w.mf p o).map _=_
 rw[hm]
 rfl
theorem jx {w:Wd} (h:w.nx s=none):∀ k,w.go k s=s/\w.hist k s=[]
 | 0=>⟨U,U⟩
 | k+1=>by
  constructor
  ·show(match w.nx s with | none=>s | some s'=>w.go k s')=_
   rw[h]
  ·show(match w.nx s with | none=>[] | some s'=>s::w.hist k s')=_
   rw[h]
theorem Rn.held {w:Wd}{n:Nat}{s t:Sd} (h:Rn w n s t) (ht:w.nx t=none):∀ k,n<=k->w.go k s=t/\(w.hist k s).length=n:=by
 induction h with
 | refl s=>intro k _; rw[(jx ht k).1,(jx ht k).2]; exact⟨U,U⟩
 | @step n s t u h _ ih=>
  intro k hk
  obtain⟨k,rfl⟩:∃ k',k=k'+1:=⟨k - 1,by omega⟩
  obtain⟨a,b⟩:=ih ht k (by omega)
  constructor
  ·show(match w.nx s with | none=>s | some s'=>w.go k s')=_
   rw[h]; exact a
  ·show(match w.nx s with | none=>[] | some s'=>s::w.hist k s').length=_
   rw[h]
   show(s::w.hist k t).length=_
   rw[sG,b]
theorem AtE.stop {w:Wd}{y:YR}{q:Int}{ss rg:List Int} (W:WY w y L) (k:Kp y q .stop) (h:AtE s (q,0) ss rg):w.nx s=none/\w.why s=.str "stop":=by
 obtain⟨⟨a,h1⟩,_⟩:=h
 exact eG h1 (W.k _ _ k) rfl
theorem LdB.mate {y:YR}{b:Nat}{x z:Int×Int} (h:LdB y L b x z):∃ u,Mt y L x u:=by
 obtain⟨_,w',_,c,m⟩:=h
 cases c with
 | refl=>exact⟨_,m⟩
 | still m1 _ _ _=>exact⟨_,m1⟩
theorem LdB.walk {w:Wd}{y:YR}{b:Nat}{x z:Int×Int} (W:WY w y L) (h:LdB y L b x z):∀ {s:Sd}{ss rg:List Int},Out w s x ss rg->∃ n t,n<=b/\Rn w n s t/\AtE t z ss rg:=by
 obtain⟨n0,w',hb,c,m⟩:=h
 induction c generalizing b with
 | refl x=>intro s ss rg o; exact⟨0,s,Nat.zero_le _,.refl _,o.at_ W m⟩
 | @still n1 x w' p a m1 k ha c ih=>
  intro s ss rg o
  have at1:=o.at_ W m1
  obtain⟨u,mu⟩:=LdB.mate (b:=n1) ⟨_,w',Nat.le_refl _,c,m⟩
  obtain⟨b9,hb9⟩:=W.m _ _ mu
  have ea:a≠0:=by rcases ha with rfl | rfl <;> decide
  obtain⟨t,nx,o'⟩:=at1.step (o:=0) (W.k _ _ k) (by unfold Kd.out; rw[if_neg (by decide),if_pos (show Kd.still.point=true from rfl),if_neg ea]) hb9
  have e1:(if Kd.still.point=true then ss.set (w.rf p).toNat (Kd.still.side a (ss.getD (w.rf p).toNat 0)) else ss)=ss:=by
   rw[if_pos (show Kd.still.point=true from rfl)]
   unfold Kd.side
   rw[if_pos (show Kd.still.point=true from rfl),if_neg ea,if_neg (by decide)]
   exact cY _ _
  rw[e1,if_neg (by decide)] at o'
  obtain⟨n,t',hn,r,g⟩:=ih (b:=b - 1) (by omega) m o'
  exact⟨n+1,t',by omega,.step nx r,g⟩
section
variable {w:Wd}{y:YR}{L:Kn}{s:Sd}{ss rg:List Int}
theorem cL {n:Int}{u:Int×Int} (W:WY w y L) (k:Kp y n .line) (m:Mt y L (n,1) u) (h:AtE s (n,0) ss rg):∃ t,w.nx s=some t/\Out w t (n,1) ss rg:=by
 obtain⟨a,hm⟩:=W.m _ _ m
 obtain⟨t,nx,g⟩:=h.step (o:=1) (W.k _ _ k) rfl hm
 rw[if_neg (show ¬ Kd.line.point=true by decide),if_neg (by decide)] at g
 exact⟨t,nx,g⟩
variable {mr:List Int}{cr:List (Addr×List Int)}{x:Int×Int}{o:List (Int×Int)}
theorem ko {n:Int} (W:WY w y L) (d:DD y L mr cr x (.bell n) o) (h:Out w s x ss rg) (ms:∀ z ∈ o,∃ u,Mt y L z u):∃ z t,o=[z]/\w.nx s=some t/\Out w t z ss (rg++[n]):=by
 obtain⟨b,m,k,hn,rfl⟩:=d
 obtain⟨u,mu⟩:=ms (b,1) sg
 obtain⟨a,hm⟩:=W.m _ _ mu
 obtain⟨t,nx,g⟩:=(h.at_ W m).step (o:=1) (W.k _ _ k) rfl hm
 rw[if_neg (show ¬ Kd.bell.point=true by decide),if_pos rfl,W.n _ _ hn] at g
 exact⟨_,t,U,nx,g⟩
end
theorem Lead.mate {y:YR}{x z:Int×Int} (h:Lead y L x z):∃ u,Mt y L x u:=by
 obtain⟨_,_,h⟩:=h
 exact h.mate
theorem Lead.walk {w:Wd}{y:YR}{x z:Int×Int}{B:Nat} (W:WY w y L) (hB:y.next<=B) (h:Lead y L x z) {ss rg:List Int} (g:Out w s x ss rg):∃ n t,n<=B/\Rn w n s t/\AtE t z ss rg:=by
 obtain⟨b,h1,h2⟩:=h
 obtain⟨n,t,h3,h4⟩:=h2.walk W g
 exact⟨n,t,by omega,h4⟩
inductive PT (y:YR) (L:Kn):Int×Int->Int×Int->List (Int×Int)->Prop
 | leaf (x:Int×Int):PT y L x x []
 | node {x z:Int×Int}{p r a:Int}{ps:List (Int×Int)} (m1:Mt y L x (p,0)) (m2:Mt y L (p,0) x) (k:Kp y p .lazy) (hr:au y.rods (Sum.inl p)=some (.int r)) (ha:a=1∨a=2) (t:PT y L (p,a) z ps):PT y L x z ((r,a)::ps)
theorem FT.path {y:YR}{x z:Int×Int}{rs:List Int} (h:FT y L x l rs) (hz:z ∈ l):∃ ps,PT y L x z ps/\(ps.map (·.1)).Sublist rs:=by
 induction h with
 | leaf x=>rw[sy.mp hz]; exact⟨[],.leaf x,List.Sublist.refl _⟩
 | @node x p r l1 l2 r1 r2 m1 m2 k hr t1 t2 ih1 ih2=>
  rcases sC.mp hz with hz | hz
  ·obtain⟨ps,h1,h2⟩:=ih1 hz
   exact⟨_,.node m1 m2 k hr (.inl rfl) h1,.cons₂ _ (h2.trans (List.sublist_append_left _ _))⟩
  ·obtain⟨ps,h1,h2⟩:=ih2 hz
   exact⟨_,.node m1 m2 k hr (.inr rfl) h1,.cons₂ _ (h2.trans (List.sublist_append_right _ _))⟩
noncomputable def cB:List (Int×Int)->List Int->List Int
 | [],ss=>ss
 | a::ps,ss=>(cB ps ss).set a.1.toNat a.2
theorem PT.rise {w:Wd}{y:YR}{x z:Int×Int}{ps:List (Int×Int)} (W:WY w y L) (h:PT y L x z ps):∀ {s:Sd}{ss rg:List Int},AtE s z ss rg->∃ t,Rn w ps.length s t/\AtE t x (cB ps ss) rg:=by
 induction h with
 | leaf x=>intro s ss rg g; exact⟨s,.refl _,g⟩
 | @node x z p r a ps m1 m2 k hr ha _ ih=>
  intro s ss rg g
  obtain⟨t,rn,g1⟩:=ih g
  obtain⟨b,hm⟩:=W.m _ _ m2
  have ea:a≠0:=by rcases ha with rfl | rfl <;> decide
  obtain⟨t',nx,g'⟩:=g1.step (o:=0) (W.k _ _ k) (by rw[Kd.out_point rfl,if_neg ea]) hm
  rw[if_pos (show Kd.lazy.point=true from rfl),if_neg (by decide),W.r _ _ hr] at g'
  unfold Kd.side at g'
  rw[if_pos (show Kd.lazy.point=true from rfl),if_neg ea,if_pos rfl] at g'
  exact⟨t',rn.trans (.step nx (.refl _)),g'.at_ W m2⟩
theorem PT.fall {w:Wd}{y:YR}{x z:Int×Int}{ps:List (Int×Int)} (W:WY w y L) (h:PT y L x z ps) (mz:∃ u,Mt y L z u):∀ {s:Sd}{ss rg:List Int},Out w s x ss rg->(∀ q ∈ ps,ss.getD q.1.toNat 0=q.2)->∃ t,Rn w ps.length s t/\Out w t z ss rg:=by
 induction h with
 | leaf x=>intro s ss rg g _; exact⟨s,.refl _,g⟩
 | @node x z p r a ps m1 m2 k hr ha tl ih=>
  intro s ss rg g hs
  have er:ss.getD r.toNat 0=a:=hs (r,a) sg
  have mp:∃ u,Mt y L (p,a) u:=by
   cases tl with
   | leaf=>exact mz
   | node m1 _ _ _ _ _=>exact⟨_,m1⟩
  obtain⟨u,mu⟩:=mp
  obtain⟨b,hm⟩:=W.m _ _ mu
  have ef:=W.r _ _ hr
  obtain⟨t',nx,g'⟩:=(g.at_ W m1).step (o:=a) (W.k _ _ k) (by rw[Kd.out_point rfl,if_pos rfl,ef,er]) hm
  rw[if_pos (show Kd.lazy.point=true from rfl),if_neg (by decide)] at g'
  unfold Kd.side at g'
  rw[if_pos (show Kd.lazy.point=true from rfl),if_pos rfl,if_neg (by decide),cY] at g'
  obtain⟨t,rn,g2⟩:=ih mz g' (fun q hq=>hs q (r9 _ hq))
  exact⟨t,.step nx rn,g2⟩
theorem DW.inn {w:Wd}{y:YR}{a:Nat}{e i o:Int×Int} (W:WY w y L) (h:DW y L a e i o) {ss rg:List Int} (g:AtE s i ss rg):∃ t,w.nx s=some t/\AtE t e ss rg:=by
 obtain⟨n,r,m1,m2,k,hr,_,_,rfl,rfl⟩:=h
 obtain⟨b,hm⟩:=W.m _ _ m2
 obtain⟨t',nx,g'⟩:=g.step (o:=0) (W.k _ _ k) (by rw[Kd.out_point rfl,if_neg (by decide)]) hm
 rw[if_pos (show Kd.still.point=true from rfl),if_neg (by decide)] at g'
 unfold Kd.side at g'
 rw[if_pos (show Kd.still.point=true from rfl),if_neg (by decide),if_neg (by decide),cY] at g'
 exact⟨t',nx,g'.at_ W m2⟩
theorem DW.out {w:Wd}{y:YR}{a:Nat}{e i o:Int×Int} (W:WY w y L) (h:DW y L a e i o) (mo:∃ u,Mt y L o u) {ss rg:List Int} (g:Out w s e ss rg) (hs:∀ (n:Int) (r:Nat),Kp y n .still->au y.rods (Sum.inl n)=some (.int r)->a<=r->ss.getD r 0=1):∃ t,w.nx s=some t/\Out w t o ss rg:=by
 obtain⟨n,r,m1,m2,k,hr,h5,h6,rfl,rfl⟩:=h
 obtain⟨u,mu⟩:=mo
 obtain⟨b,hm⟩:=W.m _ _ mu
 have ef:=W.r _ _ hr
 have er:=hs n r k hr h5
 obtain⟨t',nx,g'⟩:=(g.at_ W m1).step (o:=1) (W.k _ _ k) (by rw[Kd.out_point rfl,if_pos rfl,ef,Int.toNat_natCast,er]) hm
 rw[if_pos (show Kd.still.point=true from rfl),if_neg (by decide)] at g'
 unfold Kd.side at g'
 rw[if_pos (show Kd.still.point=true from rfl),if_pos rfl,if_neg (by decide),cY] at g'
 exact⟨t',nx,g'⟩
theorem FT.len {y:YR}{x:Int×Int}{rs:List Int} (h:FT y L x l rs):rs.length+1=l.length:=by
 induction h with
 | leaf x=>rfl
 | node _ _ _ _ _ _ ih1 ih2=>rw[sG,sA,sA]; omega
theorem PT.rod {y:YR}{x z:Int×Int}{ps:List (Int×Int)} (h:PT y L x z ps):∀ q ∈ ps,∃ p,Kp y p .lazy/\au y.rods (Sum.inl p)=some (.int q.1):=by
 induction h with
 | leaf=>intro q hq; cases hq
 | node _ _ k hr _ _ ih=>
  intro q hq
  rcases sD.mp hq with rfl | hq
  ·exact⟨_,k,hr⟩
  ·exact ih q hq
theorem jV {w:Wd}{y:YR}{ss rg:List Int}{n:Int}{u:Int×Int} (W:WY w y L) (k:Kp y n .line) (m:Mt y L (n,0) u) (h:AtE s (n,1) ss rg):∃ t,w.nx s=some t/\Out w t (n,0) ss rg:=by
 obtain⟨a,hm⟩:=W.m _ _ m
 obtain⟨t,nx,g⟩:=h.step (o:=0) (W.k _ _ k) rfl hm
 rw[if_neg (show ¬ Kd.line.point=true by decide),if_neg (by decide)] at g
 exact⟨t,nx,g⟩
theorem DW.mate {y:YR}{a:Nat}{e i o:Int×Int} (h:DW y L a e i o):∃ u,Mt y L e u:=by
 obtain⟨n,r,m1,_⟩:=h
 exact⟨_,m1⟩
theorem PT.mate {y:YR}{x z:Int×Int}{ps:List (Int×Int)} (h:PT y L x z ps) (m:∃ u,Mt y L z u):∃ u,Mt y L x u:=by
 cases h with
 | leaf=>exact m
 | node m1 _ _ _ _ _=>exact⟨_,m1⟩
theorem ToDoor.mate {y:YR}{pl o:Int×Int} (h:ToDoor y L ds pl o):∃ u,Mt y L o u:=by
 obtain⟨_,_,_,_,_,_,_,ld⟩:=h
 exact ld.mate
section
variable {w:Wd}{y:YR}{L:Kn}{s:Sd}{ss rg:List Int}{ds:List (Addr×List Pr)}{x lf i o i' o' pl:Int×Int}{f:Int}{m B:Nat}{ps:List (Int×Int)}
theorem km (W:WY w y L) (hB:y.next<=(B:Nat)) (kf:Kp y f .line) (pt:PT y L (f,1) lf ps) (dl:DW y L m lf i' o') (dr:DW y L m (f,0) i o) (mi:Mt y L x i') (to:ToDoor y L ds pl o) (h:Out w s x ss rg)
  (hs:∀ (n:Int) (r:Nat),Kp y n .still->au y.rods (Sum.inl n)=some (.int r)->m<=r->(cB ps ss).getD r 0=1) :
  ∃ (k r:Nat) (u:Addr×List Pr) (e:Pr) (n:Nat) (t:Sd),pl=((k:Int),(r:Int))/\ds[k]?=some u/\u.2[r]?=some e/\n<=ps.length+B+3/\Rn w n s t/\AtE t e.2 (cB ps ss) rg:=by
 obtain⟨t1,nx1,g1⟩:=dl.inn W (h.at_ W mi)
 obtain⟨t2,r2,g2⟩:=pt.rise W g1
 obtain⟨u3,m3⟩:=dr.mate
 obtain⟨t3,nx3,g3⟩:=jV W kf m3 g2
 obtain⟨t4,nx4,g4⟩:=dr.out W to.mate g3 hs
 obtain⟨k,r,u,e,e1,hu,he,ld⟩:=to
 obtain⟨n5,t5,b5,r5,g5⟩:=ld.walk W hB g4
 exact⟨k,r,u,e,_,t5,e1,hu,he,(show ps.length+1+(n5+1+1)<=_ by omega),(Rn.step nx1 r2).trans (.step nx3 (.step nx4 r5)),g5⟩
theorem lO (W:WY w y L) (hB:y.next<=(B:Nat)) (kf:Kp y f .line) (pt:PT y L (f,1) lf ps) (dl:DW y L m lf i' o') (dr:DW y L m (f,0) i o) (ld:Lead y L x i) (to:ToDoor y L ds pl o') (h:Out w s x ss rg) (hp:∀ q ∈ ps,ss.getD q.1.toNat 0=q.2)
  (hs:∀ (n:Int) (r:Nat),Kp y n .still->au y.rods (Sum.inl n)=some (.int r)->m<=r->ss.getD r 0=1) :
  ∃ (k r:Nat) (u:Addr×List Pr) (e:Pr) (n:Nat) (t:Sd),pl=((k:Int),(r:Int))/\ds[k]?=some u/\u.2[r]?=some e/\n<=ps.length+2*B+3/\Rn w n s t/\AtE t e.2 ss rg:=by
 obtain⟨n1,t1,b1,r1,g1⟩:=ld.walk W hB h
 obtain⟨t2,nx2,g2⟩:=dr.inn W g1
 obtain⟨u3,m3⟩:=pt.mate dl.mate
 obtain⟨t3,nx3,g3⟩:=cL W kf m3 g2
 obtain⟨t4,r4,g4⟩:=pt.fall W dl.mate g3 hp
 obtain⟨t5,nx5,g5⟩:=dl.out W to.mate g4 hs
 obtain⟨k,r,u,e,e1,hu,he,ld'⟩:=to
 obtain⟨n6,t6,b6,r6,g6⟩:=ld'.walk W hB g5
 exact⟨k,r,u,e,_,t6,e1,hu,he,(show n1+(ps.length+(n6+1)+1+1)<=_ by omega),r1.trans (.step nx2 (.step nx3 (r4.trans (.step nx5 r6)))),g6⟩
end
theorem lG:∀ {ps:List (Int×Int)}{ss:List Int},(ps.map (fun q=>q.1.toNat)).Nodup->(∀ q ∈ ps,q.1.toNat<ss.length)->∀ q ∈ ps,(cB ps ss).getD q.1.toNat 0=q.2:=by
 intro ps
 induction ps with
 | nil=>intro ss _ _ q hq; cases hq
 | cons a ps ih=>
  intro ss nd hl q hq
  have len:∀ (ps:List (Int×Int)) (ss:List Int),(cB ps ss).length=ss.length:=fun ps ss=>by
   induction ps with
   | nil=>rfl
   | cons b ps ih=>show((cB ps ss).set _ _).length=_; rw[List.length_set]; exact ih
  rw[sH,List.nodup_cons] at nd
  show((cB ps ss).set a.1.toNat a.2).getD q.1.toNat 0=q.2
  rw[List.getD_eq_getElem?_getD,List.getElem?_set]
  rcases sD.mp hq with rfl | hq
  ·rw[if_pos rfl,if_pos (by rw[len]; exact hl _ sg)]; rfl
  ·rw[if_neg (fun c=>nd.1 (by rw[c]; exact sF (f:=fun q:Int×Int=>q.1.toNat) hq)),<- List.getD_eq_getElem?_getD]
   exact ih nd.2 (fun q hq=>hl q (r9 _ hq)) q hq
theorem jv {r:Nat}:∀ {ps:List (Int×Int)}{ss:List Int},r ∉ ps.map (fun q=>q.1.toNat)->(cB ps ss).getD r 0=ss.getD r 0:=by
 intro ps
 induction ps with
 | nil=>intro ss _; rfl
 | cons a ps ih=>
  intro ss h
  show((cB ps ss).set a.1.toNat a.2).getD r 0=_
  rw[List.getD_eq_getElem?_getD,List.getElem?_set,if_neg (fun c=>h (by rw[<- c]; exact sg)),<- List.getD_eq_getElem?_getD]
  exact ih fun c=>h (r9 _ c)
noncomputable def SOk (y:YR) (sd:List Int):Prop:=sd.length=y.sides.length/\∀ (n:Int) (r:Nat),Kp y n .still->au y.rods (Sum.inl n)=some (.int r)->sd.getD r 0=1
noncomputable def ntR (f : Nat->List Int) : List (Addr×Rw)->List Int
  | []=>[]
  | (_, .bell n) :: r => [n] ++ ntR f r
  | (_, .call s) :: r => f s.toNat ++ ntR f r
  | (_, .fin) :: r => ntR f r
noncomputable def tbm (c:Nat):Nat->Nat
 | 0=>0
 | d+1=>3*(c+tbm c d)+c
structure Wk (w:Wd) (y:YR) (L:Kn) (ds:List (Addr×List Pr)) (V:WS) (Yf:Nat->YR) (ss:Ss) (B:Nat):Prop where
 wy:WY w y L
 rw:RowsW y L [] [] V ds ss (fun _ _=>True)
 ac:AllC Yf L V ss.length
 up:Up (Yf ss.length) y
 td:∀ pl o,inD V.D pl o->ToDoor y L ds pl o.2
 dk:∀ z ∈ ds,∀ x ∈ z.2,Dk y x
 good:Good 0 0 ss
 lS:V.S.length=ss.length
 lT:V.T.length=ss.length
 nb:y.next<=B
 rb:∀ n v,au y.rods n=some v->∃ r:Nat,v=.int r/\r<y.sides.length
 ri:∀ n n' v,au y.rods n=some v->au y.rods n'=some v->n=n'
 fm:∀ z ∈ ss,∃ b a,z.2=b++[(a,Rw.fin)]/\b.length<=3/\∀ x ∈ b,x.2≠.fin
theorem AllC.upTo {Yf:Nat->YR}{n:Nat} (h:AllC Yf L W n) {j k:Nat} (a:j<=k) (b:k<=n):Up (Yf j) (Yf k):=by
 induction k with
 | zero=>rw[Nat.le_zero.mp a]; exact Up.refl _
 | succ k ih=>
  by_cases c:j=k+1
  ·rw[c]; exact Up.refl _
  ·exact(ih (by omega) (by omega)).trans (h k (by omega)).1
theorem iC:∀ (ps:List (Int×Int)) (ss:List Int),(cB ps ss).length=ss.length
 | [],_=>rfl
 | a::ps,ss=>by show((cB ps ss).set _ _).length=_; rw[List.length_set]; exact iC ps ss
noncomputable def Ret (w:Wd) (y:YR) (L:Kn) (V:WS) (Yf:Nat->YR) (B j:Nat) (sd:List Int) (tgt:Int×Int):Prop:=∀ o,inT V j o->(∃ u,Mt y L o u)/\∀ s sd2 rg,Out w s o sd2 rg->SOk y sd2->(∀ r,r<(Yf (j+1)).sides.length->sd2.getD r 0=sd.getD r 0)->∃ n t,n<=3*B+3/\Rn w n s t/\AtE t tgt sd2 rg
section
variable {w:Wd}{y:YR}{L:Kn}{ds:List (Addr×List Pr)}{V:WS}{Yf:Nat->YR}{ss:Ss}{B:Nat}
theorem Ret.tr {j:Nat}{sd sd':List Int}{tgt:Int×Int} (h:Ret w y L V Yf B j sd tgt) (e:∀ r,r<(Yf (j+1)).sides.length->sd'.getD r 0=sd.getD r 0):Ret w y L V Yf B j sd' tgt:=fun o ho=>⟨(h o ho).1,fun s sd2 rg a b c=>(h o ho).2 s sd2 rg a b fun r hr=>(c r hr).trans (e r hr)⟩
theorem SOk.lay (h:Wk w y L ds V Yf ss B) {sd:List Int} (so:SOk y sd) {x z:Int×Int}{ps:List (Int×Int)} (pt:PT y L x z ps):SOk y (cB ps sd):=by
 refine⟨by rw[iC]; exact so.1,fun n r k hr=>?_⟩
 rw[jv]
 ·exact so.2 n r k hr
 ·intro c
  obtain⟨q,hq,e⟩:=sQ.mp c
  obtain⟨p,kp,hp⟩:=pt.rod q hq
  obtain⟨r',e',_⟩:=h.rb _ _ hp
  injection e' with e'
  have e:q.1.toNat=r:=e
  rw[e',Int.toNat_natCast] at e
  rw[e',e] at hp
  have:=h.ri _ _ _ hr hp
  injection this with this
  rw[this] at k
  unfold Kp at k kp
  rw[kp] at k
  injection k with k
  injection k with k
  exact absurd k (by decide)
theorem nh (h:Wk w y L ds V Yf ss B) {j i k:Nat}{o:Int×Int} (hk:k<ss.length) (is:inS V k o ((j:Int),(i:Int)+1)):∃ (f:Int) (lf i' ii:Int×Int) (o' oo:Pr) (ps:List (Int×Int)) (mm:Nat),Kp y f .line/\PT y L (f,1) lf ps/\DW y L mm lf i' o'.2/\DW y L mm (f,0) ii oo.2/\Mt y L o i'/\ToDoor y L ds ((k:Int),0) oo.2/\ToDoor y L ds ((j:Int),(i:Int)+1) o'.2 /\
  (∀ x,inT V k x->Lead y L x ii)/\ps.length<=B/\(ps.map (fun q=>q.1.toNat)).Nodup/\∀ q ∈ ps,(Yf k).sides.length<=q.1.toNat/\q.1.toNat<(Yf (k+1)).sides.length/\q.1.toNat<y.sides.length:=by
 obtain⟨zS,hzS,c,hc,rfl,ec⟩:=is
 have hT:=sq (show k<V.T.length by rw[h.lT]; exact hk)
 obtain⟨zT,ezT⟩:∃ zT,V.T[k]'(by rw[h.lT]; exact hk)=zT:=⟨_,O⟩
 rw[ezT] at hT
 have cw:=(h.ac k hk).2 zS zT hzS hT
 have U:Up (Yf (k+1)) y:=(h.ac.upTo hk (Nat.le_refl _)).trans h.up
 have sf:∀ b:Pr,pK2 b ∈ L->pK2 b ∈ L:=fun _ h=>h
 have sl:∀ v ∈ L,v ∈ L:=fun _ h=>h
 rcases cw with ⟨e0,_⟩ | ⟨_,f,l,lv,rs,m,ii,oo,c1,c2,c3,c4,c5,c6,c7,c8,c9,c10,c11,c12⟩
 ·rw[e0] at hc; cases hc
 obtain⟨jj,hjj⟩:=List.mem_iff_getElem?.mp hc
 have hlt:jj<lv.length:=by rw[c4]; exact(List.getElem?_eq_some_iff.mp hjj).1
 have hlf:=sq hlt
 obtain⟨i',o',d1,d2,d3,_⟩:=c12 jj _ c hlf hjj
 obtain⟨ps,pt,sub⟩:=(c2.up U sl).path (c3.mem_iff.mpr (List.getElem_mem hlt))
 have in8:∀ q ∈ ps,((Yf k).sides.length:Int)<=q.1/\q.1<m:=fun q hq=>c8 _ (sub.subset (sF (f:=fun q:Int×Int=>q.1) hq))
 refine⟨f,_,i',ii,o',oo,ps,m,c1.up U,pt,d1.up U sf,c9.up U sf,d3.up U sl,h.td _ _ c10,by rw[<- ec]; exact h.td _ _ d2,fun x hx=>?_,?_,?_,fun q hq=>?_⟩
 ·obtain⟨z',hz',x',hx',rfl⟩:=hx
  rw[hT] at hz'
  cases hz'
  exact(c11 x' hx').up U sl
 ·have a1:=sub.length_le
  rw[su] at a1
  have a2:=c2.len
  have a3:=c3.length_eq
  have a4:=U.x
  have a5:=h.nb
  omega
 ·have nd:=c5.sublist sub
  have e:ps.map (fun q=>q.1.toNat)=(ps.map (·.1)).map Int.toNat:=by rw[sV]; rfl
  rw[e,List.nodup_iff_pairwise_ne,List.pairwise_map]
  refine List.Pairwise.imp_of_mem (fun {a b} ha hb ne c=>ne ?_) nd
  obtain⟨qa,h1,rfl⟩:=sQ.mp ha
  obtain⟨qb,h2,rfl⟩:=sQ.mp hb
  have:=in8 qa h1
  have:=in8 qb h2
  omega
 ·have a1:=in8 q hq
  have a2:=U.sl
  omega
theorem gP {j i k r:Nat} (e:((j:Int),(i:Int))=((k:Int),(r:Int))):k=j/\r=i:=by
 injection e with a b
 omega
theorem jM (h:Wk w y L ds V Yf ss B) {f:Nat->List Int} (hf:∀ j z,ss[j]?=some z->f j=ntR f z.2):∀ d j,ss.length<=j+d+1->∀ z u,ss[j]?=some z->ds[j]?=some u->∀ (b:List (Addr×Rw)) (a:Addr) (i:Nat),z.2.drop i=b++[(a,.fin)]->(∀ x ∈ b,x.2≠.fin)->∀ e,u.2[i]?=some e->∀ s sd rg tgt,AtE s e.2 sd rg->SOk y sd->Ret w y L V Yf B j sd tgt ->
  ∃ n t sd',n<=b.length*(3*B+4+tbm (3*B+4) d)+(3*B+4)/\Rn w n s t/\AtE t tgt sd' (rg++ntR f (b++[(a,.fin)]))/\SOk y sd'/\∀ r,r<(Yf (j+1)).sides.length->sd'.getD r 0=sd.getD r 0:=by
 intro d
 induction d using Nat.strongRecOn with
 | _ d ihd=>
 intro j hj z u hz hu b
 obtain⟨T,eT⟩:∃ T,tbm (3*B+4) d=T:=⟨_,U⟩
 rw[eT]
 induction b with
 | nil=>
  intro a i hd _ e he s sd rg tgt hat so ret
  have hx:z.2[i]?=some (a,.fin):=by
   have:=congrArg (fun l=>l[0]?) hd
   simpa [List.getElem?_drop] using this
  have dk:=h.dk u (si hu) e (si he)
  have it:inT V j (e.2.1,1):=h.rw j i z _ u e trivial hz hx hu he
  obtain⟨⟨m,hm⟩,re⟩:=ret _ it
  have ee:e.2=(e.2.1,0):=Prod.ext rfl dk.2
  obtain⟨t1,nx,o1⟩:=cL h.wy dk.1 hm (ee ▸ hat)
  obtain⟨n,t,hn,rn,g⟩:=re t1 sd rg o1 so fun _ _=>rfl
  refine⟨n+1,t,sd,by rw[List.length_nil]; omega,.step nx rn,?_,so,fun _ _=>rfl⟩
  show AtE t tgt sd (rg++[])
  rw[sR]
  exact g
 | cons x b ih=>
  intro a i hd hn e he s sd rg tgt hat so ret
  have hx:z.2[i]?=some x:=by
   have:=congrArg (fun l=>l[0]?) hd
   simpa [List.getElem?_drop] using this
  have hd':z.2.drop (i+1)=b++[(a,.fin)]:=by
   have:=congrArg (List.drop 1) hd
   rw[List.drop_drop] at this
   exact this
  have dk:=h.dk u (si hu) e (si he)
  have ee:e.2=(e.2.1,0):=Prod.ext rfl dk.2
  have rw_:=h.rw j i z _ u e trivial hz hx hu he
  have xok:=(h.good j z hz).1 x (si hx)
  have hnb:∀ y ∈ b,y.2≠.fin:=fun y hy=>hn y (r9 _ hy)
  have nf:=hn x sg
  have go:∀ (n1:Nat) (t1:Sd) (e':Pr) (sd1:List Int) (rg1:List Int),u.2[i+1]?=some e'->n1<=3*B+4+T->Rn w n1 s t1->AtE t1 e'.2 sd1 (rg++rg1)->SOk y sd1->(∀ r,r<(Yf (j+1)).sides.length->sd1.getD r 0=sd.getD r 0)->ntR f (x::b++[(a,.fin)])=rg1++ntR f (b++[(a,.fin)]) ->
    ∃ n t sd',n<=(x::b).length*(3*B+4+T)+(3*B+4)/\Rn w n s t/\AtE t tgt sd' (rg++ntR f (x::b++[(a,.fin)]))/\SOk y sd'/\∀ r,r<(Yf (j+1)).sides.length->sd'.getD r 0=sd.getD r 0:=by
   intro n1 t1 e' sd1 rg1 he' hn1 r1 g1 so1 ag1 nt
   obtain⟨n2,t2,sd2,hn2,r2,g2,so2,ag2⟩:=ih a (i+1) hd' hnb e' he' t1 sd1 _ tgt g1 so1 (ret.tr ag1)
   refine⟨n1+n2,t2,sd2,?_,r1.trans r2,?_,so2,fun r hr=>(ag2 r hr).trans (ag1 r hr)⟩
   ·rw[sG,Nat.succ_mul]; omega
   ·rw[nt,<- sr]; exact g2
  clear ih
  obtain⟨xa,xr⟩:=x
  cases xr with
  | fin=>exact absurd rfl nf
  | bell nn=>
   obtain⟨zs,dd,io⟩:=rw_
   have dd':=dd
   obtain⟨bb,m,kb,hnn,ez⟩:=dd'
   obtain⟨z0,rfl⟩:∃ z0,zs=[z0]:=by
    have:=congrArg List.length ez
    rw[su] at this
    exact List.length_eq_one_iff.mp this
   have to:=h.td _ _ (io 0 z0 ((j:Int),(i:Int)+1) rfl rfl)
   obtain⟨t1,nx1,o1⟩:=cL h.wy dk.1 m (ee ▸ hat)
   obtain⟨z',t2,ez',nx2,o2⟩:=ko h.wy dd o1 (fun v hv=>by rw[sy.mp hv]; exact to.mate)
   obtain⟨k',r',u',e',e1,hu',he',ld⟩:=to
   obtain⟨rfl,rfl⟩:=gP (i:=i+1) e1
   rw[hu] at hu'
   cases hu'
   have ez':[z0.2]=[z']:=ez'
   injection ez' with ez'
   rw[<- ez'] at o2
   obtain⟨n3,t3,b3,r3,g3⟩:=ld.walk h.wy h.nb o2
   exact go _ t3 e' sd [nn] he' (show n3+1+1<=_ by omega) (.step nx1 (.step nx2 r3)) g3 so (fun _ _=>rfl) rfl
  | call c=>
   obtain⟨xj,xs⟩:=xok
   obtain⟨k,rfl⟩:=Int.eq_ofNat_of_zero_le (show 0<=c by omega)
   have hjk:j<k:=by omega
   have hk:k<ss.length:=by omega
   have rw_:inS V ((k:Int)).toNat (e.2.1,1) ((j:Int),(i:Int)+1):=rw_
   rw[Int.toNat_natCast] at rw_
   obtain⟨fl,lf,i',ii,o',oo,ps,mm,kf,pt,dl,dr,mi,to,to',lds,lps,nps,bps⟩:=nh h hk rw_
   have so1:SOk y (cB ps sd):=so.lay h pt
   obtain⟨t1,nx1,o1⟩:=cL h.wy dk.1 mi (ee ▸ hat)
   obtain⟨k1,r1,u1,e1,n1,t2,q1,hu1,he1,bn1,rn1,g1⟩:=km h.wy h.nb kf pt dl dr mi to o1 (fun n r a b _=>so1.2 n r a b)
   obtain⟨rfl,rfl⟩:=gP (i:=0) q1
   obtain⟨k2,r2,u2,e2,q2,hu2,he2,_⟩:=id to'
   obtain⟨rfl,rfl⟩:=gP (i:=i+1) q2
   rw[hu] at hu2
   cases hu2
   have hzk:=sq hk
   obtain⟨zk,ezk⟩:∃ zk,ss[k1]=zk:=⟨_,U⟩
   rw[ezk] at hzk
   obtain⟨bk,ak,ek,lk,nk⟩:=h.fm zk (si hzk)
   have lget:∀ q ∈ ps,(cB ps sd).getD q.1.toNat 0=q.2:=lG nps (fun q hq=>by rw[so.1]; exact(bps q hq).2.2)
   have retk:Ret w y L V Yf B k1 (cB ps sd) e2.2:=by
    intro o ho
    have ld:=lds o ho
    refine⟨ld.mate,fun s' sd2 rg' hO so2 ag=>?_⟩
    obtain⟨k3,r3,u3,e3,n3,t3,q3,hu3,he3,bn3,rn3,g3⟩:=lO h.wy h.nb kf pt dl dr ld to' hO (fun q hq=>by rw[ag _ (bps q hq).2.1]; exact lget q hq) (fun n r a b _=>so2.2 n r a b)
    obtain⟨rfl,rfl⟩:=gP (i:=i+1) q3
    rw[hu] at hu3
    cases hu3
    rw[he2] at he3
    cases he3
    exact⟨n3,t3,by omega,rn3,g3⟩
   obtain⟨d',rfl⟩:∃ d',d=d'+1:=⟨d - 1,by omega⟩
   obtain⟨n4,t4,sd4,bn4,rn4,g4,so4,ag4⟩:=ihd d' (Nat.lt_succ_self _) k1 (by omega) zk u1 hzk hu1 bk ak 0 (by rw[List.drop_zero]; exact ek) nk e1 he1 t2 (cB ps sd) rg e2.2 g1 so1 retk
   have bT:n4<=T:=by
    rw[<- eT]
    show n4<=3*(3*B+4+tbm (3*B+4) d')+(3*B+4)
    exact Nat.le_trans bn4 (Nat.add_le_add_right (Nat.mul_le_mul_right _ lk) _)
   have U1:(Yf (k2+1)).sides.length<=(Yf k1).sides.length:=(h.ac.upTo (show k2+1<=k1 by omega) (Nat.le_of_lt hk)).sl
   have U2:(Yf k1).sides.length<=(Yf (k1+1)).sides.length:=(h.ac.upTo (Nat.le_succ _) hk).sl
   refine go _ t4 e2 sd4 (f k1) he2 (show n1+1+n4<=_ by omega) ((Rn.step nx1 rn1).trans rn4) (by rw[hf k1 zk hzk,ek]; exact g4) so4 (fun r hr=>?_) ?_
   ·rw[ag4 r (by omega),jv]
    intro c
    obtain⟨q,hq,e⟩:=sQ.mp c
    have:=bps q hq
    omega
   ·show f ((k1:Int)).toNat++_=_
    rw[Int.toNat_natCast]
    rfl
theorem iL (h:Wk w y L ds V Yf ss B) {f:Nat->List Int} (hf:∀ j z,ss[j]?=some z->f j=ntR f z.2) (s0:S0 V) (h0:0<ss.length) (h4:ss.length<=4) {u:Addr×List Pr}{e:Pr} (hu:ds[0]?=some u) (he:u.2[0]?=some e) {sd:List Int} (g:AtE s e.2 sd []) (so:SOk y sd) :
  ∃ n t q sd',n<=160*(3*B+4)/\Rn w n s t/\AtE t (q,0) sd' (f 0)/\Kp y q .stop:=by
 have hz:=sq h0
 obtain⟨z,ez⟩:∃ z,ss[0]=z:=⟨_,O⟩
 rw[ez] at hz
 have hS:=sq (show 0<V.S.length by rw[h.lS]; exact h0)
 have hT:=sq (show 0<V.T.length by rw[h.lT]; exact h0)
 have cw:=(h.ac 0 h0).2 _ _ hS hT
 have U:Up (Yf (0+1)) y:=(h.ac.upTo h0 (Nat.le_refl _)).trans h.up
 rcases cw with ⟨_,q,kq,lq⟩ | ⟨ne,_⟩
 ·obtain⟨b,a,eb,lb,nb⟩:=h.fm z (si hz)
  obtain⟨n,t,sd',bn,rn,gt,_,_⟩:=jM h hf 3 0 (by omega) z u hz hu b a 0 (by rw[List.drop_zero]; exact eb) nb e he s sd [] (q,0) g so (by
   intro o ho
   obtain⟨z',hz',x',hx',rfl⟩:=ho
   rw[hT] at hz'
   cases hz'
   have ld:=(lq x' hx').up U (fun _ h=>h)
   refine⟨ld.mate,fun s' sd2 rg' hO _ _=>?_⟩
   obtain⟨n,t,bn,rn,gt⟩:=ld.walk h.wy h.nb hO
   exact⟨n,t,by omega,rn,gt⟩)
  refine⟨n,t,q,sd',?_,rn,?_,kq.up U⟩
  ·refine Nat.le_trans bn (Nat.le_trans (Nat.add_le_add_right (Nat.mul_le_mul_right _ lb) _) ?_)
   simp only[tbm]
   omega
  ·rw[hf 0 z hz,eb]; exact gt
 ·exact absurd (s0 _ hS) ne
end
inductive sp_Jj1 (vs:List V) (H:Hp) (Q:VK) (E_:XK):Prop
 | mk (a b:Addr) (xs ys:List Int) (i j:Nat) (L:Kn) (_:vs=[.ref a,.ref b]) (_:Has H L) (_:L[i]?=some (a,.lst (xs.map V.int))) (_:L[j]?=some (b,.lst (ys.map V.int))) (_:xs.length<=100000) (_:∀ H',Has H' L->Q (.bl (decide (xs=ys))) H'):sp_Jj1 vs H Q E_
theorem l8:∀ {xs ys:List Int},xs.length=ys.length->((xs.zip ys).map fun p=>decide (p.1=p.2)).all id=decide (xs=ys)
 | [],[],_=>rfl
 | x::xs,y::ys,h=>by
  have ih:=l8 (xs:=xs) (ys:=ys) (by simpa using h)
  rw[List.zip_cons_cons,sH,List.all_cons,ih]
  by_cases e:x=y
  ·subst e; simp
  ·simp[e]
section
variable {P:Program}{w:World}{K:PySem.W.Frag}{mg:Str->Option Value}{base:Heap}{t:Adr}
theorem scIr:FnScope ["_law_found","_law_due"] ["_law_found","_law_due"] (aj kO):={}
theorem pV (T:Txt K mg t):FnOk P w K mg base CX0 3 t.f_Jj1 t.d_Jj1 ["_law_found","_law_due"] sp_Jj1:=by
 refine T.F_Jj1.ok scIr (fun vs H Q E h=>?_) (fun cdv A outer s H vs Q E hr h=>?_)
 ·obtain⟨_,_,_,_,_,_,_,rfl,_⟩:=h
  rfl
 ·obtain⟨a,b,xs,ys,i,j,L,rfl,hH,hi,hj,hxl,q⟩:=h
  refine⟨_,(ae (aI (PW.pt (cP (eZ (eU (aR fQ (by rfl) T.z_isinstance (by rfl) (aa (pv 0) (aa (gU (v:=.ty "list") (by rfl) T.z_list (by rfl) rfl) ah))))) (bQ (ap jp (aR aJ (by rfl) T.z_len (by rfl) (aa (pv 0) ah)) (aR aJ (by rfl) T.z_len (by rfl) (aa (pv 1) ah)) (ar _)))))
    (ai (aB oH))
    av)
   (ai (aB (aR (lX rfl) (by rfl) T.z_all (by rfl) (aa (fZ (esc:=aj kO) (k:=2) ["_law_one","_law_other","_law_found","_law_due"] rfl (iT (by rfl) T.z_zip (aa (pv 0) (aa (pv 1) ah))) (fun _ _ _ _ _=>by exact(mO (K:=K) (n:=2) rfl rfl (ay (aq (i:=0) (show List.Nodup (["_law_one","_law_other","_law_found","_law_due"]:List Str) from by decide +kernel) rfl (Or.inl rfl)) (ay (aq (i:=1) (show List.Nodup (["_law_one","_law_other","_law_found","_law_due"]:List Str) from by decide +kernel) rfl (Or.inl rfl)) ba)))) (fun _ _ _ _ _=>by exact bI) (fun _ _ _ _ _=>by exact(pcl (ok_is T) hr T.m_is T.F_is.kp (b_is T) (aa (pv 0) (aa (pv 1) ah)))) rfl (by decide +kernel) (by decide +kernel) rfl (by decide +kernel) (by rfl) (fun _ _ h _=>h) (by decide +kernel)) ah))))),?_⟩
  refine⟨_,U,_,_,_,_,U,.lst (hH.get i hi),qg K,_,U,dq ?_⟩
  refine⟨_,U,a,_,U,.inl (SqL.of (hH.get i hi)),_,U,b,_,U,.inl (SqL.of (hH.get j hj)),U,_,U,?_⟩
  rw[su,su,hC]
  refine rL (fun hc=>?_) (fun hc=>?_)
  ·have e:decide (xs=ys)=false:=decide_eq_false (fun z=>hc (by rw[z]))
   rw[e] at q
   exact q _ hH
  ·have hl:xs.length=ys.length:=by omega
   refine⟨_,U,_,U,a,b,U,⟨_,SqL.of (hH.get i hi)⟩,⟨_,SqL.of (hH.get j hj)⟩,fun D hD=>?_⟩
   refine⟨fun n m zs H'=>m=xs.length - n/\n<=xs.length/\zs=((xs.zip ys).take n).map (fun p=>V.bl (decide (p.1=p.2)))/\Has H' ((D,.lst zs)::L),⟨xs.length,by simp,Nat.zero_le _,U,hH.alloc hD _⟩,?_⟩
   rintro n m zs H' ⟨rfl,hn,rfl,h1⟩
   refine⟨h1.get 0 U,?_⟩
   have ga:=h1.get (i+1) (by simpa using hi)
   have gb:=h1.get (j+1) (by simpa using hj)
   by_cases hlt:n<xs.length
   ·refine .inr ⟨⟨_,_,_,_,SqL.of ga,(by rw[sx,sq hlt]; rfl),SqL.of gb,(by rw[sx,sq (by omega)]; rfl)⟩,?_⟩
    rintro x H2 ⟨p,x1,y1,rfl,hp,rfl,hx1,hy1⟩
    have hx2:=hx1 _ (SqL.of ga)
    have hy2:=hy1 _ (SqL.of gb)
    rw[sx,sq hlt] at hx2
    rw[sx,sq (by omega)] at hy2
    cases hx2
    cases hy2
    have h2:=h1.alloc hp (.tup [.int xs[n],.int (ys[n]'(by omega))])
    refine⟨p,_,U,SqT.of (h2.get 0 U),U,_,_,U,_,_,U,U,U,?_⟩
    refine dH ?_
    refine⟨_,U,_,U,_,_,U,?_⟩
    refine⟨?_,h2.get 1 U,xs.length - (n+1),by omega,U,hlt,?_,?_⟩
    ·rw[su,sS]
     exact sizeOk (by omega)
    ·rw[List.take_succ,sw,sq (by rw[List.length_zip]; omega),List.getElem_zip]
     rfl
    ·exact(h2.puti 1 U _).tail
   ·have en:n=xs.length:=by omega
    refine .inl ⟨⟨_,_,SqL.of ga,SqL.of gb,.inl (by rw[su]; omega)⟩,?_⟩
    refine⟨D,((xs.zip ys).map fun p=>decide (p.1=p.2)),U,?_,?_⟩
    ·have e:((xs.zip ys).take n).map (fun p=>V.bl (decide (p.1=p.2)))=((xs.zip ys).map fun p=>decide (p.1=p.2)).map V.bl:=by
      rw[List.take_of_length_le (by rw[List.length_zip]; omega),sV]; rfl
     rw[<- e]
     exact SqL.of (h1.get 0 U)
    ·rw[l8 hl]
     exact q _ h1.tail
end
theorem lfl_h (A:LA):(lfl A).lookup ("row_here" : Str)=none:=by kernel_rfl
inductive sp_rowhere (Cy Cl:Addr) (vs:List V) (H:Hp) (Q:VK) (E_:XK):Prop
 | mk (A:LA) (y:YR) (L:Kn) (kvs:List (List Key×V)) (z:Pr) (_:vs=[.ref A.p]) (_:YIn Cy H A.y y L) (_:(A.p,HO.ins Cl A.dx (lfl A)) ∈ L) (_:(A.r,HO.dT kvs) ∈ L) (_:y.eng=.ref z.1) (_:pK2 z ∈ L) (_:au kvs (kE z.2.1 z.2.2)=none) (_:Q .non H):sp_rowhere Cy Cl vs H Q E_
section
variable {P:Program}{w:World}{K:PySem.W.Frag}{mg:Str->Option Value}{base:Heap}{t:Adr}
theorem scRh:FnScope ["self"] ["self"] (aj rh):={}
theorem ok_Jd (T:Txt K mg t):FnOk P w K mg base CX0 2 t.f_Jd t.d_Jd ["self"] (sp_rowhere t.c_Yard t.c_Laid):=by
 refine T.F_Jd.ok scRh (fun vs H Q E h=>?_) (fun cdv A outer s H vs Q E hr h=>?_)
 ·obtain⟨_,_,_,_,_,rfl,_⟩:=h
  rfl
 ·obtain⟨A,y,L,kvs,z,rfl,Y,mp,mr,ey,mz,vn,q⟩:=h
  have hu:=cD hr
  refine⟨_,(ai (aB (fg hu (aw (pv 0) rfl) (aT (aw (pv 0) rfl) T.cl_Yard T.M_Jn (oN T) hr (rS T) .nil az) ⟨U,U,U,U⟩))),?_⟩
  have gp:=Y.at_ mp
  have gr:=Y.at_ mr
  have gz:=Y.at_ mz
  obtain⟨Ay,gy⟩:=Y.obj
  refine⟨_,U,A.p,_,A.dx,_,_,U,gp,T.cl_Laid,T.n_Laid_rows_at,oT _,A.r,U,.inr ⟨_,.inl gr⟩,_,U,A.p,_,A.dx,_,_,U,gp,T.cl_Laid,T.n_Laid_yard,fD _,A.y,Ay.dx,_,U,gy,(gq _ _ _).2.2.2.2.2.2.1,?_⟩
  refine tn0 ?_
  refine j9 Y ?_
  rw[ey]
  refine⟨_,DGet.t (k:=kE z.2.1 z.2.2) gr gz,?_⟩
  rw[vn]
  exact q
end
theorem qz {p q:Prop} [Decidable p] [Decidable q] {A B U:Prop} (h:(if decide q=true then A else B)->U) (h1:p->q->A) (h2:¬ (p/\q)->B):if decide p=true then U else(if false=true then A else B):=by
 by_cases hp:p
 ·rw[if_pos (decide_eq_true hp)]
  refine h ?_
  by_cases hq:q
  ·rw[if_pos (decide_eq_true hq)]; exact h1 hp hq
  ·rw[if_neg (by rw[decide_eq_false hq]; decide)]; exact h2 fun c=>hq c.2
 ·rw[if_neg (by rw[decide_eq_false hp]; decide),if_neg (by decide)]; exact h2 fun c=>hp c.1
theorem dgI {ds:List Int} (j:Int) (h0:0<=j) (h1:j<ds.length):atI (ds.map V.int) j=some (.int (ds.getD j.toNat 0)):=by
 obtain⟨n,rfl⟩:=Int.eq_ofNat_of_zero_le h0
 refine aC ?_
 rw[sx,sq (by omega),List.getD_eq_getElem?_getD,Int.toNat_natCast,sq (by omega)]
 rfl
theorem Rw.ok_nr {x:Rw}{a b c d k n:Nat} (h:x.ok a b c k n):x.ok a b d k n:=by cases x <;> exact h
noncomputable def Fm (k ns:Nat) (rs:List (Addr×Rw)):Prop:=∃ b a,rs=b++[(a,Rw.fin)]/\b.length<=3/\∀ x ∈ b,x.2≠.fin/\x.2.ok 0 0 0 k ns
inductive sp_Jt (vs:List V) (H:Hp) (Q:VK) (E_:XK):Prop
 | mk (d:Addr) (ds:List Int) (many:Nat) (L:Kn) (_:vs=[.ref d,.int many]) (_:Has H L) (_:(d,HO.lst (ds.map V.int)) ∈ L) (_:40<=ds.length) (_:1<=many) (_:many<=4) (_:∀ H' pl ss N,ss.length=many->(∀ (k:Nat) z,ss[k]?=some z->Fm k many z.2)->(∀ z ∈ ss,(z.1,HO.lst (rwV z.2)) ∈ N)->(∀ z ∈ ss,∀ x ∈ z.2,(x.1,HO.tup x.2.v) ∈ N)->Has H' ((pl,.lst (ssV ss))::(N++L))->Q (.ref pl) H'):sp_Jt vs H Q E_
inductive str1Inv (d pl:Addr) (many:Nat) (L:Kn) (i:Nat) (σ':St) (H':Hp):Prop
 | mk (o3 o4 o5 o6 o7:Option V) (ss:Ss) (N:Kn) (_:σ'=[some (.ref d),some (.int many),some (.ref pl),o3,o4,o5,o6,o7]) (_:ss.length=i) (_:(∀ (k:Nat) z,ss[k]?=some z->Fm k many z.2)) (_:(∀ z ∈ ss,(z.1,HO.lst (rwV z.2)) ∈ N)) (_:(∀ z ∈ ss,∀ x ∈ z.2,(x.1,HO.tup x.2.v) ∈ N)) (_:Has H' ((pl,.lst (ssV ss))::(N++L))):str1Inv d pl many L i σ' H'
inductive str2Inv (d pl rl:Addr) (many i:Nat) (L:Kn) (j:Nat) (σ':St) (H':Hp):Prop
 | mk (o5 o6 o7:Option V) (rs:List (Addr×Rw)) (N:Kn) (_:σ'=[some (.ref d),some (.int many),some (.ref pl),some (.int i),some (.ref rl),o5,o6,o7]) (_:rs.length=j) (_:(∀ x ∈ rs,x.2≠.fin/\x.2.ok 0 0 0 i many)) (_:(∀ x ∈ rs,(x.1,HO.tup x.2.v) ∈ N)) (_:Has H' ((rl,.lst (rwV rs))::(N++L))):str2Inv d pl rl many i L j σ' H'
section
variable {P:Program}{w:World}{K:PySem.W.Frag}{mg:Str->Option Value}{base:Heap}{t:Adr}
theorem scSs:FnScope ["_law_d","_law_many","_law_parts","_law_stretch","_law_rows","_law_row","_law_draw","_law_other"] ["_law_d","_law_many"] (aj qM):={}
theorem ok_Jt (T:Txt K mg t):FnOk P w K mg base CX0 1 t.f_Jt t.d_Jt ["_law_d","_law_many"] sp_Jt:=by
 refine T.F_Jt.ok scSs (fun vs H Q E h=>?_) (fun cdv A outer s H vs Q E hr h=>?_)
 ·obtain⟨_,_,_,_,rfl,_⟩:=h
  rfl
 ·obtain⟨d,ds,many,L,rfl,hH,md,hds,hm1,hm4,q⟩:=h
  refine⟨_,(ae (aH (i:=2) scSs.nd rfl (Or.inl rfl) (aU ah))
   (ae (bi PassesOwn.never rfl (bp (by rfl) T.z_range (aa (pv 1) ah)) (aq (i:=3) scSs.nd rfl (Or.inl rfl))
    (ae (aH (i:=4) scSs.nd rfl (Or.inl rfl) (aU ah))
     (ae (bi PassesOwn.never rfl (bp (by rfl) T.z_range (aa (aQ cf (aM aN (pv 0) (aQ bA am (pv 3))) am) ah)) (aq (i:=5) scSs.nd rfl (Or.inl rfl))
      (ae (aH (i:=6) scSs.nd rfl (Or.inl rfl) (aM aN (pv 0) (aQ bA am (aQ cz am (aQ bA (aQ cz am (pv 3)) (pv 5))))))
       (ae (aH (i:=7) scSs.nd rfl (Or.inl rfl) (aM aN (pv 0) (aQ bA am (aQ cz am (aQ bA (aQ cz am (pv 3)) (pv 5))))))
       (ai (aI (PW.pt (iR (ap iu (aQ cf (pv 6) am) am (ar _)) (gM (ap bO (aQ bA (pv 3) am) (pv 1) (ar _)))))
        (ai (ao (bL PySem.F.plainAttrs_list PySem.F.slot_list_append PySem.F.type_list_append aV (pv 4) (@aa _ _ _ _ _ (aF (aa aL (aa (aQ bA (aQ bA (pv 3) am) (aQ cf (pv 7) (aQ cR (aQ cR (pv 1) (pv 3)) am))) ah))) ah (by rfl)))))
        (ai (ao (bL PySem.F.plainAttrs_list PySem.F.slot_list_append PySem.F.type_list_append aV (pv 4) (@aa _ _ _ _ _ (aF (aa aL (aa (aQ cf (pv 7) am) ah))) ah (by rfl))))))))))
     (ai (ao (bL PySem.F.plainAttrs_list PySem.F.slot_list_append PySem.F.type_list_append aV (pv 2) (aa (aQ gY (pv 4) (aU (@aa _ _ _ _ _ (aF (aa aL ah)) ah (by rfl)))) ah)))))))
   (ai (aB (pv 2))))),?_⟩
  rw[]
  refine⟨(sz_ 0),fun pl hpl=>?_⟩
  have h0:=hH.alloc hpl (.lst [])
  dsimp only[List.set]
  refine⟨_,U,_,U,by omega,by omega,bw (str1Inv d pl many L) ⟨_,_,_,_,_,[],[],U,U,(fun k z hz=>by simp at hz),(fun z hz=>nomatch hz),(fun z hz=>nomatch hz),h0⟩ ?_ ?_⟩
  ·clear h0
   rintro i σ H1 hi ⟨o3,o4,o5,o6,o7,ss,N,rfl,hl,fm,mz,mx,h1⟩
   have hi:i<many:=by omega
   rw[Int.zero_add]
   show kI _ _ _ _ _
   dsimp only[List.set]
   refine⟨(sz_ 0),fun rl hrl=>?_⟩
   have h2:=h1.alloc hrl (.lst [])
   dsimp only[List.set]
   have g2:=h2.at_ _ (r9 _ (r9 _ (se _ md)))
   dsimp only at g2
   obtain⟨L1,eL1⟩:∃ L1:Kn,(pl,HO.lst (ssV ss))::(N++L)=L1:=⟨_,U⟩
   have md1:(d,HO.lst (ds.map V.int)) ∈ L1:=by rw[<- eL1]; exact r9 _ (se _ md)
   rw[eL1] at h2
   have x4:∀ x:Int,0<=x % 4/\x % 4<4:=fun x=>⟨Int.emod_nonneg _ (by decide),Int.emod_lt_of_pos _ (by decide)⟩
   obtain⟨rn,ern⟩:∃ rn:Nat,ds.getD (1+(i:Int)).toNat 0 % 4=(rn:Int):=Int.eq_ofNat_of_zero_le (x4 _).1
   have hrn:rn<4:=by have:=(x4 (ds.getD (1+(i:Int)).toNat 0)).2; omega
   refine⟨_,U,_,U,_,_,U,U,d,_,_,_,U,U,SqL.of g2,dgI (1+(i:Int)) (by omega) (by omega),_,_,U,U,(show(0:Int)<4 by decide),?_⟩
   rw[ern]
   refine⟨_,U,by omega,by omega,bw (str2Inv d pl rl many i L1) ⟨_,_,_,[],[],U,U,(fun x hx=>nomatch hx),(fun x hx=>nomatch hx),h2⟩ ?_ ?_⟩
   ·clear h2 g2 h1
    rintro j σ H2 hj ⟨o5,o6,o7,rs,N1,rfl,hrl2,ok1,mr1,h2⟩
    have hj:j<rn:=by omega
    rw[Int.zero_add]
    show kI _ _ _ _ _
    dsimp only[List.set]
    have g2:=h2.at_ _ (r9 _ (se _ md1))
    dsimp only at g2
    refine⟨_,U,_,U,_,_,U,U,.inl ⟨by decide,by decide⟩,_,U,_,_,U,U,_,_,U,U,.inl ⟨by decide,by decide⟩,_,_,U,U,d,_,_,_,U,U,SqL.of g2,dgI (6+2*(3*(i:Int)+(j:Int))) (by omega) (by omega),?_⟩
    dsimp only[List.set]
    refine⟨_,U,_,U,_,_,U,U,.inl ⟨by decide,by decide⟩,_,U,_,_,U,U,_,_,U,U,.inl ⟨by decide,by decide⟩,_,_,U,U,d,_,_,_,U,U,SqL.of g2,dgI (7+2*(3*(i:Int)+(j:Int))) (by omega) (by omega),?_⟩
    dsimp only[List.set]
    obtain⟨dr,edr⟩:∃ dr,ds.getD (6+2*(3*(i:Int)+(j:Int))).toNat 0=dr:=⟨_,U⟩
    obtain⟨ot,eot⟩:∃ ot,ds.getD (7+2*(3*(i:Int)+(j:Int))).toNat 0=ot:=⟨_,U⟩
    rw[edr,eot]
    have fin:∀ {H':Hp} (a:Addr) (y:Rw) (o5 o6 o7:Option V),y≠.fin->y.ok 0 0 0 i many->Has H' ((a,.tup y.v)::(rl,.lst (rwV rs))::(N1++L1))->str2Inv d pl rl many i L1 (j+1) [some (.ref d),some (.int many),some (.ref pl),some (.int i),some (.ref rl),o5,o6,o7] (upd H' rl (.lst (rwV rs++[.ref a]))):=by
     intro H' a y o5 o6 o7 ny oy h'
     have h3:=h'.puti 1 U (.lst (rwV rs++[.ref a]))
     refine⟨o5,o6,o7,rs++[(a,y)],(a,.tup y.v)::N1,U,by simp[hrl2],?_,?_,?_⟩
     ·intro x hx
      rcases sC.mp hx with hx | hx
      ·exact ok1 x hx
      ·rw[sy.mp hx]; exact⟨ny,oy⟩
     ·intro x hx
      rcases sC.mp hx with hx | hx
      ·exact r9 _ (mr1 x hx)
      ·rw[sy.mp hx]; exact sg
     ·rw[show rwV (rs++[(a,y)])=rwV rs++[.ref a] by unfold rwV; rw[sw]; rfl]
      exact qu h3 1 rfl
    refine⟨_,U,_,_,U,U,(show(0:Int)<4 by decide),_,_,U,U,_,U,?_⟩
    refine qz (fun z=>⟨_,U,_,_,U,U,_,U,_,_,U,U,_,U,z⟩) (fun _ hp=>?_) (fun _=>?_)
    ·have hp:(0:Int)<(many:Int) - (i:Int) - 1:=by omega
     have e1:0<=ot % ((many:Int) - (i:Int) - 1)/\ot % ((many:Int) - (i:Int) - 1)<(many:Int) - (i:Int) - 1:=⟨Int.emod_nonneg _ (by omega),Int.emod_lt_of_pos _ hp⟩
     refine⟨_,U,.inl ⟨U,_,SqL.of (h2.get 0 U)⟩,_,U,_,_,U,U,_,U,_,U,_,U,_,_,U,U,_,_,U,U,_,_,U,U,hp,_,_,U,U,(sz_ 2),fun a ha=>?_⟩
     have h3:=h2.alloc ha (.tup (Rw.call ((i:Int)+1+ot % ((many:Int) - (i:Int) - 1))).v)
     refine⟨rl,_,_,U,U,h3.get 1 U,sizeOk (by unfold rwV; rw[su]; omega),?_⟩
     exact fin a (.call ((i:Int)+1+ot % ((many:Int) - (i:Int) - 1))) _ _ _ (fun c=>nomatch c) ⟨by omega,by omega⟩ h3
    ·refine⟨_,U,.inl ⟨U,_,SqL.of (h2.get 0 U)⟩,_,U,_,_,U,U,(show(0:Int)<10000 by decide),(sz_ 2),fun a ha=>?_⟩
     have h3:=h2.alloc ha (.tup (Rw.bell (ot % 10000)).v)
     refine⟨rl,_,_,U,U,h3.get 1 U,sizeOk (by unfold rwV; rw[su]; omega),?_⟩
     exact fin a (.bell (ot % 10000)) _ _ _ (fun c=>nomatch c) ⟨Int.emod_nonneg _ (by decide),by have:=Int.emod_lt_of_pos ot (show(0:Int)<10000 by decide); omega⟩ h3
   ·rintro σ H2 hP
    rw[Int.toNat_natCast] at hP
    obtain⟨o5,o6,o7,rs,N1,rfl,hrl2,ok1,mr1,h3⟩:=hP
    subst eL1
    have m2:(pl,HO.lst (ssV ss)) ∈ (rl,HO.lst (rwV rs))::(N1++((pl,HO.lst (ssV ss))::(N++L))):=by simp
    refine⟨_,U,.inl ⟨U,_,SqL.of (h3.at_ _ m2)⟩,_,U,(sz_ 1),fun te hte=>?_⟩
    have h4:=h3.alloc hte (.tup (Rw.fin).v)
    refine⟨(sz_ 1),fun l1 hl1=>?_⟩
    have h5:=h4.alloc hl1 (.lst [.ref te])
    refine⟨rl,l1,_,_,U,U,SqL.of (h5.get 2 U),SqL.of (h5.get 0 U),sz (show _<=1000000 by unfold rwV; rw[su,sK]; omega),fun l2 hl2=>?_⟩
    have e5:rwV rs++[.ref te]=rwV (rs++[(te,Rw.fin)]):=by unfold rwV; rw[sw]; rfl
    rw[e5]
    have h6:=h5.alloc hl2 (.lst (rwV (rs++[(te,Rw.fin)])))
    have lss:(ssV ss).length<=1000:=by unfold ssV; rw[su]; omega
    have h7:Has _ ((pl,HO.lst (ssV ss))::(((l2,HO.lst (rwV (rs++[(te,Rw.fin)])))::(te,HO.tup (Rw.fin).v)::N1++N)++((l1,HO.lst [.ref te])::(rl,HO.lst (rwV rs))::L))):=Has.ac h6 (by simp only[List.cons_append,Ms.app,Ms.cons]; ac_rfl)
    refine⟨pl,_,_,U,U,h7.get 0 U,sizeOk (by omega),?_⟩
    have h8:=h7.puti 0 U (.lst (ssV ss++[.ref l2]))
    refine⟨_,_,_,_,_,ss++[(l2,rs++[(te,Rw.fin)])],(l2,HO.lst (rwV (rs++[(te,Rw.fin)])))::(te,HO.tup (Rw.fin).v)::N1++N,U,by simp[hl],?_,?_,?_,?_⟩
    ·intro k z hz
     by_cases hk:k<ss.length
     ·rw[sO hk] at hz
      exact fm k z hz
     ·rw[sM (by omega)] at hz
      cases hc:k - ss.length with
      | zero=>
       rw[hc] at hz
       cases hz
       have:k=i:=by omega
       subst this
       exact⟨rs,te,U,by omega,ok1⟩
      | succ n=>rw[hc] at hz; simp at hz
    ·intro z hz
     rcases sC.mp hz with hz | hz
     ·exact se _ (mz z hz)
     ·rw[sy.mp hz]; exact sk _ sg
    ·intro z hz x hx
     rcases sC.mp hz with hz | hz
     ·exact se _ (mx z hz x hx)
     ·rw[sy.mp hz] at hx
      rcases sC.mp hx with hx | hx
      ·exact sk _ (r9 _ (r9 _ (mr1 x hx)))
      ·rw[sy.mp hx]; exact sk _ (r9 _ sg)
    ·rw[show ssV (ss++[(l2,rs++[(te,Rw.fin)])])=ssV ss++[.ref l2] by unfold ssV; rw[sw]; rfl]
     exact h8.sub (.cons₂ _ (List.Sublist.append (List.Sublist.refl _) (.cons _ (.cons _ (List.Sublist.refl _)))))
  ·rintro σ H1 hP
   rw[Int.toNat_natCast] at hP
   obtain⟨o3,o4,o5,o6,o7,ss,N,rfl,hl,fm,mz,mx,h1⟩:=hP
   exact⟨_,U,q _ pl ss N hl fm mz mx h1⟩
end
theorem di (f : Nat->List Int) : ∀ (a b : List (Addr×Rw)), ntR f (a++b)=ntR f a++ntR f b
  | [], _=>rfl
  | (_, .bell n) :: a, b => by show [n] ++ ntR f (a ++ b) = ([n] ++ ntR f a) ++ ntR f b; rw [di f a b, sr]
  | (_, .call s) :: a, b => by show f s.toNat ++ ntR f (a ++ b) = (f s.toNat ++ ntR f a) ++ ntR f b; rw [di f a b, sr]
  | (_, .fin) :: a, b => by show ntR f (a ++ b) = ntR f a ++ ntR f b; exact di f a b
theorem cK {f g : Nat->List Int} : ∀ {rs : List (Addr×Rw)}, (∀ x ∈ rs, ∀ s, x.2=Rw.call s->f s.toNat=g s.toNat)->ntR f rs=ntR g rs
  | [], _=>rfl
  | (a, .bell n) :: r, h => by show [n] ++ ntR f r = [n] ++ ntR g r; rw [cK fun x hx => h x (r9 _ hx)]
  | (a, .call s) :: r, h => by
    show f s.toNat++ntR f r=g s.toNat++ntR g r
    rw[cK (fun x hx=>h x (r9 _ hx)), h _ sg s rfl]
  | (a, .fin) :: r, h => by show ntR f r = ntR g r; exact cK fun x hx => h x (r9 _ hx)
noncomputable abbrev Tb4:=List (Addr×List Int)
noncomputable abbrev tbV (tb:Tb4):List V:=tb.map fun z=>V.ref z.1
noncomputable abbrev tbK (tb:Tb4):Kn:=tb.map fun z=>(z.1,HO.lst (z.2.map V.int))
noncomputable def tg (tb:Tb4) (k:Nat):List Int:=((tb[k]?).map (·.2)).getD []
theorem gH {tb:Tb4}{k:Nat}{z:Addr×List Int} (hk:k<tb.length) (j:Nat):tg (tb.set k z) j=if k=j then z.2 else tg tb j:=by
 unfold tg
 rw[List.getElem?_set]
 split
 ·rename_i c; subst c; rfl
 ·rfl
theorem gI {tb:Tb4}{k:Nat}{z:Addr×List Int} (h:tb[k]?=some z):tg tb k=z.2:=by unfold tg; rw[h]; rfl
theorem mq {tb:Tb4}{k:Nat}{z z':Addr×List Int} (h:tb[k]?=some z) (e:z'.1=z.1):tbV (tb.set k z')=tbV tb:=by
 obtain⟨a,b,e1,e2⟩:=spl h
 rw[e2,e1]
 show(a++z'::b).map _=(a++z::b).map _
 rw[sw,sw,sH,sH,e]
theorem my {tb:Tb4}{k:Nat}{z z':Addr×List Int}{X Y:Kn} (hH:Has H (X++(tbK tb++Y))) (h:tb[k]?=some z) (e:z'.1=z.1):Has (upd H z.1 (.lst (z'.2.map V.int))) (X++(tbK (tb.set k z')++Y)):=by
 obtain⟨a,b,e1,e2⟩:=spl h
 have e3:X++(tbK tb++Y)=(X++tbK a)++(z.1,HO.lst (z.2.map V.int))::(tbK b++Y):=by
  rw[e1]
  show X++((a++z::b).map _++Y)=_
  rw[sw,sH]
  simp only[sr,List.cons_append]
 have h2:=rM (dt hH e3) (.lst (z'.2.map V.int))
 refine dt h2 ?_
 rw[e2,<- e]
 show _=X++((a++z'::b).map _++Y)
 rw[sw,sH]
 simp only[sr,List.cons_append]
theorem gJ {tb:Tb4}{k:Nat}{z:Addr×List Int} (h:tb[k]?=some z):(z.1,HO.lst (z.2.map V.int)) ∈ tbK tb:=sF (f:=fun z:Addr×List Int=>(z.1,HO.lst (z.2.map V.int))) (si h)
structure TbOk (ss:Ss) (b:Nat) (tb:Tb4):Prop where
 l:tb.length=ss.length
 e:∀ k,k+b<ss.length->tg tb k=[]
 g:∀ (k:Nat) z,ss.length<=k+b->ss[k]?=some z->tg tb k=ntR (tg tb) z.2
 s:∀ k,(tg tb k).length<=4 ^ b
theorem TbOk.step {ss:Ss}{b st:Nat}{tb:Tb4}{z:Addr×List (Addr×Rw)} (h:TbOk ss b tb) (good:Good 0 0 ss) (hst:st+b+1=ss.length) (hz:ss[st]?=some z) (a:Addr) (bl:(ntR (tg tb) z.2).length<=4 ^ (b+1)):TbOk ss (b+1) (tb.set st (a,ntR (tg tb) z.2)):=by
 have hl:st<tb.length:=by rw[h.l]; omega
 have cg:∀ (k:Nat) y,st<=k->ss[k]?=some y->ntR (tg (tb.set st (a,ntR (tg tb) z.2))) y.2=ntR (tg tb) y.2:=fun k y hk hy=>by
  refine cK fun x hx s e=>?_
  have:=(good k y hy).1 x hx
  rw[e] at this
  have this:(k:Int)<s/\s<ss.length:=this
  rw[gH hl,if_neg (by omega)]
 refine⟨by rw[List.length_set]; exact h.l,fun k hk=>?_,fun k y hk hy=>?_,fun k=>?_⟩
 ·rw[gH hl,if_neg (by omega)]
  exact h.e k (by omega)
 ·rw[gH hl,cg k y (by omega) hy]
  by_cases c:st=k
  ·subst c
   rw[hz] at hy
   cases hy
   rw[if_pos rfl]
  ·rw[if_neg c]
   exact h.g k y (by omega) hy
 ·rw[gH hl]
  split
  ·exact bl
  ·exact Nat.le_trans (h.s k) (Nat.pow_le_pow_right (by decide) (Nat.le_succ _))
inductive sp_notes (vs:List V) (H:Hp) (Q:VK) (E_:XK):Prop
 | mk (pl:Addr) (ss:Ss) (L:Kn) (_:vs=[.ref pl]) (_:Has H L) (_:(pl,HO.lst (ssV ss)) ∈ L) (_:(∀ z ∈ ss,(z.1,HO.lst (rwV z.2)) ∈ L)) (_:(∀ z ∈ ss,∀ x ∈ z.2,(x.1,HO.tup x.2.v) ∈ L)) (_:Good 0 0 ss) (_:1<=ss.length) (_:ss.length<=4) (_:(∀ z ∈ ss,z.2.length<=4)) (_:∀ H' l (f:Nat->List Int) Nw,(∀ (j:Nat) z,ss[j]?=some z->f j=ntR f z.2)->(f 0).length<=1000->(l,HO.lst ((f 0).map V.int)) ∈ Nw->Has H' (Nw++L)->Q (.ref l) H'):sp_notes vs H Q E_
inductive nt1Inv (pl rl:Addr) (ss:Ss) (L:Kn) (b:Nat) (σ':St) (H':Hp):Prop
 | mk (o2 o3 o4:Option V) (tb:Tb4) (_:σ'=[some (.ref pl),some (.ref rl),o2,o3,o4]) (_:TbOk ss b tb) (_:Has H' ([(rl,HO.lst (tbV tb))]++(tbK tb++L))):nt1Inv pl rl ss L b σ' H'
inductive nt2Inv (pl rl:Addr) (tb:Tb4) (z:Addr×List (Addr×Rw)) (a:Addr) (b st:Nat) (L:Kn) (r:Nat) (σ':St) (H':Hp):Prop
 | mk (o4:Option V) (_:σ'=[some (.ref pl),some (.ref rl),some (.int b),some (.int st),o4]) (_:(ntR (tg tb) (z.2.take r)).length<=r*4 ^ b) (_:Has H' ([(rl,HO.lst (tbV tb))]++(tbK (tb.set st (a,ntR (tg tb) (z.2.take r)))++L))):nt2Inv pl rl tb z a b st L r σ' H'
section
variable {P:Program}{w:World}{K:PySem.W.Frag}{mg:Str->Option Value}{base:Heap}{t:Adr}
theorem scNt:FnScope ["_law_parts","_law_rung","_law_back_on","_law_stretch","_law_deed"] ["_law_parts"] (aj gL):={}
theorem lj (T:Txt K mg t):FnOk P w K mg base CX0 1 t.f_notes t.d_notes ["_law_parts"] sp_notes:=by
 refine T.F_notes.ok scNt (fun vs H Q E h=>?_) (fun cdv A outer s H vs Q E hr h=>?_)
 ·obtain⟨_,_,_,rfl,_⟩:=h
  rfl
 ·obtain⟨pl,ss,L,rfl,hH,mpl,mz,mx,good,h1,h4,l4,q⟩:=h
  have lss:(ssV ss).length=ss.length:=by unfold ssV; rw[su]
  refine⟨_,(ae (gO (ix:=1) scNt.nd rfl (Or.inl rfl) (esc:=aj gL) (k:=1) ["_law_rows","_law_parts","_law_rung","_law_back_on","_law_stretch","_law_deed"] rfl (bF (pv 0)) (fun _ _ _ _ _=>by exact(aq (i:=0) (show List.Nodup (["_law_rows","_law_parts","_law_rung","_law_back_on","_law_stretch","_law_deed"]:List Str) from by decide +kernel) rfl (Or.inl rfl))) (fun _ _ _ _ _=>by exact bI) (fun _ _ _ _ _=>by exact(aU ah)) rfl (by decide +kernel) (by decide +kernel) rfl (by decide +kernel) (by rfl) (fun _ _ h _=>h) (by decide +kernel))
   (ae (bi PassesOwn.never rfl (bp (by rfl) T.z_range (aa (aR aJ (by rfl) T.z_len (by rfl) (aa (pv 0) ah)) ah)) (aq (i:=2) scNt.nd rfl (Or.inl rfl))
    (ae (aH (i:=3) scNt.nd rfl (Or.inl rfl) (aQ cR (aQ cR (aR aJ (by rfl) T.z_len (by rfl) (aa (pv 0) ah)) am) (pv 2)))
     (ai (bi PassesOwn.never rfl (bF (aM aN (pv 0) (pv 3))) (aq (i:=4) scNt.nd rfl (Or.inl rfl))
      (ae (aI (ap br (aM aY (pv 4) am) aL (ar _))
        (ai (ao (bL PySem.F.plainAttrs_list PySem.F.slot_list_append PySem.F.type_list_append aV (aM aN (pv 1) (pv 3)) (aa (aM aY (pv 4) am) ah))))
        av)
       (ai (aI (ap br (aM aY (pv 4) am) aL (ar _))
        (ai (ao (bL PySem.F.plainAttrs_list PySem.F.slot_list_extend PySem.F.type_list_extend jT (aM aN (pv 1) (pv 3)) (aa (aM aN (pv 1) (aM aY (pv 4) am (fun _ _=>rfl))) ah))))
        av)))))))
   (ai (aB (aM aN (pv 1) am))))),?_⟩
  rw[show L2.start ["_law_parts","_law_rung","_law_back_on","_law_stretch","_law_deed"] [V.ref pl]=([some (V.ref pl),none,none,none,none]:St) from rfl]
  refine⟨_,U,pl,U,⟨_,SqL.of (hH.at_ _ mpl)⟩,fun D hD=>?_⟩
  refine⟨fun i m zs H'=>m=ss.length - i/\i<=ss.length/\∃ tb:Tb4,zs=tbV tb/\tb.length=i/\(∀ z ∈ tb,z.2=[])/\Has H' ([(D,HO.lst zs)]++(tbK tb++L)),⟨_,U,Nat.zero_le _,[],U,U,(fun z hz=>nomatch hz),hH.alloc hD _⟩,?_⟩
  rintro i m zs H1 ⟨rfl,hi,tb,rfl,ltb,tb0,hb⟩
  refine⟨hb.get 0 U,?_⟩
  have gp:=hb.at_ _ (se _ (se _ mpl))
  by_cases hlt:i<ss.length
  ·have hx0:=cX (sq hlt)
   refine .inr ⟨⟨_,_,SqL.of gp,hx0⟩,?_⟩
   rintro x H2 ⟨rfl,hx⟩
   refine⟨U,dH ?_⟩
   refine⟨by decide,fun l hl=>?_⟩
   have h2:=hb.alloc hl (.lst [])
   refine⟨sizeOk (by rw[su]; omega),h2.get 1 U,ss.length - (i+1),by omega,U,hlt,tb++[(l,[])],by show _=(tb++[(l,[])]).map _; rw[sw]; rfl,by simp[ltb],iK tb0 rfl,?_⟩
   have h3:=h2.puti 1 U (.lst (tbV tb++[.ref l]))
   refine Has.ac h3 ?_
   rw[show tbK (tb++[(l,[])])=tbK tb++[(l,HO.lst [])] by show(tb++[(l,[])]).map _=_; rw[sw]; rfl]
   simp only[List.set_cons_succ,List.set_cons_zero,List.cons_append,List.nil_append,Ms.app,Ms.cons,Ms.nil,Ms.zr]
   ac_rfl
  ·refine .inl ⟨⟨_,SqL.of gp,by rw[lss]; omega⟩,?_⟩
   dsimp only[List.set]
   have ei:i=ss.length:=by omega
   have t0:∀ k,tg tb k=[]:=fun k=>by
    unfold tg
    cases hk:tb[k]? with
    | none=>rfl
    | some z=>exact tb0 z (si hk)
   have tok:TbOk ss 0 tb:=⟨by omega,fun k _=>t0 k,fun k z hk hz=>by have:=(List.getElem?_eq_some_iff.mp hz).1; omega,fun k=>by rw[t0]; exact Nat.zero_le _⟩
   refine⟨_,U,pl,_,U,.inl (SqL.of gp),?_⟩
   rw[lss]
   refine⟨_,U,by omega,by omega,bw (nt1Inv pl D ss L) ⟨_,_,_,tb,U,tok,hb⟩ ?_ ?_⟩
   ·clear hb tok gp t0
    rintro b σ H2 hbk ⟨o2,o3,o4,tb,rfl,tok,hb⟩
    have hbl:b<ss.length:=by omega
    rw[Int.zero_add]
    show kI _ _ _ _ _
    dsimp only[List.set]
    obtain⟨st,est⟩:∃ st:Nat,st+b+1=ss.length:=⟨ss.length - 1 - b,by omega⟩
    have ev:(ss.length:Int) - 1 - (b:Int)=(st:Int):=by omega
    have gp:=hb.at_ _ (se _ (se _ mpl))
    refine⟨_,U,pl,_,U,.inl (SqL.of gp),_,_,U,U,_,U,_,_,U,U,?_⟩
    rw[lss,ev]
    dsimp only[List.set]
    have hsl:st<ss.length:=by omega
    have hz:=sq hsl
    obtain⟨z,ez⟩:∃ z,ss[st]=z:=⟨_,U⟩
    rw[ez] at hz
    have hzm:=si hz
    have hst:st<tb.length:=by rw[tok.l]; exact hsl
    have ht:=sq hst
    obtain⟨y,ey⟩:∃ y,tb[st]=y:=⟨_,U⟩
    rw[ey] at ht
    have y0:y.2=[]:=by rw[<- gI ht]; exact tok.e st (by omega)
    have gz:=hb.at_ _ (se _ (se _ (mz z hzm)))
    have lrw:(rwV z.2).length=z.2.length:=by unfold rwV; rw[su]
    have ez0:tb.set st (y.1,ntR (tg tb) (z.2.take 0))=tb:=by
     rw[List.take_zero]
     show tb.set st (y.1,[])=tb
     rw[<- y0,<- ey]
     exact List.set_getElem_self hst
    refine⟨_,U,_,U,pl,_,_,_,U,U,SqL.of gp,aC (cX hz),z.1,U,⟨_,SqL.of gz⟩,cE (xs:=rwV z.2) (nt2Inv pl D tb z y.1 b st L) ⟨_,U,by rw[List.take_zero]; exact Nat.zero_le _,by rw[ez0]; exact hb⟩ (fun r σ H' _ ⟨_,_,_,h'⟩=>SqL.of (h'.at_ _ (se _ (se _ (mz z hzm))))) ?_ ?_⟩
    ·clear hb gp gz
     rintro r x σ H3 hx ⟨o4,rfl,bl,h3⟩
     unfold rwV at hx
     rw[sx] at hx
     obtain⟨d,hd,rfl⟩:=Option.map_eq_some_iff.mp hx
     have hdm:=si hd
     have gd:=h3.at_ _ (se _ (se _ (mx z hzm d hdm)))
     have etk:z.2.take (r+1)=z.2.take r++[d]:=cv hd
     have hr4:r<4:=by have:=l4 z hzm; have:=(List.getElem?_eq_some_iff.mp hd).1; omega
     have p4:4 ^ b<=64:=Nat.le_trans (Nat.pow_le_pow_right (by decide) (show b<=3 by omega)) (by decide)
     have p1:1<=4 ^ b:=Nat.pow_le_pow_right (n:=4) (by decide) (Nat.zero_le b)
     obtain⟨B,eB⟩:∃ B,4 ^ b=B:=⟨_,U⟩
     have sB:∀ k,(tg tb k).length<=B:=fun k=>by rw[<- eB]; exact tok.s k
     obtain⟨acc,eacc⟩:∃ acc,ntR (tg tb) (z.2.take r)=acc:=⟨_,U⟩
     rw[eacc] at h3 bl
     rw[eB] at bl p4 p1
     have bl':acc.length<=4*B:=Nat.le_trans bl (Nat.mul_le_mul_right _ (by omega))
     have hst':(tb.set st (y.1,acc))[st]?=some (y.1,acc):=by rw[List.getElem?_set,if_pos rfl,if_pos hst]
     have gr:(tbV tb)[st]?=some (.ref y.1):=by show(tb.map _)[st]?=_; rw[sx,ht]; rfl
     have gy:H3 y.1=some (.lst (acc.map V.int)):=h3.at_ _ (se _ (sk _ (gJ hst')))
     have fin:∀ {H':Hp} (o:Option V) (more:List Int),ntR (tg tb) [d]=more->more.length<=B->Has H' ([(D,HO.lst (tbV tb))]++(tbK (tb.set st (y.1,acc++more))++L))->nt2Inv pl D tb z y.1 b st L (r+1) [some (.ref pl),some (.ref D),some (.int b),some (.int st),o] H':=fun {H'} o more e1 e2 h'=>by
      refine⟨o,U,?_,?_⟩
      ·rw[etk,di,eacc,e1,eB,sA,Nat.succ_mul]; omega
      ·rw[etk,di,eacc,e1]; exact h'
     have upd':∀ (more:List Int),Has (upd H3 y.1 (.lst (acc.map V.int++more.map V.int))) ([(D,HO.lst (tbV tb))]++(tbK (tb.set st (y.1,acc++more))++L)):=fun more=>by
      have h5:=my (z':=(y.1,acc++more)) h3 hst' rfl
      rw[List.set_set] at h5
      rw[<- sw]
      exact h5
     obtain⟨da,dr⟩:=d
     refine⟨_,U,da,_,_,_,U,U,SqT.of gd,aC (j:=0) rfl,U,_,U,?_⟩
     cases dr with
     | fin=>
      refine ifF (sne "end" "bell") ?_
      refine⟨_,U,da,_,_,_,U,U,SqT.of gd,aC (j:=0) rfl,U,_,U,ifF (sne "end" "call") ?_⟩
      exact fin _ [] rfl (Nat.zero_le _) (by rw[sR]; exact h3)
     | bell nn=>
      refine ifT (decide_eq_true rfl) ?_
      refine⟨_,U,_,U,D,_,_,_,U,U,SqL.of (h3.get 0 U),aC gr,.inl ⟨U,_,SqL.of gy⟩,_,U,da,_,_,_,U,U,SqT.of gd,aC (j:=1) rfl,y.1,_,_,U,U,gy,sizeOk (by rw[su]; omega),?_⟩
      have h6:=upd' [nn]
      have gd6:=h6.at_ _ (se _ (se _ (mx z hzm _ hdm)))
      refine⟨_,U,da,_,_,_,U,U,SqT.of gd6,aC (j:=0) rfl,U,_,U,ifF (sne "bell" "call") ?_⟩
      exact fin _ [nn] rfl p1 h6
     | call c=>
      refine ifF (sne "call" "bell") ?_
      refine⟨_,U,da,_,_,_,U,U,SqT.of gd,aC (j:=0) rfl,U,_,U,ifT (decide_eq_true rfl) ?_⟩
      have xok:(st:Int)<c/\c<ss.length:=(good st z hz).1 _ hdm
      obtain⟨k,rfl⟩:=Int.eq_ofNat_of_zero_le (show 0<=c by omega)
      have hk:k<tb.length:=by rw[tok.l]; omega
      have hk':=sq hk
      obtain⟨yk,eyk⟩:∃ yk,tb[k]=yk:=⟨_,U⟩
      rw[eyk] at hk'
      have hk2:(tb.set st (y.1,acc))[k]?=some yk:=by rw[List.getElem?_set,if_neg (by omega)]; exact hk'
      have grk:(tbV tb)[k]?=some (.ref yk.1):=by show(tb.map _)[k]?=_; rw[sx,hk']; rfl
      have gk:=h3.at_ _ (se _ (sk _ (gJ hk2)))
      have lk:yk.2.length<=B:=by rw[<- gI hk']; exact sB k
      refine⟨_,U,_,U,D,_,_,_,U,U,SqL.of (h3.get 0 U),aC gr,.inl ⟨U,_,SqL.of gy⟩,_,U,_,U,da,_,_,_,U,U,SqT.of gd,aC (j:=1) rfl,D,_,_,_,U,U,SqL.of (h3.get 0 U),aC grk,y.1,yk.1,_,_,U,U,gy,gk,sz (show _<=1000000 by rw[su,su]; omega),?_⟩
      exact fin _ yk.2 (by show tg tb ((k:Int)).toNat++[]=_; rw[sR,Int.toNat_natCast,gI hk']) lk (upd' yk.2)
    ·rintro σ H3 ⟨o4,rfl,bl,h3⟩
     rw[lrw,List.take_length] at h3 bl
     refine⟨_,_,_,_,U,tok.step good est hz y.1 (Nat.le_trans bl ?_),?_⟩
     ·rw[Nat.pow_succ,Nat.mul_comm (4 ^ b)]
      exact Nat.mul_le_mul_right _ (l4 z hzm)
     ·rw[mq (z':=(y.1,ntR (tg tb) z.2)) ht rfl]; exact h3
   ·rintro σ H2 hP
    rw[Int.toNat_natCast] at hP
    obtain⟨o2,o3,o4,tb,rfl,tok,hb⟩:=hP
    have h0:=sq (show 0<tb.length by rw[tok.l]; omega)
    obtain⟨z0,ez0⟩:∃ z0,tb[0]'(by rw[tok.l]; omega)=z0:=⟨_,U⟩
    rw[ez0] at h0
    refine⟨_,U,D,_,_,_,U,U,SqL.of (hb.get 0 U),aC (j:=0) (by show(tb.map _)[0]?=_; rw[sx,h0]; rfl),?_⟩
    refine q _ z0.1 (tg tb) ((D,HO.lst (tbV tb))::tbK tb) (fun j z hz=>tok.g j z (by omega) hz) (Nat.le_trans (tok.s 0) (Nat.le_trans (Nat.pow_le_pow_right (by decide) h4) (by decide))) ?_ hb
    rw[gI h0]
    exact r9 _ (gJ h0)
end
inductive sp_law (K:PySem.W.Frag) (vs:List V) (H:Hp) (Q:VK) (E_:XK):Prop
 | mk (a:Addr) (ns:List Int) (_:vs=[.ref a]) (_:SqL K H a (ns.map V.int)) (_:ns.length<=63) (_:∀ H',Q (.bl true) H'):sp_law K vs H Q E_
theorem law_binds {mg:Str->Option Value}{t:Adr} (T:Txt K mg t) (s:Shared) (u:Value):BindsTo s t.d_law ⟨[u],[]⟩ [("_law_script",u)]:=by
 obtain⟨oc,od,kV,doc,pm,an,cdv,ct,osl,e,lk,hcd⟩:=T.F_law.ex
 rw[e,T.e_law]
 exact .of_eq rfl
theorem law_start {a:Addr}{ns:List Int} (hl:ns.length<=63) (hS:SqL K H a (ns.map V.int)) {E:XK}:sp_law K [.ref a] H (fun v _=>v=.bl true) E:=⟨a,ns,U,hS,hl,fun _=>rfl⟩
theorem d6 {f : Nat->List Int}{B : Nat} (h : ∀ k, (f k).length<=B) (h1 : 1<=B) : ∀ rs : List (Addr×Rw), (ntR f rs).length<=rs.length*B
  | []=>Nat.zero_le _
  | (_, .bell n) :: r => by
    have := d6 h h1 r
    show([n]++ntR f r).length<=_
    rw[sA, sK, sG, Nat.succ_mul]; omega
  | (_, .call s) :: r => by
    have := d6 h h1 r
    have := h s.toNat
    show(f s.toNat++ntR f r).length<=_
    rw[sA, sG, Nat.succ_mul]; omega
  | (_, .fin) :: r => by
    have := d6 h h1 r
    show(ntR f r).length<=_
    rw[sG, Nat.succ_mul]; omega
theorem nt_ex (good:Good 0 0 ss) (l4:∀ z ∈ ss,z.2.length<=4):∃ f:Nat->List Int,∀ (j:Nat) z,ss[j]?=some z->f j=ntR f z.2:=by
 have h:∀ b,b<=ss.length->∃ tb,TbOk ss b tb:=fun b=>by
  induction b with
  | zero=>
   intro _
   have t0:∀ k,tg (List.replicate ss.length ((0:Addr),([]:List Int))) k=[]:=fun k=>by
    unfold tg
    rw[List.getElem?_replicate]
    split <;> rfl
   exact⟨List.replicate ss.length (0,[]),sJ ..,fun k _=>t0 k,fun k z hk hz=>by have:=(List.getElem?_eq_some_iff.mp hz).1; omega,fun k=>by rw[t0]; exact Nat.zero_le _⟩
  | succ b ih=>
   intro hb
   obtain⟨tb,tok⟩:=ih (by omega)
   have hz:=sq (show ss.length - 1 - b<ss.length by omega)
   refine⟨_,tok.step good (st:=ss.length - 1 - b) (by omega) hz 0 ?_⟩
   refine Nat.le_trans (d6 tok.s (Nat.pow_le_pow_right (n:=4) (by decide) (Nat.zero_le b)) _) ?_
   rw[Nat.pow_succ,Nat.mul_comm (4 ^ b)]
   exact Nat.mul_le_mul_right _ (l4 _ (si hz))
 obtain⟨tb,tok⟩:=h ss.length (Nat.le_refl _)
 exact⟨tg tb,fun j z hz=>tok.g j z (by omega) hz⟩
theorem oY {kvs:List (List Key×V)}{k:List Key} (h:k ∉ kvs.map (·.1)):au kvs k=none:=by
 unfold au
 rw[List.find?_eq_none.mpr fun x hx c=>h (by rw[<- of_decide_eq_true c]; exact sF hx)]
 rfl
theorem Fm.good {n:Nat} (hl:ss.length=n) (h:∀ (k:Nat) z,ss[k]?=some z->Fm k n z.2):Good 0 0 ss:=by
 intro k z hz
 obtain⟨b,a,e,_,hb⟩:=h k z hz
 refine⟨fun x hx=>?_,a,.fin,by rw[e]; simp,U⟩
 rw[e] at hx
 rcases sC.mp hx with hx | hx
 ·rw[hl]; exact Rw.ok_nr (hb x hx).2
 ·rw[sy.mp hx]; trivial
theorem rln_4 (h:∀ z ∈ ss,z.2.length<=4):rln ss<=4*ss.length:=by
 induction ss with
 | nil=>exact Nat.le_refl _
 | cons z r ih=>
  have a:=ih fun x hx=>h x (r9 _ hx)
  have b:=h z sg
  have e2:rln (z::r)=z.2.length+rln r:=by unfold rln; rw[sH,List.sum_cons]
  rw[e2,sG]
  omega
theorem kP {W:Wd}{y6:YR}{b:V}{N M:Nat}{u:Addr×List Pr}{e:Pr}{y1:YR} (G:GW W s { y6 with eng:=b,trail:=[] } L) (wy:WY W { y6 with eng:=b,trail:=[] } L) (hat:∃ a,s.at_=some (a,e.2)) (D:Ld y6 N M 0) (lw:mh y1 y6 L [] [] ds ss) (good:Good 0 0 ss) (dk:∀ z ∈ ds,∀ x ∈ z.2,Dk y6 x)
  (fm:∀ z ∈ ss,∃ b a,z.2=b++[(a,Rw.fin)]/\b.length<=3/\∀ x ∈ b,x.2≠.fin) (h0:0<ss.length) (h4:ss.length<=4) (bN:N<=72) (hu:ds[0]?=some u) (he:u.2[0]?=some e) {f:Nat->List Int} (hf:∀ (j:Nat) z,ss[j]?=some z->f j=ntR f z.2) :
  ∃ (q:Int) (a:Addr),(W.go 50000 s).at_=some (a,(q,0))/\(W.go 50000 s).rg=f 0/\Kp y6 q .stop:=by
 obtain⟨Wy,Yf,lS,lT,s0,rw_,_,up,ac,td⟩:=lw
 have wk:Wk W y6 L ds Wy Yf ss 72:=⟨⟨wy.k,wy.m,wy.r,wy.n⟩,rw_,ac,up,td,dk,good,lS,lT,by rw[D.nx]; omega,D.rb,D.ri,fm⟩
 have sd:y6.sides=s.ss.map V.int:=G.R.sd
 have so:SOk y6 s.ss:=by
  refine⟨by rw[sd,su],fun n r _ hr=>?_⟩
  obtain⟨r',e',hr'⟩:=D.rb _ _ hr
  injection e' with e'
  have hr:r<s.ss.length:=by rw[sd,su] at hr'; omega
  have:=D.s1 (.int s.ss[r]) (by rw[sd]; exact sF (List.getElem_mem hr))
  injection this with this
  rw[List.getD_eq_getElem?_getD,sq hr]
  exact this
 have rg:s.rg=[]:=by
  have h:y6.rung=s.rg.map V.int:=G.R.rg
  rw[D.g] at h
  exact List.map_eq_nil_iff.mp h.symm
 obtain⟨n,t,q,sd',bn,rn,gt,kq⟩:=iL wk hf s0 h0 h4 hu he ⟨hat,U,rg⟩ so
 have st:=gt.stop wk.wy kq
 obtain⟨g1,_⟩:=rn.held st.1 50000 (by omega)
 obtain⟨⟨a,ha⟩,_,hr⟩:=gt
 exact⟨q,a,by rw[g1]; exact ha,by rw[g1]; exact hr,kq⟩
section
variable {P:Program}{w:World}{K:PySem.W.Frag}{mg:Str->Option Value}{base:Heap}{t:Adr}
theorem scLa:FnScope ["_law_script","_law_d","_law_parts","_law_laid"] ["_law_script"] (aj nU):={}
theorem ok_law (T:Txt K mg t):FnOk P w K mg base CX0 15 t.f_law t.d_law ["_law_script"] (sp_law K):=by
 refine T.F_law.ok scLa (fun vs H Q E h=>?_) (fun cdv A outer s H vs Q E hr h=>?_)
 ·obtain⟨_,_,rfl,_⟩:=h
  rfl
 ·obtain⟨a,ns,rfl,hS,hns,q⟩:=h
  refine⟨_,(ae (aH (i:=1) scLa.nd rfl (Or.inl rfl) (pcl (ll T) hr T.m_draws T.F_draws.kp (nu T) (aa (pv 0) (aa am ah))))
   (ae (aH (i:=2) scLa.nd rfl (Or.inl rfl) (pcl (ok_Jt T) hr T.m_Jt T.F_Jt.kp (b_Jt T) (aa (pv 1) (aa (aQ bA am (aQ cf (aM aN (pv 1) am) am)) ah))))
   (ae (aH (i:=3) scLa.nd rfl (Or.inl rfl) (pcl (p5 T) hr T.m_Jd1 T.F_Jd1.kp (b_Jd1 T) (aa (gR T.mk_Program (ok_Jh T) (hr.mono (by decide)) (by rfl) T.m_Program (b_Jh T) .nil az (aa (aU ah) (aa (aU ah) (aa (pv 2) ah)))) ah)))
   (ae (ao (pcl (pT T) hr T.m_run T.F_run.kp (b_run T) (aa (aw (pv 3) rfl) (aa am ah))))
   (ae (aI (PW.pt (cP (ap jp (pcl (mR T) hr T.m_held T.F_held.kp (qw T) (aa (aw (pv 3) rfl) ah)) aL (ar _)) (bQ (ap d5 (aT (pv 3) T.cl_Laid T.M_Jd (ok_Jd T) hr (b_Jd T) .nil az) bq (ar _)))))
    (ai (aB oH))
    av)
   (ai (aB (pcl (pV T) hr T.m_Jj1 T.F_Jj1.kp (b_Jj1 T) (aa (aT (aw (pv 3) rfl) T.cl_Yard T.M_Jr (ok_Jr T) hr (b_Jr T) .nil az) (aa (pcl (lj T) hr T.m_notes T.F_notes.kp (nq T) (aa (pv 2) ah)) ah)))))))))),?_⟩
  rw[show L2.start ["_law_script","_law_d","_law_parts","_law_laid"] [V.ref a]=([some (V.ref a),none,none,none]:St) from rfl]
  refine⟨_,U,a,ns,40,[],U,hS,hns,by decide,by decide,Has.nil,fun H1 d ds h1 hds hdr=>?_⟩
  dsimp only[List.set]
  have hds:ds.length=40:=hds
  have gd:=h1.get 0 rfl
  have x4:∀ x:Int,0<=x % 4/\x % 4<4:=fun x=>⟨Int.emod_nonneg _ (by decide),Int.emod_lt_of_pos _ (by decide)⟩
  obtain⟨many,em⟩:∃ many:Nat,1+ds.getD (0:Int).toNat 0 % 4=(many:Int):=Int.eq_ofNat_of_zero_le (by have:=(x4 (ds.getD (0:Int).toNat 0)).1; omega)
  have hm:1<=many/\many<=4:=by have:=x4 (ds.getD (0:Int).toNat 0); omega
  refine⟨_,U,_,U,d,_,_,_,U,U,SqL.of gd,dgI 0 (by decide) (by omega),_,_,U,U,(show(0:Int)<4 by decide),_,_,U,U,?_⟩
  rw[em]
  refine tn0 ?_
  refine⟨d,ds,many,_,U,h1,sg,by omega,hm.1,hm.2,fun H2 pl ss N hl fm mz mx h2=>?_⟩
  have good:=Fm.good hl fm
  dsimp only[List.set]
  obtain⟨L2,eL2⟩:∃ L2:Kn,(pl,HO.lst (ssV ss))::(N++[(d,HO.lst (ds.map V.int))])=L2:=⟨_,U⟩
  have hL2:=dt h2 eL2
  have mpl:(pl,HO.lst (ssV ss)) ∈ L2:=by rw[<- eL2]; exact sg
  have mN:∀ z ∈ N,z ∈ L2:=fun z hz=>by rw[<- eL2]; exact r9 _ (sk _ hz)
  clear eL2 h2 h1 gd
  have l4:∀ z ∈ ss,z.2.length<=4:=fun z hz=>by
   obtain⟨k,hk⟩:=List.mem_iff_getElem?.mp hz
   obtain⟨b,a,e,lb,_⟩:=fm k z hk
   rw[e,sA,sK]; omega
  refine⟨by decide,fun m hm0=>?_⟩
  have h3:=hL2.alloc hm0 (.lst [])
  refine⟨by decide,fun wl hwl=>?_⟩
  have h4:=h3.alloc hwl (.lst [])
  refine⟨_,U,?_⟩
  refine tn0 ?_
  intro p dx hp hdx hne
  have h7:=(h4.alloc hdx (.own p)).alloc (by rw[aA (Ne.symm hne)]; exact hp) (.ins t.c_Program dx [])
  have ne1:ss≠[]:=fun e=>by rw[e] at hl; have:0=many:=hl; omega
  refine⟨p,dx,m,wl,pl,[],[],ss,_,U,h7,by simp,by simp,by simp[mpl],fun z hz=>by simp[mN _ (mz z hz)],fun z hz x hx=>by simp[mN _ (mx z hz x hx)],(fun _ h=>nomatch h),(fun _ h=>nomatch h),ne1,by omega,good,fun H8 A ss' N2 eA es' pinN pin h8=>⟨U,?_⟩⟩
  subst eA
  clear h7 hp hdx hne pinN h4 h3 hm0 hwl
  obtain⟨L3,eL3⟩:∃ L3:Kn,N2++((wl,HO.lst [])::(m,HO.lst [])::L2)=L3:=⟨_,U⟩
  rw[eL3] at pin h8
  have m3:∀ z ∈ L2,z ∈ L3:=fun z hz=>by rw[<- eL3]; simp[hz]
  clear eL3
  have lss':ss'.length=ss.length:=by simpa using congrArg List.length es'
  have ne':ss'≠[]:=by intro e; rw[e] at lss'; exact ne1 (List.length_eq_zero_iff.mp lss'.symm)
  have tr:∀ (k:Nat) z,ss'[k]?=some z->∃ z',ss[k]?=some z'/\z'.2=z.2:=fun k z hz=>by
   have e:(ss.map (·.2))[k]?=some z.2:=by rw[<- es',sx,hz]; rfl
   rw[sx] at e
   exact Option.map_eq_some_iff.mp e
  have l4':∀ z ∈ ss',z.2.length<=4:=fun z hz=>by
   obtain⟨k,hk⟩:=List.mem_iff_getElem?.mp hz
   obtain⟨z',h1,h2⟩:=tr k z hk
   rw[<- h2]; exact l4 z' (si h1)
  have fm':∀ z ∈ ss',∃ b a,z.2=b++[(a,Rw.fin)]/\b.length<=3/\∀ x ∈ b,x.2≠.fin:=fun z hz=>by
   obtain⟨k,hk⟩:=List.mem_iff_getElem?.mp hz
   obtain⟨z',h1,h2⟩:=tr k z hk
   obtain⟨b,a,e,lb,hb⟩:=fm k z' h1
   exact⟨b,a,by rw[<- h2]; exact e,lb,fun x hx=>(hb x hx).1⟩
  have good':Good 0 0 ss':=good.tr es'
  have rl:=rln_4 l4'
  have rc:=kR ss'
  refine tn0 ?_
  refine⟨L3,A,ss',U,h8,pin,good',ne',by omega,by omega,fun H9 B N9 dd u e y1 y6 Nn Mm D6 bN lin ⟨kvs,mkv,kk⟩ dm hu he dk lw Y9=>?_⟩
  dsimp only[List.set]
  have gB:=Y9.at_ lin.p
  refine⟨_,U,B.p,_,B.dx,_,_,U,gB,T.cl_Laid,T.n_Laid_yard,fD _,?_⟩
  refine tc1 ?_
  have me:pK2 e ∈ N9++L3:=lin.de u (si hu) e (si he)
  refine pF Y9 rfl (m:=50000) (by decide) (by show y6.rung.length<=_; rw[D6.g]; exact Nat.zero_le _) (fun W s G wy eg H10 y10 N10 G10 n1 n2 n3 n4 n5 _ Y10=>?_)
  have ends:∀ {f:Nat->List Int},(∀ (j:Nat) z,ss'[j]?=some z->f j=ntR f z.2)->∃ (q:Int) (a:Addr),(W.go 50000 s).at_=some (a,(q,0))/\(W.go 50000 s).rg=f 0/\Kp y6 q .stop:=fun hf=>kP G wy ⟨e.1,eg _ _ rfl me⟩ D6 lw good' dk fm' (by omega) (by omega) (by omega) hu he hf
  obtain⟨f0,hf0⟩:=nt_ex good' l4'
  obtain⟨q0,a0,at0,_,kq⟩:=ends hf0
  have en10:y10.eng=.ref a0:=by
   have:=G10.R.en
   rw[show(50000:Int).toNat=50000 from rfl,at0] at this
   exact this
  have ma0:pK2 (a0,(q0,0)) ∈ N10++(N9++L3):=by
   obtain⟨j,hj⟩:=G10.P.e _ at0
   exact si hj
  have in10:∀ z ∈ N9++L3,z ∈ N10++(N9++L3):=fun z hz=>se _ hz
  have gB10:=Y10.at_ (in10 _ lin.p)
  refine⟨_,U,B.p,_,B.dx,_,_,U,gB10,T.cl_Laid,T.n_Laid_yard,fD _,?_⟩
  refine tn0 ?_
  refine mY Y10 fun W2 s2 H11 G11 wy11 eg11 Y11=>?_
  have kq10:Kp y10 q0 .stop:=by unfold Kp; rw[n2]; exact kq
  have st:=(show AtE s2 (q0,0) s2.ss s2.rg from⟨⟨a0,eg11 _ _ en10 ma0⟩,U,U⟩).stop wy11 kq10
  rw[st.2]
  refine⟨U,_,U,?_⟩
  refine ifF (by rw[decide_eq_true rfl]; rfl) ?_
  have gB11:=Y11.at_ (in10 _ lin.p)
  refine⟨_,U,B.p,B.dx,_,U,gB11,lfl_h _,?_⟩
  refine tn0 ?_
  refine⟨B,y10,_,kvs,(a0,(q0,0)),U,Y11,in10 _ lin.p,in10 _ (sk _ mkv),en10,ma0,oY (fun c=>?_),?_⟩
  ·obtain⟨z,hz,x,hx,ex⟩:=kk _ c
   have k1:=(dk z hz x hx).1
   have ex:=cC ex
   rw[<- (show q0=x.2.1 from congrArg Prod.fst ex)] at k1
   unfold Kp at k1 kq
   rw[k1] at kq
   injection kq with kq
   injection kq with kq
   exact absurd kq (by decide)
  refine⟨U,_,U,ifF (by rw[decide_eq_true rfl]; rfl) ?_⟩
  dsimp only[List.set]
  obtain⟨Ay,gy⟩:=Y11.obj
  refine⟨_,U,B.p,_,B.dx,_,_,U,gB11,T.cl_Laid,T.n_Laid_yard,fD _,B.y,Ay.dx,_,U,gy,(gq _ _ _).2.2.2.2.2.2.2.1,?_⟩
  refine tn0 ?_
  refine lZ Y11 (fun H12 l Y12=>?_)
  obtain⟨A12,_,h12,_⟩:=Y12.re
  have in12:∀ z ∈ L2,z ∈ yL t.c_Yard A12 y10++((l,HO.lst y10.rung)::(N10++(N9++L3))):=fun z hz=>se _ (r9 _ (in10 _ (se _ (m3 z hz))))
  refine⟨_,U,?_⟩
  refine tn0 ?_
  refine⟨pl,ss,_,U,h12,in12 _ mpl,fun z hz=>in12 _ (mN _ (mz z hz)),fun z hz x hx=>in12 _ (mN _ (mx z hz x hx)),good,by omega,by omega,l4,fun H13 l2 f Nw hf lf ml h13=>?_⟩
  obtain⟨_,_,_,erg,_⟩:=ends (f:=f) (fun j z hz=>by
   obtain⟨z',h1,h2⟩:=tr j z hz
   rw[hf j z' h1,h2])
  have er:y10.rung=(f 0).map V.int:=by rw[<- erg]; exact G10.R.rg
  obtain⟨i,hi⟩:=List.mem_iff_getElem?.mp (show(l,HO.lst ((f 0).map V.int)) ∈ Nw++(yL t.c_Yard A12 y10++((l,HO.lst y10.rung)::(N10++(N9++L3)))) by rw[er]; simp)
  obtain⟨j,hj⟩:=List.mem_iff_getElem?.mp (sk (yL t.c_Yard A12 y10++((l,HO.lst y10.rung)::(N10++(N9++L3)))) ml)
  refine tn0 ?_
  refine⟨l,l2,f 0,f 0,i,j,_,U,h13,hi,hj,by omega,fun H14 _=>?_⟩
  rw[decide_eq_true rfl]
  exact q _
end
noncomputable abbrev ad {A0 A3 A5 A7 A9 Ab Ad Af Ah Aj Al An Ap Ar At Av Ax Az A11 A13 A15 A17 A19 A1b A1d A1f A1h A1j A1l A1n A1p A1r A1t A1v A1x A1z A21 A23 A25 A27 A29 A2b A2d A2f A2h A2j A2l A2n A2p A2r A2u A2w A2y A30 A33 A35 A37 A39 A3b A3d A3f A3h A3j A3l A3n A3p A3q A3r A3s:Addr}{D1 D4 D6 D8 Da Dc De Dg Di Dk Dm Do Dq Ds Du Dw Dy D10 D12 D14 D16 D18 D1a D1c D1e D1g D1i D1k D1m D1o D1q D1s D1u D1w D1y D20 D22 D24 D26 D28 D2a D2c D2e D2g D2i D2k D2m D2o D2q D2s D2v D2x D2z D31 D34 D36 D38 D3a D3c D3e D3g D3i D3k D3m D3o:FuncData}{V2 V2t V32 V3t V3u V3v V3w V3x V3y V3z:Value}:Adr:=⟨A0,D1,V2,A3,D4,A5,D6,A7,D8,A9,Da,Ab,Dc,Ad,De,Af,Dg,Ah,Di,Aj,Dk,Al,Dm,An,Do,Ap,Dq,Ar,Ds,At,Du,Av,Dw,Ax,Dy,Az,D10,A11,D12,A13,D14,A15,D16,A17,D18,A19,D1a,A1b,D1c,A1d,D1e,A1f,D1g,A1h,D1i,A1j,D1k,A1l,D1m,A1n,D1o,A1p,D1q,A1r,D1s,A1t,D1u,A1v,D1w,A1x,D1y,A1z,D20,A21,D22,A23,D24,A25,D26,A27,D28,A29,D2a,A2b,D2c,A2d,D2e,A2f,D2g,A2h,D2i,A2j,D2k,A2l,D2m,A2n,D2o,A2p,D2q,A2r,D2s,V2t,A2u,D2v,A2w,D2x,A2y,D2z,A30,D31,V32,A33,D34,A35,D36,A37,D38,A39,D3a,A3b,D3c,A3d,D3e,A3f,D3g,A3h,D3i,A3j,D3k,A3l,D3m,A3n,D3o,A3p,A3q,A3r,A3s,V3t,V3u,V3v,V3w,V3x,V3y,V3z⟩
theorem dm_Jj {v:Value}{T:Addr}{od:Option Addr}{n:Nat}{sl:Array (Option Value)}{tk0:Tok} (e:v=.ref T) (l:K.lookup T=some ⟨.type "tuple",od,.seq #[.int 1 tk0] n,sl⟩):∃ (T:Addr) (od:Option Addr) (n:Nat) (sl:Array (Option Value)) (tk0:Tok),v=.ref T/\K.lookup T=some ⟨.type "tuple",od,.seq #[.int 1 tk0] n,sl⟩:=⟨T,od,n,sl,tk0,e,l⟩
theorem dm_Jb1 {v:Value}{T:Addr}{od:Option Addr}{n:Nat}{sl:Array (Option Value)}{tk0:Tok} (e:v=.ref T) (l:K.lookup T=some ⟨.type "tuple",od,.seq #[.int 0 tk0,.none] n,sl⟩):∃ (T:Addr) (od:Option Addr) (n:Nat) (sl:Array (Option Value)) (tk0:Tok),v=.ref T/\K.lookup T=some ⟨.type "tuple",od,.seq #[.int 0 tk0,.none] n,sl⟩:=⟨T,od,n,sl,tk0,e,l⟩
theorem tpm {u:Value}{a:Addr}{od:Option Addr}{its:Array Value}{n:Nat}{sl:Array (Option Value)}{vs:List V} (y:u=.ref a) (l:K.lookup a=some ⟨.type "tuple",od,.seq its n,sl⟩) (s:its.size<=sizeLine) (v:Vals vs its.toList):∃ (a:Addr) (o:Obj) (its:Array Value) (n:Nat),u=.ref a/\K.lookup a=some o/\o.cls=.type "tuple" /\ o.data=.seq its n/\its.size<=sizeLine/\Vals vs its.toList:=⟨a,_,its,n,y,l,U,U,s,v⟩
end P
namespace PySem.W.Fast
def tw13262003396540744443:=Nat
def tw6056175797647780915:=Nat
def tw14400771347202929300:=Nat
def tw656475171168845692:=Nat
def tw540650656676060542:=Nat
def tw7931713194101753996:=Nat
def tw16019255136931784782:=Nat
def tw12589778471534310673:=Nat
def tw17104710968333657122:=Nat
def tw16597549771936368167:=Nat
def tw2270514717208695809:=Nat
def tw450744598024324829:=Nat
def tw17449978568550704512:=Nat
def tw7276634840104655921:=Nat
def tw2232323473931986725:=Nat
def tw15097034220400130999:=Nat
def tw4041728560463353793:=Nat
def tw4297613138694090432:=Nat
def tw1914445291071954585:=Nat
def tw1514235947037562807:=Nat
def tw352044025630649135:=Nat
def tw10879020999927992367:=Nat
def tw1507802073428218253:=Nat
def tw1636955730842421869:=Nat
def tw10189448298170322535:=Nat
def tw7447939638049499196:=Nat
def tw15515908024835825737:=Nat
def tw12615125842626448824:=Nat
def tw2151141298513607094:=Nat
def tw2490711421025240272:=Nat
def tw12705293711755408770:=Nat
def tw3152816016097053546:=Nat
def tw8514263590289649418:=Nat
def tw16736647471339642535:=Nat
def tw14846750777154475021:=Nat
def tw9500997715226885609:=Nat
def tw10081479096122764348:=Nat
def tw17116116787205872642:=Nat
def tw7196519694340437863:=Nat
def tw10809750200763000414:=Nat
def tw6347984908982467793:=Nat
def tw14897902367043411650:=Nat
def tw3183840556041784401:=Nat
def tw17913078219438117323:=Nat
def tw5472299961244287401:=Nat
def tw11957725393413591187:=Nat
def tw3961683015011813644:=Nat
def tw4597277711173276869:=Nat
def tw13910876665199243681:=Nat
def tw2363626574770474178:=Nat
def tw17974090612074608474:=Nat
def tw4839026575698178616:=Nat
def tw11815570766416423882:=Nat
def tw5628990884745343013:=Nat
def tw3115993886385275339:=Nat
def tw17243431570456510042:=Nat
def tw8596229454266643006:=Nat
def tw10677258848932101723:=Nat
def tw2091519926879215414:=Nat
def tw11243592452046199653:=Nat
def tw11193578809435097247:=Nat
def tw10452492808433753980:=Nat
def tw1868937242212810376:=Nat
def tw12163109644257014255:=Nat
def tw11598188279252510385:=Nat
def tw11025888041792366120:=Nat
def tw15326227507285245871:=Nat
def tw10333115947873873750:=Nat
def tw5583578752617846206:=Nat
def tw6204690463805932108:=Nat
def tw8352396723185912400:=Nat
def tw2707358268225517675:=Nat
def tw14496227004734122356:=Nat
def tw15573010617281279423:=Nat
def tw10870939844549548854:=Nat
def tw16819638821034374720:=Nat
def tw17728418841259061738:=Nat
def tw3571498342633348589:=Nat
def tw12454761515721399284:=Nat
def tw17625252013742468295:=Nat
def tw13958203652666407318:=Nat
def tw13336152882157414403:=Nat
def tw11886423803051336861:=Nat
def tw6803553694293348610:=Nat
def tw17271227985346488816:=Nat
def tw17311498296133694891:=Nat
def tw7089309205856532460:=Nat
def tw12136068371277118034:=Nat
def tw1988185314089961665:=Nat
def tw14627457462390651596:=Nat
def tw1409115544073143796:=Nat
def tw14891628104007328260:=Nat
def tw10046451917952553975:=Nat
def tw18335468377319772950:=Nat
def tw2952011706656793528:=Nat
def tw11775596541544947105:=Nat
def tw10458330987804996614:=Nat
def tw3181790730268202235:=Nat
def tw17145994209916721514:=Nat
def tw17806000186018957343:=Nat
def tw2287300978370312901:=Nat
def tw8477117502479220900:=Nat
def tw17803838953833659586:=Nat
def tw17534999404309271945:=Nat
def tw17234708331402875898:=Nat
def tw3640725202040413239:=Nat
def tw1255263545403886844:=Nat
def tw8889101278685426614:=Nat
def tw13358147578967335570:=Nat
def tw4316626547149670413:=Nat
def tw7462583082336853139:=Nat
def tw16481905655224769772:=Nat
def tw6914678139716969549:=Nat
def tw11516570971146803615:=Nat
def tw13552639909338744896:=Nat
def tw7030473250776002301:=Nat
def tw13638838649044710156:=Nat
def tw14105382128173117812:=Nat
def tw11725776526647548531:=Nat
def tw12127384970320367845:=Nat
def tw16328119728723852969:=Nat
def tw12353936783421500888:=Nat
def tw13061518945359129468:=Nat
def tw9154370067464451387:=Nat
def tw4585087388725558768:=Nat
def tw16311000179730337091:=Nat
def tw17206898638354714685:=Nat
def tw4674509823647832393:=Nat
def tw4033056213365477203:=Nat
def tw13747274364399545715:=Nat
def tw11215303609003532090:=Nat
def tw4963271171813104302:=Nat
def tw2621672589974145770:=Nat
def tw14076962415785576655:=Nat
def tw13275420717951251332:=Nat
def tw13340250481450610767:=Nat
def tw537052072096211519:=Nat
def tw3808909042682810423:=Nat
def tw4536258217409264108:=Nat
def tw17668287903772862783:=Nat
def tw17818096789328801221:=Nat
def tw2041790595113303102:=Nat
def tw13169768224201937784:=Nat
def tw9815868877368162018:=Nat
def tw3784501496532104213:=Nat
def tw4410182301923904053:=Nat
def tw38184849533122024:=Nat
def tw1752492293209547542:=Nat
def tw201477758072946240:=Nat
def tw8808957321514172061:=Nat
def tw12737730003181449815:=Nat
def tw6388448735249202758:=Nat
def tw8762784522850839466:=Nat
def tw7304423800268191759:=Nat
def tw1355961608533971473:=Nat
def tw1964511045014059870:=Nat
def tw8399872035981064891:=Nat
def tw7973345091855181940:=Nat
def tw1594832293118213907:=Nat
def tw5677450625953446914:=Nat
def tw1425277007341560540:=Nat
def tw1048566415516486029:=Nat
def tw17552269834865733227:=Nat
def tw8588907684886846419:=Nat
def tw6283469447258744252:=Nat
def tw11812141504466402397:=Nat
def tw14220228824115937528:=Nat
def tw7664214275414784825:=Nat
def tw11653355298062320622:=Nat
def tw2548965769609903043:=Nat
def tw18047185974496480707:=Nat
def tw15825022835158772114:=Nat
def tw1965587350486617765:=Nat
def tw7064186186605820945:=Nat
def tw17876930118288500326:=Nat
def tw8032259376962796744:=Nat
def tw10867598903067478558:=Nat
def tw4645176569589237296:=Nat
def tw4265962480479993907:=Nat
def tw5659247917675394939:=Nat
def tw1735266144818033309:=Nat
def tw15199337963134743442:=Nat
def tw2473036201971597722:=Nat
def tw2829664660975699006:=Nat
def tw10686090795066794104:=Nat
def tw289899739918033671:=Nat
def tw3677034991814293163:=Nat
def tw11851609208121724338:=Nat
def tw966093472177663284:=Nat
def tw6845674419293674741:=Nat
def tw3296412085380863217:=Nat
def tw4822878619434501398:=Nat
def tw9613189510677998534:=Nat
def tw4576237628209939241:=Nat
def tw15733675810107143258:=Nat
def tw15170604726183706677:=Nat
def tw11425343080327861424:=Nat
def tw14895023895151368615:=Nat
def tw18254571493690918216:=Nat
def tw9923641645590062968:=Nat
def tw5940232495469808153:=Nat
def tw8706746411434926390:=Nat
def tw5587983833173938704:=Nat
def tw1317592006892596286:=Nat
def tw5911614860151572732:=Nat
def tw3215907988151366283:=Nat
def tw6190075697445827496:=Nat
def tw3964217278562146725:=Nat
def tw1786466303884093762:=Nat
def tw6003241897708144385:=Nat
def tw8623519364832440321:=Nat
def tw3881226980919692054:=Nat
def tw4720081134754522808:=Nat
def tw11617170685059010894:=Nat
def tw3912582750982933393:=Nat
def tw17489725822730656893:=Nat
def tw39192044153780622:=Nat
def tw9837236178009553636:=Nat
def tw7131830522639720031:=Nat
def tw4597917235826311404:=Nat
def tw9475264764584175719:=Nat
def tw4416102718851569500:=Nat
def tw9334108211323605894:=Nat
def tw11987690623890124751:=Nat
def tw7334678517893835266:=Nat
def tw17807800256429785629:=Nat
def tw11584533030938771745:=Nat
def tw17131143958579398229:=Nat
def tw5066960448582630903:=Nat
def tw17549426222733679581:=Nat
def tw18374063825430415109:=Nat
end PySem.W.Fast
end
open PySem PySem.W PyProof.Rows
set_option maxRecDepth 100000 in
set_option maxHeartbeats 0 in
theorem PySem.Challenge.cw_lazyrails_k43_calls_come_back_holds : PySem.Challenge.rw_lazyrails_k43_calls_come_back.Holds := by
 w_on; o_law; k_head; (case hw => w_witness2)
 k_fill
 refine L2.walk_ofK (l:=PySem.Challenge.rw_lazyrails_k43_calls_come_back) (n:=63) (k:=15) (x := "_law_script") (CX:=L2.CX0) (sp:=P.sp_law) rfl (by decide) rfl ⟨rfl,by decide,by decide,rfl⟩ (fun w h Y => PySem.W.kIn_of Y) ?F ?S ?C
 case F =>
  intro w mg fa h KX G hmg
  have T:∃ t,P.Txt (L2.KOf KX) mg t:=by
   dsimp only [L2.KOf]
   refine' ⟨P.ad,P.Txt.mk ?z0 ?z1 ?z2 ?z3 ?z4 ?z5 ?z6 ?z7 ?z8 ?z9 ?za ?zb ?zc ?zd ?ze ?zf ?zg ?zh ?zi ?zj ?zk ?zl ?zm ?zn ?zo ?zp ?zq ?zr ?zs ?zt ?zu ?zv ?zw ?zx ?zy ?zz ?z10 ?z11 ?z12 ?z13 ?z14 ?z15 ?z16 ?z17 ?z18 ?z19 ?z1a ?z1b ?z1c ?z1d ?z1e ?z1f ?z1g ?z1h ?z1i ?z1j ?z1k ?z1l ?z1m ?z1n ?z1o ?z1p ?z1q ?z1r ?z1s ?z1t ?z1u ?z1v ?z1w ?z1x ?z1y ?z1z ?z20 ?z21 ?z22 ?z23 ?z24 ?z25 ?z26 ?z27 ?z28 ?z29 ?z2a ?z2b ?z2c ?z2d ?z2e ?z2f ?z2g ?z2h ?z2i ?z2j ?z2k ?z2l ?z2m ?z2n ?z2o ?z2p ?z2q ?z2r ?z2s ?z2t ?z2u ?z2v ?z2w ?z2x ?z2y ?z2z ?z30 ?z31 ?z32 ?z33 ?z34 ?z35 ?z36 ?z37 ?z38 ?z39 ?z3a ?z3b ?z3c ?z3d ?z3e ?z3f ?z3g ?z3h ?z3i ?z3j ?z3k ?z3l ?z3m ?z3n ?z3o ?z3p ?z3q ?z3r ?z3s ?z3t ?z3u ?z3v ?z3w ?z3x ?z3y ?z3z ?z40 ?z41 ?z42 ?z43 ?z44 ?z45 ?z46 ?z47 ?z48 ?z49 ?z4a ?z4b ?z4c ?z4d ?z4e ?z4f ?z4g ?z4h ?z4i ?z4j ?z4k ?z4l ?z4m ?z4n ?z4o ?z4p ?z4q ?z4r ?z4s ?z4t ?z4u ?z4v ?z4w ?z4x ?z4y ?z4z ?z50 ?z51 ?z52 ?z53 ?z54⟩
   (case z3m|z3u|z40|z46 => dsimp only [P.ad]; refine PySem.W.mg_of KX G ?_; k_is)
   (case z3n|z3v|z41|z47 => dsimp only [P.ad]; apply L2.Mk.mk; k_is; k_is; k_is; k_is)
   (case z1t|z1v|z1w|z1x|z1y|z1z|z20|z21|z22|z23|z24|z25|z26|z27|z28|z29|z2a|z2b|z2c|z2d|z2e|z2f|z2g|z2h|z2i|z2j|z2k|z2l|z2m|z2n|z2o|z2p|z2q => dsimp only [P.ad]; refine PySem.W.mg_of KX G ?_; k_is)
   (case z2r|z2s|z2t|z2u|z2v|z2w|z2x|z2y|z2z|z30|z31|z32|z33|z35|z36|z37|z38|z3a|z3b|z3c|z3d|z3e|z3f|z3g|z3h|z3i|z3j|z3k => dsimp only [P.ad]; apply L2.Meth.mk; k_is; k_is; k_is)
   (case z0|z1|z2|z3|z4|z5|z6|z7|z8|z9|za|zb|zc|zd|ze|zf|zg|zh|zi|zj|zk|zl|zm|zn|zo|zp|zq|zr|zs|zt|zu|zv|zw|zx|zy|zz|z10|z11|z12|z13|z14|z15|z16|z17|z18|z19|z1a|z1b|z1c|z1d|z1e|z1f|z1g|z1h|z1i|z1j|z1k|z1l|z1m|z1n|z1o|z1p|z1q|z1r|z1s => dsimp only [P.ad]; apply L2.funG_mk; k_is; k_is; k_is)
   (case z3o|z3p|z3q|z3r|z3s|z3w|z3x|z3y|z42|z43|z44|z48|z49|z4a|z4b|z4c|z4d|z4e|z4f|z4g => dsimp only [L2.NoAttr,P.ad]; k_is)
   (case z39 => dsimp only [P.ad]; apply P.dm_Jb1 rfl; k_is)
   (case z34 => dsimp only [P.ad]; apply P.dm_Jj rfl; k_is)
   (case z4r|z4t|z4v|z4x|z4z|z51|z53 => dsimp only [P.ad]; apply PySem.W.mg_of KX G; k_is)
   (case z3l|z3t|z3z|z45 => dsimp only [P.ad]; refine ⟨?_,?_,?_,?_⟩; k_is; k_is; k_is; k_is)
   (case z1u => exact rfl)
   (case z4h|z4i|z4j|z4k|z4l|z4m|z4n|z4o|z4p|z4q => refine PySem.W.mg_none_of KX G ?_; k_is)
   (case z4w|z50 => dsimp only [P.ad]; apply P.tpm rfl; k_is; exact (show 3 <= PySem.sizeLine by decide); exact .cons ⟨_,rfl⟩ (.cons ⟨_,rfl⟩ (.cons ⟨_,rfl⟩ (.nil))))
   (case z4s|z4y => dsimp only [P.ad]; exact ⟨_,rfl,by kernel_rfl⟩)
   (case z4u|z52|z54 => dsimp only [P.ad]; exact ⟨_,rfl⟩)
  obtain ⟨t,T⟩:=T
  have e0:=hmg.symm.trans T.m_law
  cases e0
  exact ⟨_,fun s u => P.law_binds T s u,fun base kb nb => P.ok_law T⟩
 case S => exact fun K H a ns hl hO hS => P.law_start hl hS
 case C => exact fun H s e s' z => z
