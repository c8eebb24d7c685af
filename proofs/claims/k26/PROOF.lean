import PyProof.Rows.All
import Wide.All
import OpenK.AllK
import Wide.FinOn
import Lean
import PyProof.EqAt
import PyProof.EqKinds
import PyProof.TupleCall
import PyProof.ZipIter
import PyProof.EnumMake
import PyProof.ListRange
import KE.KDictList
import KE.LcSums
import KE.KTabLook
import PyProof.P3In
import KE.KIntText
import PyProof.StrLoop
import PyProof.StrWalks
import PyProof.StrCalls2
import PyProof.StrLawsTight
import PyProof.StrLawsChain
import PyProof.Rows.SortShell
import KE.KSortTup
import PySem.Challenge.RW_lazyrails_k26_whole_fate
set_option Elab.async false
set_option linter.all false
set_option maxRecDepth 100000
open List (length_map mem_cons_of_mem mem_append_right mem_cons_self mem_cons getElem?_map map_append mem_singleton mem_append size_toArray getElem?_eq_getElem append_assoc map_cons mem_of_getElem? mem_append_left mem_map pairwise_append length_replicate length_append not_mem_nil length_cons mem_range append_nil length_take mem_map_of_mem lookup_cons getElem?_append_right getElem?_append_left length_singleton find?_cons map_map)
noncomputable section
namespace L2
open PySem PySem.Spec PyProof.Rows
theorem U.{u} {α:Sort u}{a:α}:a=a:=rfl
theorem O.{u} {α:Sort u}{a:α}:a=a:=rfl
theorem J.{u} {α:Sort u}{a:α}:a=a:=rfl
theorem F.{u} {α:Sort u}{a:α}:a=a:=rfl
theorem Z.{u} {α:Sort u}{a:α}:a=a:=rfl
noncomputable abbrev Key:=Sum Int Str
noncomputable def fK:Key->Value->Bool
 | .inl k,v=>Value.isInt k v
 | .inr x,v=>Value.isStrOf x v
noncomputable def tH (w:World):Key->Int
 | .inl k=>hashInt k
 | .inr x=>hashStr w x
theorem aQ:∀ {k:Key}{v:Value},fK k v=true->(∃ i t,k=Sum.inl i/\v=Value.int i t)∨(∃ x t,k=Sum.inr x/\v=Value.str x t)
 | .inl i,v,h=>by
  obtain⟨t,e⟩:=Value.isInt_shape (k:=i) (v:=v) h
  exact .inl ⟨i,t,U,e⟩
 | .inr x,v,h=>by
  obtain⟨t,e⟩:=Value.isStrOf_shape (x:=x) (v:=v) h
  exact .inr ⟨x,t,U,e⟩
theorem gy (i:Int) (t:Tok):fK (.inl i) (.int i t)=true:=by simp[fK,Value.isInt]
theorem lC (x:Str) (t:Tok):fK (.inr x) (.str x t)=true:=by simp[fK,Value.isStrOf]
theorem rM (a b:Int):decide ((Sum.inl a:Key)=Sum.inl b)=(a == b):=by
 by_cases e:a=b
 ·subst e; simp
 ·have h:¬ (Sum.inl a:Key)=Sum.inl b:=fun q=>e (Sum.inl.inj q)
  rw[decide_eq_false h]
  exact(beq_eq_false_iff_ne.mpr e).symm
theorem rJ (a b:Str):decide ((Sum.inr a:Key)=Sum.inr b)=decide (a=b):=by
 by_cases e:a=b
 ·subst e; simp
 ·have h:¬ (Sum.inr a:Key)=Sum.inr b:=fun q=>e (Sum.inr.inj q)
  rw[decide_eq_false h,decide_eq_false e]
theorem rL (a:Int) (b:Str):decide ((Sum.inl a:Key)=Sum.inr b)=false:=decide_eq_false (fun q=>nomatch q)
theorem rK (a:Str) (b:Int):decide ((Sum.inr a:Key)=Sum.inl b)=false:=decide_eq_false (fun q=>nomatch q)
noncomputable def ap (prog:Program) (w:World):PySem.KeyKind prog w Key where
 is:=fK
 hash:=tH w
 inj:=fun v a b ha hb=>by
  rcases aQ ha with ⟨i,t,rfl,rfl⟩ | ⟨x,t,rfl,rfl⟩
  ·rcases aQ hb with ⟨j,u,rfl,e⟩ | ⟨y,u,rfl,e⟩
   ·injection e with e1 _; rw[e1]
   ·exact nomatch e
  ·rcases aQ hb with ⟨j,u,rfl,e⟩ | ⟨y,u,rfl,e⟩
   ·exact nomatch e
   ·injection e with e1 _; rw[e1]
 byValue:=fun k v h=>by
  rcases aQ h with ⟨i,t,rfl,rfl⟩ | ⟨x,t,rfl,rfl⟩ <;> rfl
 pyHash:=fun hv h=>by
  rcases aQ hv with ⟨i,t,rfl,rfl⟩ | ⟨x,t,rfl,rfl⟩
  ·exact wpAny_pyHash_int h
  ·exact wpAny_pyHash_str h
 eqBool:=fun hu hv h=>by
  rcases aQ hu with ⟨i,t,rfl,rfl⟩ | ⟨x,t,rfl,rfl⟩
  ·rcases aQ hv with ⟨j,u,rfl,rfl⟩ | ⟨y,u,rfl,rfl⟩
   ·rw[rM] at h; exact wpAny_eqBool_int h
   ·rw[rL] at h; exact SeqAt.EqAt.int_str i t y u _ _ _ _ h
  ·rcases aQ hv with ⟨j,u,rfl,rfl⟩ | ⟨y,u,rfl,rfl⟩
   ·rw[rK] at h; exact SeqAt.EqAt.str_int x t j u _ _ _ _ h
   ·rw[rJ] at h; exact wpAny_eqBool_str h
 «strs»:=fun k x t v h=>by
  rcases aQ h with ⟨i,u,rfl,e⟩ | ⟨y,u,rfl,e⟩
  ·exact nomatch e
  ·injection e with e1 _
   subst e1
   cases v <;> rfl
theorem iY (prog:Program) (w:World) (i:Int) (t:Tok):(ap prog w).is (.inl i) (.int i t)=true:=gy i t
theorem iX (prog:Program) (w:World) (x:Str) (t:Tok):(ap prog w).is (.inr x) (.str x t)=true:=lC x t
inductive V where
 | non | bl (b:Bool) | int (i:Int) | str (x:Str) | byt (b:Array UInt8) | flt (b:UInt64) | ref (a:Addr) | ty (n:String)
 deriving DecidableEq
noncomputable def RelV:V->Value->Prop
 | .non,u=>u=Value.none
 | .bl b,u=>u=Value.bool b
 | .int i,u=>∃ t,u=Value.int i t
 | .str x,u=>∃ t,u=Value.str x t
 | .byt b,u=>∃ t,u=Value.bytes b t
 | .flt b,u=>∃ t,u=Value.float b t
 | .ref a,u=>u=Value.ref a
 | .ty n,u=>u=Value.type n
noncomputable abbrev Vals:List V->List Value->Prop:=Paired RelV
theorem Vals.length {xs:List V}{us:List Value} (r:Vals xs us):xs.length=us.length:=Paired.length r
theorem Vals.get:∀ {xs:List V}{us:List Value}{i:Nat}{x:V},Vals xs us->xs[i]?=some x->∃ u,us[i]?=some u/\RelV x u
 | _,_,_,_,.nil,e=>by simp at e
 | _,_,0,_,.cons r _,e=>by simp at e; subst e; exact⟨_,U,r⟩
 | _,_,i+1,x,.cons _ t,e=>by
  obtain⟨u,h1,h2⟩:=Vals.get (i:=i) (x:=x) t (by simpa using e)
  exact⟨u,by simpa using h1,h2⟩
theorem Vals.set {x:V}{u:Value} (r:RelV x u):∀ {xs:List V}{us:List Value} (i:Nat),Vals xs us->Vals (xs.set i x) (us.set i u)
 | _,_,_,.nil=>.nil
 | _,_,0,.cons _ t=>.cons r t
 | _,_,i+1,.cons q t=>.cons q (Vals.set r i t)
theorem Vals.append {xs ys:List V}{us ws:List Value} (a:Vals xs us) (s:Vals ys ws):Vals (xs++ys) (us++ws):=by
 induction a with
 | nil=>exact s
 | cons r t ih=>exact .cons r ih
theorem Vals.take:∀ {xs:List V}{us:List Value} (n:Nat),Vals xs us->Vals (xs.take n) (us.take n)
 | _,_,0,_=>.nil
 | _,_,_+1,.nil=>.nil
 | _,_,n+1,.cons r t=>.cons r (Vals.take n t)
theorem Vals.drop:∀ {xs:List V}{us:List Value} (n:Nat),Vals xs us->Vals (xs.drop n) (us.drop n)
 | _,_,0,r=>r
 | _,_,_+1,.nil=>.nil
 | _,_,n+1,.cons _ t=>Vals.drop n t
noncomputable def RelO:Option V->Option Value->Prop
 | some v,some u=>RelV v u
 | none,none=>True
 | _,_=>False
noncomputable def KV {κ:Type}:List (κ×V)->List (κ×Value)->Prop:=Paired fun(p:κ×V) (q:κ×Value)=>p.1=q.1/\RelV p.2 q.2
noncomputable def kV:Key->V
 | .inl i=>.int i
 | .inr x=>.str x
inductive HO where
  | lst (xs:List V)
  | tup (xs:List V)
  | dK (kvs:List (Key×V)) | dT (kvs:List (List Key×V))
  | set (S:Int->Bool) (n:Nat)
  | ins (C dx:Addr) (fs:List (Str×V))
  | own (x:Addr)
  | xd (fs:List (Str×V))
  | met (f x:Addr)
  | rng (lo hi:Int)
  | frz (o:Obj) (u:HO)
  | tbl (ps:Array Value)
  | ext (φ:Heap->Prop)
noncomputable abbrev Hp:=Addr->Option HO
noncomputable def upd (H:Hp) (a:Addr) (o:HO):Hp:=fun b=>if b=a then some o else H b
theorem bx {H:Hp}{a:Addr}{o:HO}:upd H a o a=some o:=by unfold upd; rw[if_pos rfl]
theorem aJ {H:Hp}{a b:Addr}{o:HO} (h:b≠a):upd H a o b=H b:=by unfold upd; rw[if_neg h]
theorem iV {H:Hp}{a b:Addr}{o u:HO} (h:H a=some o) (h':H b=some u) (d:o≠u):a≠b:=by
 intro e; subst e; rw[h] at h'; exact d (Option.some.inj h')
theorem bo {H:Hp}{a b:Addr}{o:HO} (h:H a=some o) (h':H b=none):a≠b:=by
 intro e; subst e; rw[h] at h'; cases h'
section
variable (P:Program) (w:World)
noncomputable def ObjOk (H:Hp) (h:Heap) (a:Addr):HO->Prop
 | .lst xs=>xs.length<=sizeLine/\∃ (its:List Value) (n:Nat),Vals xs its/\h.get? a=some { cls:=.type "list",data:=.seq its.toArray n }
 | .tup xs=>xs.length<=sizeLine/\∃ its:List Value,Vals xs its/\IsTup h a its.toArray
 | .dK kvs=>kvs.length<=sizeLine/\(a == sysModules)=false/\∃ vs,KV kvs vs/\h.DictOf (ap P w) a vs
 | .dT kvs=>kvs.length<=sizeLine/\(a == sysModules)=false/\∃ xs:List (List Key×Addr×Value),
   Paired (fun(p:List Key×V) (q:List Key×Addr×Value)=>p.1=q.1/\H q.2.1=some (.tup (p.1.map kV))/\RelV p.2 q.2.2) kvs xs /\
   ∃ o es ep,h.get? a=some o/\o.ExactDict/\o.data=.dict es ep/\es.toList=xs.map (entryOfKey (tupleKind (ap P w)))/\(xs.map (·.1)).Nodup
 | .set S n=>h.SetOf (intKind P w) a S n
 | .ins C dx fs=>H dx=some (.own a)/\fs.length<=1000/\dx≠a/\h.get? a=some (PySem.W.instObj C dx) /\
   ∃ mA,h.Ns1 dx mA/\(∀ f,RelO (fs.lookup f) (mA f))/\PySem.Within mA (fs.map (·.1))
 | .own _=>∃ o,h.get? a=some o
 | .xd fs=>∃ mA,h.Ns1 a mA/\∀ f,RelO (fs.lookup f) (mA f)
 | .rng lo hi=>∃ t u v,h.get? a=some { cls:=.type "range",data:=.fields #[.int lo t,.int hi u,.int 1 v] }
 | .frz o u=>h.get? a=some o/\ObjOk H h a u
 | .tbl ps=>h.get? a=some { cls:=.none,data:=.fields ps }
 | .met f x=>h.get? a=some (PySem.W.methodObj (.ref f) (.ref x))
 | .ext φ=>φ h/\(∃ o,h.get? a=some o)/\∀ h1 h2:Heap,φ h1->(∀ o,h1.get? a=some o->h2.get? a=some o)->φ h2
noncomputable def HOk (H:Hp) (h:Heap):Prop:=∀ a o,H a=some o->ObjOk P w H h a o
end
section
variable {P:Program}{w:World}{H H':Hp}{h h':Heap}{a:Addr}{o:HO}
theorem ObjOk.lt (x:ObjOk P w H h a o):a<h.objs.size:=by
 cases o with
 | lst xs=>obtain⟨_,_,_,_,e⟩:=x; exact Heap.lt_size e
 | tup xs=>obtain⟨_,_,_,p⟩:=x; exact p.lt
 | dK kvs=>obtain⟨_,_,_,_,o,_,_,e,_⟩:=x; exact Heap.lt_size e
 | dT kvs=>obtain⟨_,_,_,_,o,_,_,e,_⟩:=x; exact Heap.lt_size e
 | set S n=>obtain⟨o,_,_,_,e,_⟩:=x; exact Heap.lt_size e
 | ins C dx fs=>obtain⟨_,_,_,e,_⟩:=x; exact Heap.lt_size e
 | own y=>obtain⟨_,e⟩:=x; exact Heap.lt_size e
 | xd fs=>obtain⟨_,⟨_,_,_,e,_⟩,_⟩:=x; exact Heap.lt_size e
 | rng lo hi=>obtain⟨_,_,_,e⟩:=x; exact Heap.lt_size e
 | frz ob u=>obtain⟨e,_⟩:=x; exact Heap.lt_size e
 | tbl ps=>exact Heap.lt_size (show h.get? a=some _ from x)
 | met f y=>exact Heap.lt_size (show h.get? a=some _ from x)
 | ext φ=>obtain⟨_,⟨_,e⟩,_⟩:=x; exact Heap.lt_size e
theorem Paired.mapP {α β:Type}{F G:α->β->Prop} {l₁:List α}{l₂:List β} (a:Paired F l₁ l₂) (f:∀ a b,F a b->G a b):Paired G l₁ l₂:=by
 induction a with
 | nil=>exact .nil
 | cons r t ih=>exact .cons (f _ _ r) ih
theorem ObjOk.stay (x:ObjOk P w H h a o) (k:∀ b u,(b=a∨H b=some (.own a))->h.get? b=some u->h'.get? b=some u)
  (ho:∀ b,H b=some (.own a)->H' b=some (.own a)) (ht:∀ b xs,H b=some (.tup xs)->H' b=some (.tup xs)):ObjOk P w H' h' a o:=by
 induction o with
 | lst xs=>obtain⟨z,its,n,r,e⟩:=x; exact⟨z,its,n,r,k _ _ (.inl rfl) e⟩
 | tup xs=>obtain⟨z,its,r,ob,e,c⟩:=x; exact⟨z,its,r,ob,k _ _ (.inl rfl) e,c⟩
 | dK kvs=>obtain⟨z,y,vs,r,ob,es,ep,e,c⟩:=x; exact⟨z,y,vs,r,ob,es,ep,k _ _ (.inl rfl) e,c⟩
 | dT kvs=>
  obtain⟨z,y,xs,r,ob,es,ep,e,c⟩:=x
  exact⟨z,y,xs,Paired.mapP r fun p q z=>⟨z.1,ht _ _ z.2.1,z.2.2⟩,ob,es,ep,k _ _ (.inl rfl) e,c⟩
 | set S n=>obtain⟨ob,es,ep,t,e,c⟩:=x; exact⟨ob,es,ep,t,k _ _ (.inl rfl) e,c⟩
 | ins C dx fs=>
  obtain⟨d,z,ne,e,mA,⟨od,es,ep,e2,c⟩,r⟩:=x
  exact⟨ho _ d,z,ne,k _ _ (.inl rfl) e,mA,⟨od,es,ep,k _ _ (.inr d) e2,c⟩,r⟩
 | own y=>obtain⟨ob,e⟩:=x; exact⟨ob,k _ _ (.inl rfl) e⟩
 | xd fs=>obtain⟨mA,⟨od,es,ep,e,c⟩,r⟩:=x; exact⟨mA,⟨od,es,ep,k _ _ (.inl rfl) e,c⟩,r⟩
 | rng lo hi=>obtain⟨t,u,v,e⟩:=x; exact⟨t,u,v,k _ _ (.inl rfl) e⟩
 | frz ob u ih=>obtain⟨e,q⟩:=x; exact⟨k _ _ (.inl rfl) e,ih q⟩
 | tbl ps=>
  have e:h.get? a=some { cls:=.none,data:=.fields ps }:=x
  show h'.get? a=some { cls:=.none,data:=.fields ps }
  exact k a _ (.inl rfl) e
 | met f y=>
  have e:h.get? a=some (PySem.W.methodObj (.ref f) (.ref y)):=x
  show h'.get? a=some (PySem.W.methodObj (.ref f) (.ref y))
  exact k a _ (.inl rfl) e
 | ext φ=>obtain⟨p,⟨o,e⟩,st⟩:=x; exact⟨st _ _ p fun o q=>k _ _ (.inl rfl) q,⟨o,k _ _ (.inl rfl) e⟩,st⟩
theorem HOk.lt (x:HOk P w H h) (e:H a=some o):a<h.objs.size:=(x a o e).lt
theorem HOk.fresh (x:HOk P w H h) (e:h.objs.size<=a):H a=none:=by
 cases q:H a with
 | none=>rfl
 | some u=>exact absurd (Nat.lt_of_lt_of_le (x.lt q) e) (Nat.lt_irrefl _)
theorem HOk.kept (x:HOk P w H h) (k:∀ b u,h.get? b=some u->h'.get? b=some u):HOk P w H h':=fun a o e=>
 (x a o e).stay (fun b u _ q=>k b u q) (fun _ q=>q) fun _ _ q=>q
theorem HOk.laid (x:HOk P w H h) (k:∀ b u,h.get? b=some u->h'.get? b=some u) (hp:h.objs.size<=a) (new:ObjOk P w (upd H a o) h' a o):HOk P w (upd H a o) h':=fun b u e=>by
 have hn:=x.fresh hp
 by_cases hb:b=a
 ·subst hb; rw[bx] at e; cases e; exact new
 ·rw[aJ hb] at e
  exact(x b u e).stay (fun c v _ q=>k c v q) (fun c q=>by rw[aJ (bo q hn)]; exact q) fun c xs q=>by rw[aJ (bo q hn)]; exact q
end
noncomputable def Rd (H:Hp) (a:Addr) (u:HO):Prop:=H a=some u∨∃ o,H a=some (.frz o u)
theorem Rd.ok {P:Program}{w:World}{H:Hp}{h:Heap}{a:Addr}{u:HO} (r:Rd H a u) (x:HOk P w H h):ObjOk P w H h a u:=by
 rcases r with r | ⟨o,r⟩
 ·exact x a u r
 ·obtain⟨_,q⟩:=x a _ r
  exact q
noncomputable def Mut:Option HO->Prop
 | some (.lst _)=>True
 | some (.dK _)=>True
 | some (.dT _)=>True
 | some (.set _ _)=>True
 | some (.ins _ _ _)=>True
 | some (.ext _)=>True
 | _=>False
section
variable {P:Program}{w:World}{H:Hp}{h h':Heap}{x e:Addr}{o':HO}
theorem HOk.write (ok:HOk P w H h) (mu:Mut (H x)) (he:e=x∨H e=some (.own x)) (k:∀ b u,b≠e->h.get? b=some u->h'.get? b=some u) (heo:∃ u,h'.get? e=some u)
  (new:ObjOk P w (upd H x o') h' x o'):HOk P w (upd H x o') h':=fun b u q=>by
 have nown:∀ c y,H c=some (.own y)->c≠x:=fun c y r z=>by subst z; rw[r] at mu; exact mu
 have ntup:∀ c xs,H c=some (.tup xs)->c≠x:=fun c xs r z=>by subst z; rw[r] at mu; exact mu
 by_cases hb:b=x
 ·subst hb; rw[bx] at q; cases q; exact new
 ·rw[aJ hb] at q
  by_cases hbe:b=e
  ·have q':H b=some (.own x):=by
    rcases he with z | z
    ·exact absurd (hbe.trans z) hb
    ·rw[hbe]; exact z
   rw[q] at q'; cases q'
   obtain⟨v,hv⟩:=heo
   exact⟨v,by rw[hbe]; exact hv⟩
  ·refine(ok b u q).stay (fun c v hc r=>k c v ?_ r) (fun c r=>by rw[aJ (nown c b r)]; exact r) fun c xs r=>by rw[aJ (ntup c xs r)]; exact r
   rcases hc with rfl | hc
   ·exact hbe
   ·rintro rfl
    rcases he with z | z
    ·exact nown c b hc z
    ·rw[hc] at z; cases z; exact hb rfl
end
structure Un (fs ex:List Addr) (H H':Hp) (h h':Heap):Prop where
 keep:∀ b o,h.get? b=some o->H b=none->b ∉ fs->b ∉ ex->h'.get? b=some o
 slot:∀ b o,h.get? b=some o->H b=none->b ∈ fs->b ∉ ex->∃ sl,h'.get? b=some { o with slots:=sl }
 free:∀ b o,h.get? b=some o->H b=none->b ∉ ex->H' b=none
 there:∀ b o,h.get? b=some o->b ∉ ex->∃ o',h'.get? b=some o'
 tups:∀ b xs,H b=some (.tup xs)->H' b=some (.tup xs)
 frzs:∀ b o u,H b=some (.frz o u)->H' b=some (.frz o u)
 tbls:∀ b ps,H b=some (.tbl ps)->∃ more,H' b=some (.tbl (ps++more))
section
variable {fs fs' ex ex':List Addr}{H H1 H2:Hp}{h h1 h2 h':Heap}{a x e:Addr}{o:HO}
theorem Un.any (u:Un fs ex H H1 h h1) {b:Addr}{ob:Obj} (q:h.get? b=some ob) (n:H b=none) (hx:b ∉ ex):∃ sl,h1.get? b=some { ob with slots:=sl }:=by
 by_cases hb:b ∈ fs
 ·exact u.slot b ob q n hb hx
 ·exact⟨ob.slots,u.keep b ob q n hb hx⟩
theorem Un.trans (a:Un fs ex H H1 h h1) (b:Un fs ex H1 H2 h1 h2):Un fs ex H H2 h h2 where
 keep:=fun c ob q n hc hx=>b.keep c ob (a.keep c ob q n hc hx) (a.free c ob q n hx) hc hx
 slot:=fun c ob q n hc hx=>by
  obtain⟨sl,e1⟩:=a.slot c ob q n hc hx
  obtain⟨sl',e2⟩:=b.slot c _ e1 (a.free c ob q n hx) hc hx
  exact⟨sl',e2⟩
 free:=fun c ob q n hx=>by
  obtain⟨o',e1⟩:=a.there c ob q hx
  exact b.free c o' e1 (a.free c ob q n hx) hx
 there:=fun c ob q hx=>by
  obtain⟨o',e1⟩:=a.there c ob q hx
  exact b.there c o' e1 hx
 tups:=fun c xs q=>b.tups c xs (a.tups c xs q)
 frzs:=fun c ob xs q=>b.frzs c ob xs (a.frzs c ob xs q)
 tbls:=fun c ps q=>by
  obtain⟨m1,e1⟩:=a.tbls c ps q
  obtain⟨m2,e2⟩:=b.tbls c _ e1
  exact⟨m1++m2,by rw[e2,Array.append_assoc]⟩
theorem Un.kept (k:∀ b u,h.get? b=some u->h'.get? b=some u):Un fs ex H H h h' :=
 ⟨fun b ob q _ _ _=>k b ob q,fun b ob q _ _ _=>⟨ob.slots,k b ob q⟩,fun _ _ _ n _=>n,fun b ob q _=>⟨ob,k b ob q⟩,fun _ _ q=>q,fun _ _ _ q=>q,fun _ ps q=>⟨#[],by rw[q]; simp⟩⟩
theorem Un.refl:Un fs ex H H h h:=Un.kept fun _ _ q=>q
theorem Un.laid (k:∀ b u,h.get? b=some u->h'.get? b=some u) (hp:h.objs.size<=a) (hn:H a=none):Un fs ex H (upd H a o) h h' where
 keep:=fun b u q _ _ _=>k b u q
 slot:=fun b u q _ _ _=>⟨u.slots,k b u q⟩
 free:=fun b u q n _=>by rw[aJ (Nat.ne_of_lt (Nat.lt_of_lt_of_le (Heap.lt_size q) hp))]; exact n
 there:=fun b u q _=>⟨u,k b u q⟩
 tups:=fun b xs q=>by rw[aJ (bo q hn)]; exact q
 frzs:=fun b u xs q=>by rw[aJ (bo q hn)]; exact q
 tbls:=fun b ps q=>⟨#[],by rw[aJ (bo q hn),q]; simp⟩
theorem Un.write (mu:Mut (H x)) (he:e=x∨H e=some (.own x)) (k:∀ b u,b≠e->h.get? b=some u->h'.get? b=some u) (heo:∃ u,h'.get? e=some u):Un fs ex H (upd H x o) h h':=by
 have hx:∀ b,H b=none->b≠x:=fun b n z=>by subst z; rw[n] at mu; exact mu
 have hb:∀ b,H b=none->b≠e:=fun b n z=>by
  subst z
  rcases he with r | r
  ·exact hx b n r
  ·rw[n] at r; cases r
 have hm:∀ b u,H b=some u->¬ Mut (some u)->b≠x:=fun b u q nm z=>by subst z; rw[q] at mu; exact nm mu
 refine⟨fun b u q n _ _=>k b u (hb b n) q,fun b u q n _ _=>⟨u.slots,k b u (hb b n) q⟩,fun b u q n _=>by rw[aJ (hx b n)]; exact n,fun b u q _=>?_,
  fun b xs q=>by rw[aJ (hm b _ q fun z=>z)]; exact q,fun b u xs q=>by rw[aJ (hm b _ q fun z=>z)]; exact q,fun b ps q=>⟨#[],by rw[aJ (hm b _ q fun z=>z),q]; simp⟩⟩
 by_cases hbe:b=e
 ·subst hbe; exact heo
 ·exact⟨u,k b u hbe q⟩
end
noncomputable def trk (h:Heap) (H:Hp):List Addr:=(List.range h.objs.size).filter fun a=>(H a).isSome
noncomputable def hB (h:Heap) (H:Hp):Heap:=PySem.W.hideAll h (trk h H)
theorem lH (h:Heap) (H:Hp):(hB h H).objs.size=h.objs.size:=PySem.W.hideAll_size _ _
theorem nW {h:Heap}{H:Hp}{b:Addr}{o:Obj} (e:h.get? b=some o) (n:H b=none):(hB h H).get? b=some o :=
 PySem.W.hideAll_get _ e fun hm=>by
  have q:(H b).isSome=true:=(List.mem_filter.mp hm).2
  rw[n] at q; simp at q
theorem pj {h:Heap}{H:Hp}{b:Addr}{o:Obj} (e:(hB h H).get? b=some o):h.get? b=some o/\H b=none:=by
 have e':h.get? b=some o:=PySem.W.of_hideAll (trk h H) e
 refine⟨e',?_⟩
 cases q:H b with
 | none=>rfl
 | some x=>
  have hm:b ∈ trk h H:=List.mem_filter.mpr ⟨mem_range.mpr (Heap.lt_size e'),by simp[q]⟩
  have z:(hB h H).get? b=none:=PySem.W.hideAll_none (trk h H) hm
  rw[z] at e; cases e
noncomputable def p5 (g h:Heap) (L:Addr):List (Addr×Obj):=(List.range h.objs.size).filterMap fun a=>if a=L∨(g.get? a).isSome=true then none else(h.get? a).map fun o=>(a,o)
noncomputable def rest (g h:Heap) (L d:Addr):List (Addr×Obj):=(p5 g h L).filter fun p=>decide (p.1≠d)
structure Mod (K:PySem.W.Frag) (mg:Str->Option Value) (base:Heap):Prop where
 kin:K.In base
 glob:base.Ns mainGlobals mg
 blt:∃ mb,base.Ns builtinsNs mb/\∀ x:Str,x ≠ "__name__" -> mb x=bootBuiltins x
 nolimit:base.NoLimit
structure Cx where
 prog:Program
 w:World
 K:PySem.W.Frag
 mg:Str->Option Value
 base:Heap
 A:Around
 N:List Str
 s₀:Shared
 H₀:Hp
 env:Env
 outer:List Env
 stack:List Env
 ex:List Addr
 fn:Str->Bool
 calm:Bool
 pn:List (Addr×Obj)
 xe:Value->Shared->Prop
noncomputable def frs (l:List Env):List Addr:=l.filterMap (·.frame)
noncomputable abbrev Cx.fs (X:Cx):List Addr:=frs X.outer
noncomputable def Vis (sc:Scope) (x:Str):Prop:=sc.names.lookup x=some .local∨sc.names.lookup x=some .cell∨sc.names.lookup x=some .free
noncomputable def Loc (sc:Scope) (x:Str):Prop:=sc.names.lookup x=some .local∨sc.names.lookup x=some .cell
noncomputable def Look (env:Env) (h:Heap) (m:Str->Option Value) (x:Str) (u:Value):Prop :=
 (env.kindOf x=some .local/\m x=some u)∨((env.kindOf x=some .cell∨env.kindOf x=some .free)/\∃ c,env.cells.lookup x=some c/\h.IsCell c (some u))
structure Cx.Ok (X:Cx):Prop where
 mod:Mod X.K X.mg X.base
 kind:X.env.scope.kind=.function
 glob:X.env.globals=mainGlobals
 blt:X.env.builtins=builtinsNs
 above:X.s₀.heap.objs.size<=X.env.locals
 inj:∀ x y c,X.env.cells.lookup x=some c->X.env.cells.lookup y=some c->x=y
 has:∀ x,(X.env.kindOf x=some .cell∨X.env.kindOf x=some .free)->∃ c,X.env.cells.lookup x=some c
 cab:∀ x c,X.fn x=true->X.env.cells.lookup x=some c->X.s₀.heap.objs.size<=c
 hd:X.calm=true->X.A.handled=none
 frames:X.A.frames=some X.stack
 stk:X.stack=X.outer∨(X.stack=X.env::X.outer/\X.env.frame=some X.env.locals)
 exf:∀ b ∈ X.ex,b≠X.env.locals/\∀ x c,X.env.cells.lookup x=some c->c≠b
 bs:∀ b o,X.base.get? b=some o->X.s₀.heap.get? b=some o/\X.H₀ b=none
 bsz:X.base.objs.size<=X.s₀.heap.objs.size
 noex:∀ b o,X.base.get? b=some o->b ∉ X.ex
 exfs:∀ b ∈ X.ex,b ∉ X.fs
 funs:X.s₀.heap.FunFrames X.base X.outer
 frf:∀ b ∈ X.fs,X.H₀ b=none
structure Inv (X:Cx) (pins:List (Addr×Obj)) (σ:List (Option V)) (H:Hp) (s:Shared):Prop where
 ok:X.Ok
 os:s.os=X.s₀.os
 bare:AllBare s.gens
 base:Un X.fs X.ex X.H₀ H X.s₀.heap s.heap
 loc:∃ m,s.heap.Ns X.env.locals m/\∀ (i:Nat) (x:Str) (v:V),X.N[i]?=some x->σ[i]?=some (some v)->Vis X.env.scope x->∃ u,RelV v u/\Look X.env s.heap m x u
 cell:∀ x c,X.env.cells.lookup x=some c->∃ v,s.heap.IsCell c v
 free:H X.env.locals=none
 freeC:∀ x c,X.env.cells.lookup x=some c->H c=none
 pin:∀ p ∈ X.pn++pins,s.heap.get? p.1=some p.2/\H p.1=none/\p.1≠X.env.locals/\p.1 ∉ X.fs/\∀ v,p.2.data≠.cell v
 hok:HOk X.prog X.w H s.heap
 len:σ.length=X.N.length
section
variable {X:Cx}{pins:List (Addr×Obj)}{σ:List (Option V)}{H H':Hp}{s:Shared}{h':Heap}
theorem Cx.Ok.nofr (ok:X.Ok) {b:Addr}{o:Obj} (e:X.base.get? b=some o):b ∉ X.fs:=fun hb=>by
 have:=(ok.funs.mem hb).1
 rw[e] at this; cases this
theorem Inv.bs (I:Inv X pins σ H s):∀ b o,X.base.get? b=some o->s.heap.get? b=some o/\H b=none:=fun b o e=>
 ⟨I.base.keep b o (I.ok.bs b o e).1 (I.ok.bs b o e).2 (I.ok.nofr e) (I.ok.noex b o e),I.base.free b o (I.ok.bs b o e).1 (I.ok.bs b o e).2 (I.ok.noex b o e)⟩
theorem Inv.bk (I:Inv X pins σ H s):∀ b o,X.base.get? b=some o->s.heap.get? b=some o:=fun b o e=>(I.bs b o e).1
theorem Inv.mod (I:Inv X pins σ H s):Mod X.K X.mg X.base:=I.ok.mod
theorem Inv.kIn (I:Inv X pins σ H s):X.K.In s.heap:=I.ok.mod.kin.keeps I.bk
theorem Inv.lt (I:Inv X pins σ H s):X.env.locals<s.heap.objs.size:=let ⟨_,hn,_⟩:=I.loc; hn.lt
theorem Inv.sz (I:Inv X pins σ H s):X.s₀.heap.objs.size<=s.heap.objs.size:=Nat.le_trans I.ok.above (Nat.le_of_lt I.lt)
theorem Inv.nofs (I:Inv X pins σ H s) {a:Addr} (h:s.heap.objs.size<=a):a ∉ X.fs:=fun hb=>by
 obtain⟨_,o,ho,_⟩:=I.ok.funs.mem hb
 exact absurd (Nat.lt_of_lt_of_le (Heap.lt_size ho) (Nat.le_trans I.sz h)) (Nat.lt_irrefl _)
theorem Inv.cne (I:Inv X pins σ H s):∀ x c,X.env.cells.lookup x=some c->c≠X.env.locals:=fun x c e z=>by
 obtain⟨v,o,ho,hd⟩:=I.cell x c e
 obtain⟨m,⟨o',es,ep,ho',hd',_⟩,_⟩:=I.loc
 rw[z,ho'] at ho; cases ho; rw[hd'] at hd; cases hd
theorem Inv.funs (I:Inv X pins σ H s):s.heap.FunFrames X.base X.outer:=by
 have all:∀ (l:List Env),(∀ b ∈ frs l,b ∈ X.fs)->X.s₀.heap.FunFrames X.base l->s.heap.FunFrames X.base l:=by
  intro l
  induction l with
  | nil=>intro _ _; trivial
  | cons env r ih=>
   intro hs hl
   obtain⟨hk,⟨L,o,hf,hn,ho,hd⟩,hr⟩:=hl
   have hL:L ∈ X.fs:=hs L (by unfold frs; rw[List.filterMap_cons,hf]; exact mem_cons_self)
   obtain⟨sl,e⟩:=I.base.slot L o ho (I.ok.frf L hL) hL fun z=>I.ok.exfs L z hL
   exact⟨hk,⟨L,_,hf,hn,e,hd⟩,ih (fun b hb=>hs b (by unfold frs; rw[List.filterMap_cons,hf]; exact mem_cons_of_mem _ hb)) hr⟩
 exact all X.outer (fun _ hb=>hb) I.ok.funs
theorem Inv.stack (I:Inv X pins σ H s):s.heap.FunFrames X.base X.stack:=by
 rcases I.ok.stk with e | ⟨e,hf⟩
 ·rw[e]; exact I.funs
 ·rw[e]
  obtain⟨m,hn,_⟩:=I.loc
  refine .cons (by rw[I.ok.kind]; decide) hf hn ?_ I.funs
  exact Heap.get?_none_of_le (Nat.le_trans I.ok.bsz I.ok.above)
theorem Inv.stkSub (I:Inv X pins σ H s):∀ b ∈ frs X.stack,b ∈ X.env.locals::X.fs:=fun b hb=>by
 rcases I.ok.stk with e | ⟨e,hf⟩
 ·rw[e] at hb; exact mem_cons_of_mem _ hb
 ·rw[e] at hb
  unfold frs at hb
  rw[List.filterMap_cons,hf] at hb
  exact hb
theorem Inv.stkFree (I:Inv X pins σ H s):∀ b ∈ frs X.stack,H b=none:=fun b hb=>by
 rcases mem_cons.mp (I.stkSub b hb) with e | hb
 ·rw[e]; exact I.free
 ·obtain⟨_,o,ho,_⟩:=I.ok.funs.mem hb
  exact I.base.free b o ho (I.ok.frf b hb) fun z=>I.ok.exfs b z hb
theorem Inv.step {g':Array GenState}{t':Nat}{d':Drawn}{ch:List Addr} (I:Inv X pins σ H s)
  (hch:∀ b ∈ ch,(b ∈ X.ex∨X.s₀.heap.objs.size<=b)/\b≠X.env.locals/\(∀ x c,X.env.cells.lookup x=some c->c≠b)/\∀ p ∈ X.pn++pins,p.1≠b)
  (keep:∀ b o,b≠X.env.locals->b ∉ X.fs->b ∉ ch->s.heap.get? b=some o->H b=none->h'.get? b=some o)
  (slot:∀ b o,b≠X.env.locals->b ∈ X.fs->b ∉ ch->s.heap.get? b=some o->H b=none->∃ sl,h'.get? b=some { o with slots:=sl }) (free:∀ b o,b ∉ ch->s.heap.get? b=some o->H b=none->H' b=none)
  (there:∀ b o,b ∉ ch->s.heap.get? b=some o->∃ o',h'.get? b=some o')
  (tups:∀ b xs,H b=some (.tup xs)->H' b=some (.tup xs)) (frzs:∀ b o u,H b=some (.frz o u)->H' b=some (.frz o u)) (tbls:∀ b ps,H b=some (.tbl ps)->∃ more,H' b=some (.tbl (ps++more)))
  (ns:∀ m,s.heap.Ns X.env.locals m->h'.Ns X.env.locals m) (hok:HOk X.prog X.w H' h') (hg:AllBare g') :
  Inv X pins σ H' { s with heap:=h',gens:=g',drawn:=d',toks:=t' }:=by
 have neL:∀ b o,X.s₀.heap.get? b=some o->b≠X.env.locals:=fun b o e=>Nat.ne_of_lt (Nat.lt_of_lt_of_le (Heap.lt_size e) I.ok.above)
 have neC:∀ b o,X.s₀.heap.get? b=some o->b ∉ X.ex->b ∉ ch:=fun b o e hx hb=>by
  rcases (hch b hb).1 with z | z
  ·exact hx z
  ·exact absurd (Nat.lt_of_lt_of_le (Heap.lt_size e) z) (Nat.lt_irrefl _)
 have cellK:∀ x c,X.env.cells.lookup x=some c->∀ v,s.heap.IsCell c v->h'.IsCell c v:=fun x c e v z_=>z_.elim fun o z_=>z_.elim fun ho hd=>by
  have nch:c ∉ ch:=fun z=>(hch c z).2.2.1 x c e rfl
  by_cases hc:c ∈ X.fs
  ·obtain⟨sl,q⟩:=slot c o (I.cne x c e) hc nch ho (I.freeC x c e)
   exact⟨_,q,hd⟩
  ·exact⟨o,keep c o (I.cne x c e) hc nch ho (I.freeC x c e),hd⟩
 refine⟨I.ok,I.os,hg,⟨fun b o e n hb hx=>?_,fun b o e n hb hx=>?_,fun b o e n hx=>?_,fun b o e hx=>?_,fun b xs e=>tups b xs (I.base.tups b xs e),fun b o xs e=>frzs b o xs (I.base.frzs b o xs e),fun b ps e=>?_⟩,?_,fun x c e=>?_,?_,fun x c e=>?_,fun p hp=>?_,hok,I.len⟩
 ·exact keep b o (neL b o e) hb (neC b o e hx) (I.base.keep b o e n hb hx) (I.base.free b o e n hx)
 ·obtain⟨sl,e1⟩:=I.base.slot b o e n hb hx
  obtain⟨sl',e2⟩:=slot b _ (neL b o e) hb (neC b o e hx) e1 (I.base.free b o e n hx)
  exact⟨sl',e2⟩
 ·obtain⟨o',e1⟩:=I.base.there b o e hx
  exact free b o' (neC b o e hx) e1 (I.base.free b o e n hx)
 ·obtain⟨o',e1⟩:=I.base.there b o e hx
  exact there b o' (neC b o e hx) e1
 ·obtain⟨m1,e1⟩:=I.base.tbls b ps e
  obtain⟨m2,e2⟩:=tbls b _ e1
  exact⟨m1++m2,by rw[e2,Array.append_assoc]⟩
 ·obtain⟨m,hn,hl⟩:=I.loc
  refine⟨m,ns m hn,fun i x v e1 e2 e3=>?_⟩
  obtain⟨u,r,l⟩:=hl i x v e1 e2 e3
  refine⟨u,r,?_⟩
  rcases l with l | ⟨k,c,e,z⟩
  ·exact .inl l
  ·exact .inr ⟨k,c,e,cellK x c e _ z⟩
 ·obtain⟨v,z⟩:=I.cell x c e
  exact⟨v,cellK x c e v z⟩
 ·obtain⟨m,⟨o,_,_,ho,_⟩,_⟩:=I.loc
  exact free _ o (fun z=>(hch _ z).2.1 rfl) ho I.free
 ·obtain⟨v,o,ho,hd⟩:=I.cell x c e
  exact free c o (fun z=>(hch c z).2.2.1 x c e rfl) ho (I.freeC x c e)
 ·obtain⟨e,n,ne,nf,d⟩:=I.pin p hp
  have nch:p.1 ∉ ch:=fun z=>(hch p.1 z).2.2.2 p hp rfl
  exact⟨keep p.1 p.2 ne nf nch e n,free p.1 p.2 nch e n,ne,nf,d⟩
theorem Inv.un {t':Nat} (I:Inv X pins σ H s) (u:Un X.fs [] H H' s.heap h') (hok:HOk X.prog X.w H' h'):Inv X pins σ H' { s with heap:=h',toks:=t' }:=by
 obtain⟨m,⟨o,es,ep,ho,r⟩,_⟩:=id I.loc
 obtain⟨sl,hL⟩:=u.any ho I.free (by simp)
 exact I.step (g':=s.gens) (d':=s.drawn) (ch:=[]) (fun _ z=>nomatch z) (fun b o _ hb _ e n=>u.keep b o e n hb (by simp)) (fun b o _ hb _ e n=>u.slot b o e n hb (by simp)) (fun b o _ e n=>u.free b o e n (by simp)) (fun b o _ e=>u.there b o e (by simp)) u.tups u.frzs u.tbls (fun m' hm=>by
  obtain⟨o',es',ep',ho',r'⟩:=hm
  rw[ho] at ho'; cases ho'
  exact⟨_,es',ep',hL,r'⟩) hok I.bare
theorem Inv.call {g':Array GenState}{t':Nat}{d':Drawn}{ch:List Addr} (I:Inv X pins σ H s) (u:Un (frs X.stack) ch H H' s.heap h') (hok:HOk X.prog X.w H' h') (hg:AllBare g')
  (hch:∀ b ∈ ch,(b ∈ X.ex∨X.s₀.heap.objs.size<=b)/\b≠X.env.locals/\(∀ x c,X.env.cells.lookup x=some c->c≠b)/\∀ p ∈ X.pn++pins,p.1≠b) :
  Inv X pins σ H' { s with heap:=h',gens:=g',drawn:=d',toks:=t' }:=by
 obtain⟨m,⟨o,es,ep,ho,r⟩,_⟩:=id I.loc
 obtain⟨sl,hL⟩:=u.any ho I.free fun z=>(hch _ z).2.1 rfl
 exact I.step (ch:=ch) hch (fun b o hL hb hc e n=>u.keep b o e n (fun z=>(mem_cons.mp (I.stkSub b z)).elim hL hb) hc) (fun b o _ _ hc e n=>u.any e n hc) (fun b o hc e n=>u.free b o e n hc) (fun b o hc e=>u.there b o e hc) u.tups u.frzs u.tbls (fun m' hm=>by
  obtain⟨o',es',ep',ho',r'⟩:=hm
  rw[ho] at ho'; cases ho'
  exact⟨_,es',ep',hL,r'⟩) hok hg
theorem Inv.turned {t':Nat}{it:Addr} (I:Inv X pins σ H s) (k:∀ b o,b≠it->s.heap.get? b=some o->h'.get? b=some o) (hn:H it=none) (hL:it≠X.env.locals)
  (h1:it ∈ X.ex∨X.s₀.heap.objs.size<=it) (h2:∀ x c,X.env.cells.lookup x=some c->c≠it) (h3:∀ p ∈ X.pn++pins,p.1≠it):Inv X pins σ H { s with heap:=h',toks:=t' }:=by
 have nit:∀ b u,H b=some u->b≠it:=fun b u e z=>by rw[z,hn] at e; cases e
 refine I.step (g':=s.gens) (d':=s.drawn) (ch:=[it]) (fun b hb=>?_) (fun b o _ _ hc e _=>k b o (fun z=>hc (by simp[z])) e) (fun b o _ _ hc e _=>⟨o.slots,k b o (fun z=>hc (by simp[z])) e⟩) (fun _ _ _ _ n=>n)
  (fun b o hc e=>⟨o,k b o (fun z=>hc (by simp[z])) e⟩) (fun _ _ e=>e) (fun _ _ _ e=>e) (fun b ps e=>⟨#[],by rw[e]; simp⟩) (fun m hm=>?_) (fun b u e=>?_) I.bare
 ·have e:b=it:=by simpa using hb
  subst e
  exact⟨h1,hL,h2,h3⟩
 ·obtain⟨o,es,ep,ho,r⟩:=hm
  exact⟨o,es,ep,k _ o (Ne.symm hL) ho,r⟩
 ·refine(I.hok b u e).stay (fun c v hc q=>k c v ?_ q) (fun _ q=>q) fun _ _ q=>q
  rcases hc with z | z
  ·rw[z]; exact nit b u e
  ·exact nit c _ z
theorem Inv.tok (I:Inv X pins σ H s) (t:Nat):Inv X pins σ H { s with toks:=t }:=I.un (h':=s.heap) (t':=t) Un.refl I.hok
theorem Inv.kept {t':Nat} (I:Inv X pins σ H s) (k:∀ b u,s.heap.get? b=some u->h'.get? b=some u):Inv X pins σ H { s with heap:=h',toks:=t' }:=I.un (Un.kept k) (I.hok.kept k)
theorem Inv.laid {a:Addr}{o:HO}{t':Nat} (I:Inv X pins σ H s) (k:∀ b u,s.heap.get? b=some u->h'.get? b=some u) (hp:s.heap.objs.size<=a) (new:ObjOk X.prog X.w (upd H a o) h' a o) :
  Inv X pins σ (upd H a o) { s with heap:=h',toks:=t' }:=I.un (Un.laid k hp (I.hok.fresh hp)) (I.hok.laid k hp new)
theorem Inv.write {x e:Addr}{o:HO}{t':Nat} (I:Inv X pins σ H s) (mu:Mut (H x)) (he:e=x∨H e=some (.own x)) (k:∀ b u,b≠e->s.heap.get? b=some u->h'.get? b=some u) (heo:∃ u,h'.get? e=some u)
  (new:ObjOk X.prog X.w (upd H x o) h' x o):Inv X pins σ (upd H x o) { s with heap:=h',toks:=t' }:=I.un (Un.write mu he k heo) (I.hok.write mu he k heo new)
theorem Inv.pins_of {pins':List (Addr×Obj)} (I:Inv X pins σ H s) (h:∀ p ∈ pins',s.heap.get? p.1=some p.2/\H p.1=none/\p.1≠X.env.locals/\p.1 ∉ X.fs/\∀ v,p.2.data≠.cell v):Inv X pins' σ H s :=
 ⟨I.ok,I.os,I.bare,I.base,I.loc,I.cell,I.free,I.freeC,fun p hp=>(mem_append.mp hp).elim (fun z=>I.pin p (mem_append_left _ z)) (h p),I.hok,I.len⟩
theorem nodup_ix {N:List Str} (hN:N.Nodup) {i j:Nat}{x:Str} (a:N[i]?=some x) (b:N[j]?=some x):i=j:=by
 obtain⟨h1,e1⟩:=List.getElem?_eq_some_iff.mp a
 obtain⟨h2,e2⟩:=List.getElem?_eq_some_iff.mp b
 exact(List.getElem_inj hN).mp (e1.trans e2.symm)
theorem k5 {M:Model}{A:Around}{E:Value->Shared->Prop}{i:Nat}{x:Str}{v:V}{u:Value}{Q:Unit->Shared->Prop} (I:Inv X pins σ H s) (hN:X.N.Nodup) (hi:X.N[i]?=some x) (hx:Loc X.env.scope x) (r:RelV v u)
  (h:∀ s',Inv X pins (σ.set i (some v)) H s'->(∃ a,Heap.SameBut a s.heap s'.heap/\(a=X.env.locals∨X.env.cells.lookup x=some a))->Q () s') (hf:X.fn x=true∨X.env.scope.names.lookup x=some .local:=by first | exact .inl rfl | exact .inr rfl | assumption):wpAny M A (storeName X.env x u) Q E s:=by
 obtain⟨m,hn,hl⟩:=id I.loc
 have hcls:(X.env.scope.kind == .class || (X.env.scope.kind == .module && X.env.locals != X.env.globals)) = false:=by rw [I.ok.kind]; rfl
 have hiσ:i<σ.length:=by rw[I.len]; exact(List.getElem?_eq_some_iff.mp hi).1
 have cne:=I.cne
 have tracked:∀ {a:Addr}{h':Heap},(∃ o,s.heap.get? a=some o/\H a=none)->Heap.SameBut a s.heap h'->HOk X.prog X.w H h':=fun {a h'} ha hs b ob e=>by
  obtain⟨_,_,hfree⟩:=ha
  refine(I.hok b ob e).stay (fun c w' hc q=>(hs.2 c ?_).trans q) (fun _ q=>q) fun _ _ q=>q
  rintro rfl
  rcases hc with rfl | hc
  ·rw[hfree] at e; cases e
  ·rw[hfree] at hc; cases hc
 rcases hx with hk | hk
 ·refine wpAny_storeName_local hk hn (fun h' hn' hs=>?_) hcls
  obtain⟨oL,_,_,hoL,_⟩:=id hn
  refine h _ ⟨I.ok,I.os,I.bare,⟨fun b o e n hb hx=>?_,fun b o e n hb hx=>?_,I.base.free,fun b o e hx=>?_,I.base.tups,I.base.frzs,I.base.tbls⟩,⟨_,hn',fun j y v' e1 e2 e3=>?_⟩,fun y c e=>?_,I.free,I.freeC,fun p hp=>?_,tracked ⟨oL,hoL,I.free⟩ hs,by simpa using I.len⟩ ⟨_,hs,.inl rfl⟩
  ·exact(hs.2 b (Nat.ne_of_lt (Nat.lt_of_lt_of_le (Heap.lt_size e) I.ok.above))).trans (I.base.keep b o e n hb hx)
  ·obtain⟨sl,e1⟩:=I.base.slot b o e n hb hx
   exact⟨sl,(hs.2 b (Nat.ne_of_lt (Nat.lt_of_lt_of_le (Heap.lt_size e) I.ok.above))).trans e1⟩
  ·obtain⟨o',e1⟩:=I.base.there b o e hx
   exact⟨o',(hs.2 b (Nat.ne_of_lt (Nat.lt_of_lt_of_le (Heap.lt_size e) I.ok.above))).trans e1⟩
  ·by_cases hj:j=i
   ·subst hj
    rw[hi] at e1; cases e1
    rw[List.getElem?_set_self hiσ] at e2
    cases e2
    exact⟨u,r,.inl ⟨hk,by simp⟩⟩
   ·rw[List.getElem?_set_ne (Ne.symm hj)] at e2
    obtain⟨u',r',q⟩:=hl j y v' e1 e2 e3
    refine⟨u',r',?_⟩
    rcases q with ⟨k,e⟩ | ⟨k,c,e,z⟩
    ·refine .inl ⟨k,?_⟩
     have:y≠x:=fun e=>hj (nodup_ix hN e1 (e ▸ hi))
     simp[this,e]
    ·exact .inr ⟨k,c,e,z.sameBut hs (cne y c e)⟩
  ·obtain⟨w',z⟩:=I.cell y c e
   exact⟨w',z.sameBut hs (cne y c e)⟩
  ·obtain⟨e,n,ne,nf,d⟩:=I.pin p hp
   exact⟨(hs.2 p.1 ne).trans e,n,ne,nf,d⟩
 ·have hfn:X.fn x=true:=by
   rcases hf with z | z
   ·exact z
   ·rw[z] at hk; cases hk
  obtain⟨c,hc⟩:=I.ok.has x (.inl hk)
  obtain⟨w',z⟩:=I.cell x c hc
  refine wpAny_storeName_cell I.ok.kind hk hc z (fun h' hc' hs=>?_)
  obtain⟨oc,hoc,hocd⟩:=id z
  refine h { s with heap:=h' } ⟨I.ok,I.os,I.bare,⟨fun b o e n hb hx=>?_,fun b o e n hb hx=>?_,I.base.free,fun b o e hx=>?_,I.base.tups,I.base.frzs,I.base.tbls⟩,⟨m,hn.sameBut hs (Ne.symm (cne x c hc)),fun j y v' e1 e2 e3=>?_⟩,fun y c' e=>?_,I.free,I.freeC,fun p hp=>?_,tracked ⟨oc,hoc,I.freeC x c hc⟩ hs,by simpa using I.len⟩ ⟨c,hs,.inr hc⟩
  ·exact(hs.2 b (Nat.ne_of_lt (Nat.lt_of_lt_of_le (Heap.lt_size e) (I.ok.cab x c hfn hc)))).trans (I.base.keep b o e n hb hx)
  ·obtain⟨sl,e1⟩:=I.base.slot b o e n hb hx
   exact⟨sl,(hs.2 b (Nat.ne_of_lt (Nat.lt_of_lt_of_le (Heap.lt_size e) (I.ok.cab x c hfn hc)))).trans e1⟩
  ·obtain⟨o',e1⟩:=I.base.there b o e hx
   exact⟨o',(hs.2 b (Nat.ne_of_lt (Nat.lt_of_lt_of_le (Heap.lt_size e) (I.ok.cab x c hfn hc)))).trans e1⟩
  ·by_cases hj:j=i
   ·subst hj
    rw[hi] at e1; cases e1
    rw[List.getElem?_set_self hiσ] at e2
    cases e2
    exact⟨u,r,.inr ⟨.inl hk,c,hc,hc'⟩⟩
   ·rw[List.getElem?_set_ne (Ne.symm hj)] at e2
    obtain⟨u',r',q⟩:=hl j y v' e1 e2 e3
    refine⟨u',r',?_⟩
    rcases q with q | ⟨k,c',e,z'⟩
    ·exact .inl q
    ·refine .inr ⟨k,c',e,z'.sameBut hs ?_⟩
     rintro rfl
     exact hj (nodup_ix hN e1 (I.ok.inj _ _ _ e hc ▸ hi))
  ·by_cases hcc:c'=c
   ·subst hcc; exact⟨_,hc'⟩
   ·obtain⟨w2,z2⟩:=I.cell y c' e
    exact⟨w2,z2.sameBut hs hcc⟩
  ·obtain⟨e,n,ne,nf,d⟩:=I.pin p hp
   refine⟨(hs.2 p.1 ?_).trans e,n,ne,nf,d⟩
   intro q
   rw[q,hoc] at e
   have q':oc=p.2:=Option.some.inj e
   exact d w' (by rw[<- q']; exact hocd)
theorem fh {M:Model}{A:Around}{E:Value->Shared->Prop}{i:Nat}{x:Str}{v:V}{u:Value}{Q:Unit->Shared->Prop} (I:Inv X pins σ H s) (hN:X.N.Nodup) (hi:X.N[i]?=some x) (hx:Loc X.env.scope x) (r:RelV v u)
  (h:∀ s',Inv X pins (σ.set i (some v)) H s'->Q () s') (hf:X.fn x=true∨X.env.scope.names.lookup x=some .local:=by first | exact .inl rfl | exact .inr rfl | assumption):wpAny M A (storeName X.env x u) Q E s :=
 k5 I hN hi hx r (fun s' I' _=>h s' I') hf
end
noncomputable abbrev XK:=Value->Option Addr->Hp->Prop
noncomputable abbrev St:=List (Option V)
noncomputable abbrev VK:=V->Hp->Prop
noncomputable abbrev TE:=St->Hp->VK->Prop
noncomputable abbrev TT:=St->Hp->(Bool->Hp->Prop)->Prop
noncomputable abbrev TA:=St->Hp->(List V->Hp->Prop)->Prop
structure Ends where
 nx:St->Hp->Prop
 rt:VK
 bk:St->Hp->Prop:=fun _ _=>False
 ct:St->Hp->Prop:=fun _ _=>False
noncomputable abbrev TS:=Ends->St->Hp->Prop
noncomputable def EP (X:Cx) (pins:List (Addr×Obj)) (σ:St) (Q:VK) (u:Value) (s':Shared):Prop:=∃ v H',Inv X pins σ H' s'/\RelV v u/\Q v H'
noncomputable def TP (X:Cx) (pins:List (Addr×Obj)) (σ:St) (Q:Bool->Hp->Prop) (b:Bool) (s':Shared):Prop:=∃ H',Inv X pins σ H' s'/\Q b H'
noncomputable def AP (X:Cx) (pins:List (Addr×Obj)) (σ:St) (Q:List V->Hp->Prop) (us:List Value) (s':Shared):Prop:=∃ vs H',Inv X pins σ H' s'/\Vals vs us/\Q vs H'
noncomputable def SP (X:Cx) (pins:List (Addr×Obj)) (D:Ends) (f:Flow) (s':Shared):Prop :=
 match f with
 | .next=>∃ σ' H',Inv X pins σ' H' s'/\D.nx σ' H'
 | .brk=>∃ σ' H',Inv X pins σ' H' s'/\D.bk σ' H'
 | .cont=>∃ σ' H',Inv X pins σ' H' s'/\D.ct σ' H'
 | .ret u=>∃ v σ' H',Inv X pins σ' H' s'/\RelV v u/\D.rt v H'
noncomputable def PE (X:Cx) (e:Expr) (t:TE):Prop :=
 ∀ (pins:List (Addr×Obj)) (s:Shared) (σ:St) (H:Hp) (Q:VK),Inv X pins σ H s->t σ H Q->wpAny (model X.prog X.w) X.A (eval e X.env) (EP X pins σ Q) X.xe s
noncomputable def PT (X:Cx) (e:Expr) (t:TT):Prop :=
 ∀ (pins:List (Addr×Obj)) (s:Shared) (σ:St) (H:Hp) (Q:Bool->Hp->Prop),Inv X pins σ H s->t σ H Q->wpAny (model X.prog X.w) X.A (isTrue e X.env (eval e X.env)) (TP X pins σ Q) X.xe s
noncomputable def PW (X:Cx) (e:Expr) (t:TT):Prop :=
 ∀ (whole:Sem Value) (pins:List (Addr×Obj)) (s:Shared) (σ:St) (H:Hp) (Q:Bool->Hp->Prop),Inv X pins σ H s->t σ H Q->wpAny (model X.prog X.w) X.A (isTrue e X.env whole) (TP X pins σ Q) X.xe s
theorem PW.pt {X:Cx}{e:Expr}{t:TT} (h:PW X e t):PT X e t:=h _
noncomputable def PA (X:Cx) (es:List Expr) (t:TA):Prop :=
 ∀ (pos:Pos) (pins:List (Addr×Obj)) (s:Shared) (σ:St) (H:Hp) (Q:List V->Hp->Prop),Inv X pins σ H s->t σ H Q->wpAny (model X.prog X.w) X.A (spliced (backTo pos (starEach es X.env))) (AP X pins σ Q) X.xe s
noncomputable def PS (X:Cx) (st:Stmt) (t:TS):Prop :=
 ∀ (pins:List (Addr×Obj)) (s:Shared) (σ:St) (H:Hp) (D:Ends),Inv X pins σ H s->t D σ H->wpAny (model X.prog X.w) X.A (exec st X.env) (SP X pins D) X.xe s
noncomputable def PSs (X:Cx) (st:List Stmt) (t:TS):Prop :=
 ∀ (pins:List (Addr×Obj)) (s:Shared) (σ:St) (H:Hp) (D:Ends),Inv X pins σ H s->t D σ H->wpAny (model X.prog X.w) X.A (execs st X.env) (SP X pins D) X.xe s
theorem thn {α:Type}{t:Sem α}{Q Q':α->Shared->Prop}{M:Model}{A:Around}{E:Value->Shared->Prop}{s:Shared} (h:wpAny M A t Q E s) (hQ:∀ a s,Q a s->Q' a s):wpAny M A t Q' E s:=wpAny_mono h hQ fun _ _ x=>x
section
variable {X:Cx}
noncomputable def oz (i:Nat):TE:=fun σ H Q=>∃ v,σ[i]?=some (some v)/\Q v H
noncomputable def tC (v:V):TE:=fun _ H Q=>Q v H
theorem re {i:Nat}{x:Str}{pos:Pos} (hN:X.N[i]?=some x) (hv:Vis X.env.scope x) (hd:(x == ("__debug__" : Str))=false:=by decide) (hcd:(x == ("__classdict__" : Str))=false:=by decide):PE X (.Name x pos) (oz i):=by
 intro pins s σ H Q I h
 obtain⟨v,e,h⟩:=h
 obtain⟨m,hn,hl⟩:=I.loc
 obtain⟨u,r,l⟩:=hl i x v hN e hv
 have fin:EP X pins σ Q u s:=⟨v,H,I,r,h⟩
 rcases l with ⟨hk,hm⟩ | ⟨hk,c,hc,hcell⟩
 ·exact wpAny_Name (wpAny_loadName_local I.ok.kind hk hn hm fin) hd
 ·rcases hk with hk | hk
  ·exact wpAny_Name (wpAny_loadName_cell I.ok.kind hk hc hcell fin) hd
  ·exact wpAny_Name (wpAny_loadName_free I.ok.kind hk hc hcell fin hcd) hd
theorem ag {i j pos}:PE X (.Constant (.int i) j pos) (tC (.int i)):=fun _ _ _ H _ I h=>wpAny_Constant_int ⟨.int i,H,I.tok _,⟨_,U⟩,h⟩
theorem kr {b j pos}:PE X (.Constant (.bool b) j pos) (tC (.bl b)):=fun _ _ _ H _ I h=>Constant_bool ⟨.bl b,H,I,U,h⟩
theorem bn {j pos}:PE X (.Constant .none j pos) (tC .non):=fun _ _ _ H _ I h=>Constant_none ⟨.non,H,I,U,h⟩
theorem aF {x j pos}:PE X (.Constant (.str x) j pos) (tC (.str x)):=fun _ _ _ H _ I h=>Calls.Constant_str ⟨.str x,H,I.tok _,⟨_,U⟩,h⟩
noncomputable def Gl (X:Cx) (x:Str):Prop:=X.env.kindOf x=some .globalImplicit
theorem eY {E:Value->Shared->Prop}{pins:List (Addr×Obj)}{s:Shared}{σ:St}{H:Hp}{x:Str}{u:Value}{pos:Pos}{Q:Value->Shared->Prop} (I:Inv X pins σ H s) (hg:Gl X x) (hm:X.mg x=some u) (h:Q u s)
  (hd:(x == ("__debug__" : Str))=false:=by decide):wpAny (model X.prog X.w) X.A (eval (.Name x pos) X.env) Q E s :=
 Calls.Name_function_global I.ok.kind hg (Calls.loadGlobal_global (by rw[I.ok.glob]; exact I.mod.glob.keeps I.bk) hm h) hd
theorem fI {E:Value->Shared->Prop}{pins:List (Addr×Obj)}{s:Shared}{σ:St}{H:Hp}{x:Str}{u:Value}{pos:Pos}{Q:Value->Shared->Prop} (I:Inv X pins σ H s) (hg:Gl X x) (hm:X.mg x=none) (hv:bootBuiltins x=some u) (h:Q u s)
  (hn:x ≠ "__name__":=by decide) (hd:(x == ("__debug__" : Str))=false:=by decide):wpAny (model X.prog X.w) X.A (eval (.Name x pos) X.env) Q E s:=by
 obtain⟨mb,h1,h2⟩:=I.mod.blt
 exact Calls.Name_function_global I.ok.kind hg (Calls.loadGlobal_builtin (by rw[I.ok.glob]; exact I.mod.glob.keeps I.bk) hm (by rw[I.ok.blt]; exact h1.keeps I.bk) ((h2 x hn).trans hv) h) hd
theorem cJ {x:Str}{v:V}{u:Value}{pos:Pos} (hg:Gl X x) (hm:X.mg x=some u) (r:RelV v u) (hd:(x == ("__debug__" : Str))=false:=by decide):PE X (.Name x pos) (tC v) :=
 fun _ _ _ H _ I h=>eY I hg hm ⟨v,H,I,r,h⟩ hd
theorem gT {x:Str}{v:V}{u:Value}{pos:Pos} (hg:Gl X x) (hm:X.mg x=none) (hv:bootBuiltins x=some u) (r:RelV v u) (hn:x ≠ "__name__":=by decide) (hd:(x == ("__debug__" : Str))=false:=by decide):PE X (.Name x pos) (tC v) :=
 fun _ _ _ H _ I h=>fI I hg hm hv ⟨v,H,I,r,h⟩ hn hd
variable {a b:Expr}{ta tb:TE}{pos:Pos}
noncomputable def PC (X:Cx) (op:CmpOp) (a b:Expr) (t:TE):Prop :=
 ∀ (pins:List (Addr×Obj)) (s:Shared) (σ:St) (H:Hp) (Q:VK),Inv X pins σ H s->t σ H Q ->
  wpAny (model X.prog X.w) X.A (eval a X.env) (fun v s₁=>wpAny (model X.prog X.w) X.A (eval b X.env) (fun u s₂=>wpAny (model X.prog X.w) X.A (compareOp op v u) (EP X pins σ Q) X.xe s₂) X.xe s₁) X.xe s
noncomputable def tB (t:TE):TT:=fun σ H Q=>t σ H fun x H1=>∃ c,x=.bl c/\Q c H1
theorem cU {op:CmpOp}{t:TE} (h:PC X op a b t) (h1:behindInMarks op b=false:=by first | exact nobehind _ (by decide) (by decide) | rfl):PT X (.Compare a [op] [b] pos) (tB t):=by
 intro pins s σ H Q I hw
 refine wpAny_isTrue_Compare1 (thn (h pins s σ H _ I hw) fun v s1 h1=>thn h1 fun u s2 h2=>thn h2 fun c s3 z_=>z_.elim fun x z_=>z_.elim fun H1 z_=>z_.elim fun I1 z_=>z_.elim fun r1 q1=>?_) h1
 obtain⟨d,rfl,q⟩:=q1
 cases r1
 exact wpAny_truthy_bool ⟨H1,I1,q⟩
theorem cj {e:Expr}{t:TE} (h:PE X e t) (he:∀ whole,isTrue e X.env whole=(do let v <- whole; standAt e.pos; holding [v] (truthy v)):=by intro _; rfl):PT X e (tB t):=by
 intro pins s σ H Q I hw
 refine isTrue_plain (thn (h pins s σ H _ I hw) fun v s1 z_=>z_.elim fun x z_=>z_.elim fun H1 z_=>z_.elim fun I1 z_=>z_.elim fun r1 q1=>?_) (he _)
 obtain⟨d,rfl,q⟩:=q1
 cases r1
 exact wpAny_truthy_bool ⟨H1,I1,q⟩
variable {tA tB':TT}{rest:List Expr}
noncomputable def tAnd (t u:TT):TT:=fun σ H Q=>t σ H fun c H1=>if c=true then u σ H1 Q else Q false H1
noncomputable def tOr (t u:TT):TT:=fun σ H Q=>t σ H fun c H1=>if c=true then Q true H1 else u σ H1 Q
noncomputable def tNot (t:TT):TT:=fun σ H Q=>t σ H fun c H1=>Q (!c) H1
theorem cv (ha:PT X a tA):PW X (.BoolOp .And [a] pos) tA:=by
 intro wh pins s σ H Q I h
 refine isTrue_and (thn (ha pins s σ H Q I h) fun c s1 e=>?_)
 cases c with
 | true=>exact isTrue_and_nil e
 | false=>exact e
theorem dC (ha:PT X a tA):PW X (.BoolOp .Or [a] pos) tA:=by
 intro wh pins s σ H Q I h
 refine isTrue_or (thn (ha pins s σ H Q I h) fun c s1 e=>?_)
 cases c with
 | false=>exact isTrue_or_nil e
 | true=>exact e
theorem cT (ha:PT X a tA) (hb:PW X (.BoolOp .And (b::rest) pos) tB'):PW X (.BoolOp .And (a::b::rest) pos) (tAnd tA tB'):=by
 intro wh pins s σ H Q I h
 refine isTrue_and (thn (ha pins s σ H _ I h) fun c s1 z_=>z_.elim fun H1 z_=>z_.elim fun I1 q1=>?_)
 cases c with
 | true=>exact hb wh pins s1 σ H1 Q I1 q1
 | false=>exact⟨H1,I1,q1⟩
theorem dM (ha:PT X a tA) (hb:PW X (.BoolOp .Or (b::rest) pos) tB'):PW X (.BoolOp .Or (a::b::rest) pos) (tOr tA tB'):=by
 intro wh pins s σ H Q I h
 refine isTrue_or (thn (ha pins s σ H _ I h) fun c s1 z_=>z_.elim fun H1 z_=>z_.elim fun I1 q1=>?_)
 cases c with
 | true=>exact⟨H1,I1,q1⟩
 | false=>exact hb wh pins s1 σ H1 Q I1 q1
theorem d7 (ha:PT X a tA):PT X (.UnaryOp .Not a pos) (tNot tA):=by
 intro pins s σ H Q I h
 exact isTrue_not (ha pins s σ H (fun c H1=>Q (!c) H1) I h)
noncomputable def tAndV (ta tb:TE):TE:=fun σ H Q=>ta σ H fun x H1=>∃ c,x=.bl c/\if c=true then tb σ H1 Q else Q (.bl false) H1
noncomputable def tOrV (ta tb:TE):TE:=fun σ H Q=>ta σ H fun x H1=>∃ c,x=.bl c/\if c=true then Q (.bl true) H1 else tb σ H1 Q
noncomputable def tNotV (ta:TE):TE:=fun σ H Q=>ta σ H fun x H1=>∃ c,x=.bl c/\Q (.bl (!c)) H1
theorem gS {op} {t:TE} (h:PE X a t):PE X (.BoolOp op [a] pos) t:=fun pins s σ H Q I hw=>BoolOp_one (h pins s σ H Q I hw)
theorem jF (ha:PE X a ta) (hb:PE X (.BoolOp .And (b::rest) pos) tb):PE X (.BoolOp .And (a::b::rest) pos) (tAndV ta tb):=by
 intro pins s σ H Q I h
 refine BoolOp_and (thn (ha pins s σ H _ I h) fun v s1 z_=>z_.elim fun x z_=>z_.elim fun H1 z_=>z_.elim fun I1 z_=>z_.elim fun r1 q1=>?_)
 obtain⟨c,rfl,q1⟩:=q1
 cases r1
 refine wpAny_truthy_bool ?_
 cases c with
 | true=>exact hb pins s1 σ H1 Q I1 q1
 | false=>exact⟨.bl false,H1,I1,U,q1⟩
theorem pe_or (ha:PE X a ta) (hb:PE X (.BoolOp .Or (b::rest) pos) tb):PE X (.BoolOp .Or (a::b::rest) pos) (tOrV ta tb):=by
 intro pins s σ H Q I h
 refine BoolOp_or (thn (ha pins s σ H _ I h) fun v s1 z_=>z_.elim fun x z_=>z_.elim fun H1 z_=>z_.elim fun I1 z_=>z_.elim fun r1 q1=>?_)
 obtain⟨c,rfl,q1⟩:=q1
 cases r1
 refine wpAny_truthy_bool ?_
 cases c with
 | false=>exact hb pins s1 σ H1 Q I1 q1
 | true=>exact⟨.bl true,H1,I1,U,q1⟩
theorem rh (ha:PE X a ta):PE X (.UnaryOp .Not a pos) (tNotV ta):=by
 intro pins s σ H Q I h
 refine UnaryOp_ (thn (ha pins s σ H _ I h) fun v s1 z_=>z_.elim fun x z_=>z_.elim fun H1 z_=>z_.elim fun I1 z_=>z_.elim fun r1 q1=>?_)
 obtain⟨c,rfl,q1⟩:=q1
 cases r1
 exact not_of (wpAny_truthy_bool ⟨.bl (!c),H1,I1,U,q1⟩)
noncomputable def tIf (t:TT) (ta tb:TE):TE:=fun σ H Q=>t σ H fun c H1=>if c=true then ta σ H1 Q else tb σ H1 Q
theorem cV {c:Expr} (hc:PT X c tA) (ha:PE X a ta) (hb:PE X b tb):PE X (.IfExp c a b pos) (tIf tA ta tb):=by
 intro pins s σ H Q I h
 refine wpAny_IfExp (thn (hc pins s σ H _ I h) fun d s1 z_=>z_.elim fun H1 z_=>z_.elim fun I1 q1=>?_)
 cases d with
 | true=>exact ha pins s1 σ H1 Q I1 q1
 | false=>exact hb pins s1 σ H1 Q I1 q1
end
noncomputable def SqL (K:PySem.W.Frag) (H:Hp) (a:Addr) (xs:List V):Prop :=
 Rd H a (.lst xs) ∨
  ∃ (o:Obj) (its:Array Value) (n:Nat),K.lookup a=some o/\o.cls=.type "list" /\ o.dict=none/\o.data=.seq its n/\its.size<=sizeLine/\Vals xs its.toList
noncomputable def SqT (K:PySem.W.Frag) (H:Hp) (a:Addr) (xs:List V):Prop :=
 Rd H a (.tup xs) ∨
  ∃ (o:Obj) (its:Array Value) (n:Nat),K.lookup a=some o/\o.cls=.type "tuple" /\ o.data=.seq its n/\its.size<=sizeLine/\Vals xs its.toList
noncomputable def absV:Value->Option V
 | .none=>some .non
 | .bool b=>some (.bl b)
 | .int i _=>some (.int i)
 | .str x _=>some (.str x)
 | .bytes b _=>some (.byt b)
 | .float b _=>some (.flt b)
 | .ref a=>some (.ref a)
 | .type n=>some (.ty n)
 | _=>none
theorem RelV.abs {x:V}{u:Value} (r:RelV x u):absV u=some x:=by
 cases x with
 | non=>cases r; rfl
 | bl _=>cases r; rfl
 | int _=>obtain⟨t,rfl⟩:=r; rfl
 | str _=>obtain⟨t,rfl⟩:=r; rfl
 | byt _=>obtain⟨t,rfl⟩:=r; rfl
 | flt _=>obtain⟨t,rfl⟩:=r; rfl
 | ref _=>cases r; rfl
 | ty _=>cases r; rfl
theorem RelV.inj {x y:V}{u:Value} (r:RelV x u) (q:RelV y u):x=y:=Option.some.inj (r.abs.symm.trans q.abs)
theorem Vals.inj {xs ys:List V}{us:List Value} (a:Vals xs us) (b:Vals ys us):xs=ys:=by
 induction a generalizing ys with
 | nil=>cases b; rfl
 | cons r t ih=>
  cases b with
  | cons r' t'=>rw[r.inj r',ih t']
section
variable {X:Cx}{pins:List (Addr×Obj)}{σ:St}{H:Hp}{s:Shared}{a:Addr}{xs ys:List V}
theorem SqL.of {K:PySem.W.Frag} (h:H a=some (.lst xs)):SqL K H a xs:=.inl (.inl h)
theorem SqT.of {K:PySem.W.Frag} (h:H a=some (.tup xs)):SqT K H a xs:=.inl (.inl h)
theorem Inv.list (I:Inv X pins σ H s) (h:SqL X.K H a xs):∃ its:List Value,Vals xs its/\PlainL s.heap a its.toArray/\xs.length<=sizeLine:=by
 rcases h with h | ⟨o,its,n,hk,hc,hd,hs,hz,r⟩
 ·obtain⟨z,its,n,r,e⟩:=h.ok I.hok
  exact⟨its,r,⟨_,n,e,U,U,U⟩,z⟩
 ·refine⟨its.toList,r,⟨o,n,I.kIn a o hk,hc,hd,by simpa using hs⟩,?_⟩
  have e:=r.length
  simp only[Array.length_toList] at e
  omega
theorem Inv.tuple (I:Inv X pins σ H s) (h:SqT X.K H a xs):∃ its:List Value,Vals xs its/\IsTup s.heap a its.toArray/\xs.length<=sizeLine:=by
 rcases h with h | ⟨o,its,n,hk,hc,hs,hz,r⟩
 ·obtain⟨z,its,r,p⟩:=h.ok I.hok
  exact⟨its,r,p,z⟩
 ·refine⟨its.toList,r,⟨o,I.kIn a o hk,hc,n,by simpa using hs⟩,?_⟩
  have e:=r.length
  simp only[Array.length_toList] at e
  omega
theorem Inv.list_inj (I:Inv X pins σ H s) (h:SqL X.K H a xs) (h':SqL X.K H a ys):xs=ys:=by
 obtain⟨its,r,⟨o,n,e,_,_,d⟩,_⟩:=I.list h
 obtain⟨its',r',⟨o',n',e',_,_,d'⟩,_⟩:=I.list h'
 rw[e] at e'; cases e'
 rw[d] at d'
 injection d' with d1 _
 have:its=its':=by simpa using congrArg Array.toList d1
 subst this
 exact r.inj r'
theorem Inv.tuple_inj (I:Inv X pins σ H s) (h:SqT X.K H a xs) (h':SqT X.K H a ys):xs=ys:=by
 obtain⟨its,r,⟨o,e,_,n,d⟩,_⟩:=I.tuple h
 obtain⟨its',r',⟨o',e',_,n',d'⟩,_⟩:=I.tuple h'
 rw[e] at e'; cases e'
 rw[d] at d'
 injection d' with d1 _
 have:its=its':=by simpa using congrArg Array.toList d1
 subst this
 exact r.inj r'
end
noncomputable abbrev Cx.wish (X:Cx) (E:Value->Shared->Prop):Cx:={ X with xe:=E }
noncomputable abbrev Cx.nox (X:Cx):Cx:=X.wish fun _ _=>False
theorem Cx.Ok.wish {X:Cx} (ok:X.Ok) (E:Value->Shared->Prop):(X.wish E).Ok :=
 ⟨ok.mod,ok.kind,ok.glob,ok.blt,ok.above,ok.inj,ok.has,ok.cab,ok.hd,ok.frames,ok.stk,ok.exf,ok.bs,ok.bsz,ok.noex,ok.exfs,ok.funs,ok.frf⟩
theorem Cx.Ok.unwish {X:Cx}{E:Value->Shared->Prop} (ok:(X.wish E).Ok):X.Ok :=
 ⟨ok.mod,ok.kind,ok.glob,ok.blt,ok.above,ok.inj,ok.has,ok.cab,ok.hd,ok.frames,ok.stk,ok.exf,ok.bs,ok.bsz,ok.noex,ok.exfs,ok.funs,ok.frf⟩
section
variable {X:Cx}{pins:List (Addr×Obj)}{σ:St}{H:Hp}{s:Shared}{E:Value->Shared->Prop}
theorem Inv.wish (I:Inv X pins σ H s) (E:Value->Shared->Prop):Inv (X.wish E) pins σ H s:=⟨I.ok.wish E,I.os,I.bare,I.base,I.loc,I.cell,I.free,I.freeC,I.pin,I.hok,I.len⟩
theorem Inv.unwish (I:Inv (X.wish E) pins σ H s):Inv X pins σ H s:=⟨I.ok.unwish,I.os,I.bare,I.base,I.loc,I.cell,I.free,I.freeC,I.pin,I.hok,I.len⟩
theorem SP.unwish {D:Ends}{f:Flow}{s':Shared} (h:SP (X.wish E) pins D f s'):SP X pins D f s':=by
 cases f with
 | next=>obtain⟨σ',H',I,q⟩:=h; exact⟨σ',H',I.unwish,q⟩
 | brk=>obtain⟨σ',H',I,q⟩:=h; exact⟨σ',H',I.unwish,q⟩
 | cont=>obtain⟨σ',H',I,q⟩:=h; exact⟨σ',H',I.unwish,q⟩
 | ret u=>obtain⟨v,σ',H',I,r,q⟩:=h; exact⟨v,σ',H',I.unwish,r,q⟩
theorem PSs.nox {st:List Stmt}{t:TS} (h:PSs X.nox st t):PSs X st t:=fun pins s σ H D I hw=>
 wpAny_mono (h pins s σ H D (I.wish _) hw) (fun _ _ q=>q.unwish) fun _ _ z=>False.elim z
end
section
variable {X:Cx}{st:Stmt}{rest:List Stmt}{t u:TS}{e:Expr}{te:TE}{pos:Pos}
noncomputable def tNext:TS:=fun D σ H=>D.nx σ H
noncomputable def qI (t u:TS):TS:=fun D σ H=>t { D with nx:=u D } σ H
theorem ak:PSs X [] tNext:=fun _ _ σ H _ I h=>wpAny_execs_nil ⟨σ,H,I,h⟩
theorem ab (h1:PS X st t) (h2:PSs X rest u):PSs X (st::rest) (qI t u):=by
 intro pins s σ H D I h
 refine wpAny_execs_cons (thn (h1 pins s σ H { D with nx:=u D } I h) fun f s1 q=>?_)
 cases f with
 | next=>
  obtain⟨σ',H',I',q⟩:=q
  exact h2 pins s1 σ' H' D I' q
 | ret v=>exact q
 | brk=>exact q
 | cont=>exact q
theorem af (h1:PS X st t):PSs X [st] t:=by
 intro pins s σ H D I h
 refine wpAny_execs_cons (thn (h1 pins s σ H D I h) fun f s1 q=>?_)
 cases f with
 | next=>exact wpAny_execs_nil q
 | ret v=>exact q
 | brk=>exact q
 | cont=>exact q
noncomputable def qQ:TS:=fun D σ H=>D.bk σ H
theorem iK:PS X (.Break pos) qQ:=fun _ _ σ H _ I h=>wpAny_Break ⟨σ,H,I,h⟩
theorem Inv.quiet {pins:List (Addr×Obj)}{σ:St}{H:Hp}{s:Shared} (I:Inv X pins σ H s):interactive X.env=false:=by simp[interactive,I.ok.kind]
noncomputable def qf (te:TE):TS:=fun D σ H=>te σ H fun _ H1=>D.nx σ H1
theorem al (he:PE X e te) (hs:swapsWith e none pos.line X.env=pure false:=by rfl):PS X (.Expr e pos) (qf te):=by
 intro pins s σ H D I h
 exact wpAny_Expr_any (thn (he pins s σ H _ I h) fun v s1 z_=>z_.elim fun x z_=>z_.elim fun H1 z_=>z_.elim fun I1 z_=>z_.elim fun r1 q1=>⟨σ,H1,I1,q1⟩) I.quiet hs
noncomputable def sw (te:TE):TS:=fun D σ H=>te σ H D.rt
theorem ao (he:PE X e te):PS X (.Return (some e) pos) (sw te):=by
 intro pins s σ H D I h
 exact wpAny_Return_some (thn (he pins s σ H _ I h) fun v s1 z_=>z_.elim fun x z_=>z_.elim fun H1 z_=>z_.elim fun I1 z_=>z_.elim fun r1 q1=>⟨x,σ,H1,I1,r1,q1⟩)
noncomputable def tIfS (c:TT) (t u:TS):TS:=fun D σ H=>c σ H fun b H1=>if b=true then t D σ H1 else u D σ H1
theorem av {c:Expr}{a b:List Stmt}{tc:TT} (hc:PT X c tc) (ha:PSs X a t) (hb:PSs X b u):PS X (.If c a b pos) (tIfS tc t u):=by
 intro pins s σ H D I h
 refine wpAny_If (thn (hc pins s σ H _ I h) fun d s1 z_=>z_.elim fun H1 z_=>z_.elim fun I1 q1=>?_)
 cases d with
 | true=>exact ha pins s1 σ H1 D I1 q1
 | false=>exact hb pins s1 σ H1 D I1 q1
noncomputable def qJ:TS:=fun _ _ _=>False
theorem bz:PS X st qJ:=fun _ _ _ _ _ _ h=>h.elim
end
noncomputable abbrev TG:=V->St->Hp->(St->Hp->Prop)->Prop
noncomputable abbrev TGs:=List V->St->Hp->(St->Hp->Prop)->Prop
noncomputable def PG (X:Cx) (target:Expr) (t:TG):Prop :=
 ∀ (pins:List (Addr×Obj)) (s:Shared) (σ:St) (H:Hp) (v:V) (u:Value) (Q:St->Hp->Prop),Inv X pins σ H s->RelV v u->t v σ H Q ->
  wpAny (model X.prog X.w) X.A (assign target X.env u) (fun _ s'=>∃ σ' H',Inv X pins σ' H' s'/\Q σ' H') X.xe s
noncomputable def PGs (X:Cx) (ts:List Expr) (t:TGs):Prop :=
 ∀ (pins:List (Addr×Obj)) (s:Shared) (σ:St) (H:Hp) (vs:List V) (us:List Value) (Q:St->Hp->Prop),Inv X pins σ H s->Vals vs us->t vs σ H Q ->
  wpAny (model X.prog X.w) X.A (assignInOrder ((assignEach ts X.env).map (·.2)) us) (fun _ s'=>∃ σ' H',Inv X pins σ' H' s'/\Q σ' H') X.xe s
noncomputable abbrev sq:=V->V->V->Hp->(Hp->Prop)->Prop
noncomputable def tV (X:Cx) (t:sq):Prop :=
 ∀ (pins:List (Addr×Obj)) (s:Shared) (σ:St) (H:Hp) (o i v:V) (ov iv u:Value) (Q:Hp->Prop),Inv X pins σ H s->RelV o ov->RelV i iv->RelV v u->t o i v H Q ->
  wpAny (model X.prog X.w) X.A (setItem ov iv u) (fun _ s'=>∃ H',Inv X pins σ H' s'/\Q H') X.xe s
noncomputable abbrev TIp:=V->V->Hp->VK->Prop
noncomputable def PIp (X:Cx) (op:Operator) (t:TIp):Prop :=
 ∀ (pins:List (Addr×Obj)) (s:Shared) (σ:St) (H:Hp) (x y:V) (v u:Value) (Q:VK),Inv X pins σ H s->RelV x v->RelV y u->t x y H Q ->
  wpAny (model X.prog X.w) X.A (inplaceOp op v u) (EP X pins σ Q) X.xe s
section
variable {X:Cx}{pos:Pos}
noncomputable def kK (i:Nat):TG:=fun v σ H Q=>Q (σ.set i (some v)) H
theorem ar {i:Nat}{x:Str} (hN:X.N.Nodup) (hi:X.N[i]?=some x) (hx:Loc X.env.scope x) (hf:X.fn x=true∨X.env.scope.names.lookup x=some .local:=by first | exact .inl rfl | exact .inr rfl | assumption):PG X (.Name x pos) (kK i):=by
 intro pins s σ H v u Q I r h
 exact wpAny_assign_Name (fh I hN hi hx r (fun s' I'=>⟨_,H,I',h⟩) hf)
noncomputable def gNil:TGs:=fun vs σ H Q=>vs=[]/\Q σ H
noncomputable def gCons (t:TG) (u:TGs):TGs:=fun vs σ H Q=>∃ v r,vs=v::r/\t v σ H fun σ' H'=>u r σ' H' Q
theorem bX:PGs X [] gNil:=by
 intro pins s σ H vs us Q I r h
 obtain⟨e,h⟩:=h
 subst e
 cases r
 exact assignInOrder_nil ⟨σ,H,I,h⟩
theorem az {e:Expr}{es:List Expr}{t:TG}{u:TGs} (h1:PG X e t) (h2:PGs X es u)
  (hs:(assignEach (e::es) X.env).map (·.2)=assign e X.env::(assignEach es X.env).map (·.2):=by rfl):PGs X (e::es) (gCons t u):=by
 intro pins s σ H vs us Q I r h
 obtain⟨v,vr,e1,h⟩:=h
 subst e1
 cases r with
 | cons r rr=>
  rw[hs]
  refine assignInOrder_cons (thn (h1 pins s σ H _ _ _ I r h) fun _ s1 z_=>z_.elim fun σ1 z_=>z_.elim fun H1 z_=>z_.elim fun I1 q1=>?_)
  exact h2 pins s1 σ1 H1 _ _ Q I1 rr q1
noncomputable def gTup (K:PySem.W.Frag) (n:Nat) (t:TGs):TG:=fun v σ H Q=>∃ a xs,v=.ref a/\SqT K H a xs/\xs.length=n/\t xs σ H Q
theorem cA {es:List Expr}{k:Nat}{t:TGs}{n:Nat} (hc:X.calm=true) (h:PGs X es t)
  (hn:(assignEach es X.env).length=n:=by rfl) (hst:(assignEach es X.env).findIdx? (·.1)=none:=by rfl):PG X (.Tuple es k pos) (gTup X.K n t):=by
 intro pins s σ H v u Q I r hw
 obtain⟨a,xs,e1,hq,hl,hw⟩:=hw
 subst e1
 cases r
 obtain⟨its,rv,ht,hz⟩:=I.tuple hq
 refine assign_Tuple_tuple (I.ok.hd hc) ht (by simp[hn,<- hl,rv.length]) hst fun h' hx=>?_
 have I1:Inv X pins σ H { s with heap:=h' }:=I.kept (t':=s.toks) fun b o e=>hx b o (Nat.ne_of_lt (Heap.lt_size e)) e
 exact h pins _ σ H xs _ Q I1 (by simpa using rv) hw
noncomputable def gSub (to ti:TE) (t:sq):TG:=fun v σ H Q=>to σ H fun o H1=>ti σ H1 fun i H2=>t o i v H2 fun H3=>Q σ H3
theorem fu {o i:Expr}{to ti:TE}{t:sq} (ho:PE X o to) (hi:PE X i ti) (hs:tV X t)
  (ha:∀ v,assign (.Subscript o i pos) X.env v=(do
   let ov <- holding [v] (eval o X.env)
   let iv <- holding [v,ov] (eval i X.env)
   standAt pos
   holding [v,ov,iv] (setItem ov iv v)
   release [v,ov,iv] []):=by intro _; rfl):PG X (.Subscript o i pos) (gSub to ti t):=by
 intro pins s σ H v u Q I r h
 rw[ha]
 refine wpAny_bind (wpAny_holding (thn (ho pins s σ H _ I h) fun ov s1 z_=>z_.elim fun x z_=>z_.elim fun H1 z_=>z_.elim fun I1 z_=>z_.elim fun r1 q1=>?_))
 refine wpAny_bind (wpAny_holding (thn (hi pins s1 σ H1 _ I1 q1) fun iv s2 z_=>z_.elim fun y z_=>z_.elim fun H2 z_=>z_.elim fun I2 z_=>z_.elim fun r2 q2=>?_))
 refine wpAny_bind (wpAny_standAt (wpAny_bind (wpAny_holding (thn (hs pins s2 σ H2 x y v ov iv u _ I2 r1 r2 r q2) fun _ s3 z_=>z_.elim fun H3 z_=>z_.elim fun I3 q3=>?_))))
 exact wpAny_release ⟨σ,H3,I3,q3⟩
noncomputable def qR (te:TE) (g:TG):TS:=fun D σ H=>te σ H fun x H1=>g x σ H1 D.nx
theorem bO {tg e:Expr}{te:TE}{g:TG} (he:PE X e te) (hg:PG X tg g) (hs:swapsWithSole [tg] e pos.line X.env=pure false:=by rfl) (hw:swappedStores [tg] e X.env=pure none:=by rfl)
  (h1:(assignEach [tg] X.env).map (·.2)=[assign tg X.env]:=by rfl):PS X (.Assign [tg] e pos) (qR te g):=by
 intro pins s σ H D I h
 refine wpAny_Assign_stores (thn (he pins s σ H _ I h) fun v s1 z_=>z_.elim fun x z_=>z_.elim fun H1 z_=>z_.elim fun I1 z_=>z_.elim fun r1 q1=>?_) hs hw
 rw[h1]
 exact thn (hg pins s1 σ H1 x v _ I1 r1 q1) fun _ s2 q=>q
theorem am {i:Nat}{x:Str}{e:Expr}{te:TE}{pos':Pos} (hN:X.N.Nodup) (hi:X.N[i]?=some x) (hx:Loc X.env.scope x) (he:PE X e te) (hs:swapsWith e (some (.Name x pos')) pos.line X.env=pure false:=by rfl) (hf:X.fn x=true∨X.env.scope.names.lookup x=some .local:=by first | exact .inl rfl | exact .inr rfl | assumption) :
  PS X (.Assign [.Name x pos'] e pos) (qR te (kK i)):=by
 intro pins s σ H D I h
 refine wpAny_Assign_Name (thn (he pins s σ H _ I h) fun v s1 z_=>z_.elim fun y z_=>z_.elim fun H1 z_=>z_.elim fun I1 z_=>z_.elim fun r1 q1=>?_) hs
 exact fh I1 hN hi hx r1 (fun s2 I2=>⟨_,H1,I2,q1⟩) hf
noncomputable def tAug (i:Nat) (te:TE) (ti:TIp):TS:=fun D σ H=>∃ x,σ[i]?=some (some x)/\te σ H fun y H1=>ti x y H1 fun z H2=>D.nx (σ.set i (some z)) H2
theorem ft {i:Nat}{x:Str}{e:Expr}{te:TE}{op:Operator}{ti:TIp}{pos':Pos} (hN:X.N.Nodup) (hi:X.N[i]?=some x) (hx:Loc X.env.scope x) (he:PE X e te) (ho:PIp X op ti) (hf:X.fn x=true∨X.env.scope.names.lookup x=some .local:=by first | exact .inl rfl | exact .inr rfl | assumption) :
  PS X (.AugAssign (.Name x pos') op e pos) (tAug i te ti):=by
 intro pins s σ H D I h
 obtain⟨v,e1,h⟩:=h
 obtain⟨m,hn,hl⟩:=I.loc
 have vis:Vis X.env.scope x:=by rcases hx with k | k; exact .inl k; exact .inr (.inl k)
 obtain⟨u,r,l⟩:=hl i x v hi e1 vis
 refine wpAny_AugAssign_Name ?_
 have go:wpAny (model X.prog X.w) X.A (eval e X.env) (fun w s₂=>wpAny (model X.prog X.w) X.A (inplaceOp op u w) (fun r s₃=>wpAny (model X.prog X.w) X.A (storeName X.env x r) (fun _=>SP X pins D .next) X.xe s₃) X.xe s₂) X.xe s:=by
  refine thn (he pins s σ H _ I h) fun w s1 z_=>z_.elim fun y z_=>z_.elim fun H1 z_=>z_.elim fun I1 z_=>z_.elim fun r1 q1=>?_
  refine thn (ho pins s1 σ H1 v y u w _ I1 r r1 q1) fun z s2 z_=>z_.elim fun zv z_=>z_.elim fun H2 z_=>z_.elim fun I2 z_=>z_.elim fun r2 q2=>?_
  exact fh I2 hN hi hx r2 (fun s3 I3=>⟨_,H2,I3,q2⟩) hf
 rcases l with ⟨hk,hm⟩ | ⟨hk,c,hc,hcell⟩
 ·exact wpAny_loadName_local I.ok.kind hk hn hm go
 ·rcases hk with hk | hk
  ·exact wpAny_loadName_cell I.ok.kind hk hc hcell go
  ·rcases hx with k | k
   ·have:X.env.scope.names.lookup x=some .free:=hk
    rw[k] at this; cases this
   ·have:X.env.scope.names.lookup x=some .free:=hk
    rw[k] at this; cases this
noncomputable def ipI (f:Int->Int->Int):TIp:=fun x y H Q=>∃ i j,x=.int i/\y=.int j/\Q (.int (f i j)) H
theorem fL:PIp X .Add (ipI fun i j=>i+j):=by
 intro pins s σ H x y v u Q I r1 r2 h
 obtain⟨i,j,e1,e2,q⟩:=h
 subst e1; subst e2
 obtain⟨t,rfl⟩:=r1
 obtain⟨t',rfl⟩:=r2
 exact iadd_int ⟨.int _,H,I.tok _,⟨_,U⟩,q⟩
end
section
variable {X:Cx}{pos:Pos}
noncomputable def l7 (c:TT) (tb:TS):TS:=fun D σ H=>∃ W:Nat->St->Hp->Prop,(∃ m,W m σ H)/\∀ m σ H,W m σ H ->
 c σ H fun b H1=>if b=true then ∃ N:St->Hp->Prop,(∀ σ' H',N σ' H'->∃ m',m'<m/\W m' σ' H')/\tb { D with nx:=N,ct:=N,bk:=D.nx } σ H1 else D.nx σ H1
theorem cm {c:Expr}{body:List Stmt}{tc:TT}{tb:TS} (hp:PassesOwn (model X.prog X.w) X.A X.env X.xe) (hc:PT X c tc) (hb:PSs X body tb):PS X (.While c body [] pos) (l7 tc tb):=by
 intro pins s σ H D I h
 obtain⟨W,⟨m0,w0⟩,turn⟩:=h
 refine wpAny_While (codeAny_whileLoop (fun n s'=>∃ σ' H',Inv X pins σ' H' s'/\W n σ' H') ?_ m0 ⟨σ,H,I,w0⟩)
 rintro n s1 ⟨σ1,H1,I1,w1⟩
 refine wpAny_passesOwn hp (thn (hc pins s1 σ1 H1 _ I1 (turn n σ1 H1 w1)) fun b s2 z_=>z_.elim fun H2 z_=>z_.elim fun I2 q2=>?_)
 cases b with
 | true=>
  obtain⟨N,hN,q2⟩:=q2
  rw[if_pos rfl]
  refine wpAny_passesOwn hp (thn (hb pins s2 σ1 H2 _ I2 q2) fun f s3 q3=>?_)
  cases f with
  | next=>
   obtain⟨σ3,H3,I3,n3⟩:=q3
   obtain⟨m',hm,w3⟩:=hN σ3 H3 n3
   exact⟨m',hm,σ3,H3,I3,w3⟩
  | cont=>
   obtain⟨σ3,H3,I3,n3⟩:=q3
   obtain⟨m',hm,w3⟩:=hN σ3 H3 n3
   exact⟨m',hm,σ3,H3,I3,w3⟩
  | brk=>exact q3
  | ret v=>exact q3
 | false=>
  rw[if_neg Bool.false_ne_true]
  exact wpAny_execs_nil ⟨σ1,H2,I2,q2⟩
end
structure It where
 go:Nat->Hp->Prop
 yld:Nat->Hp->V->Hp->Prop
 stop:Nat->Hp->Prop
noncomputable def ju (X:Cx) (pins:List (Addr×Obj)) (H:Hp) (b:Addr):Prop :=
 H b=none/\b≠X.env.locals/\b ∉ X.fs/\(b ∈ X.ex∨X.s₀.heap.objs.size<=b)/\(∀ x c,X.env.cells.lookup x=some c->c≠b)/\∀ p ∈ X.pn++pins,p.1≠b
theorem Inv.fpOk {X:Cx}{pins:List (Addr×Obj)}{σ:St}{H H':Hp}{s:Shared}{b:Addr} (I:Inv X pins σ H s) (hb:s.heap.objs.size<=b) (hn:H' b=none):ju X pins H' b:=by
 refine⟨hn,Nat.ne_of_gt (Nat.lt_of_lt_of_le I.lt hb),I.nofs hb,.inr (Nat.le_trans I.sz hb),fun x c e z=>?_,fun p hp z=>?_⟩
 ·obtain⟨v,q⟩:=I.cell x c e
  exact absurd (Nat.lt_of_lt_of_le q.lt (by rw[z]; exact hb)) (Nat.lt_irrefl _)
 ·exact absurd (Nat.lt_of_lt_of_le (Heap.lt_size (I.pin p hp).1) (by rw[z]; exact hb)) (Nat.lt_irrefl _)
structure Turn (P:Program) (w:World) (K:PySem.W.Frag) (tg:Expr) (J:It) (fp:List Addr) (it:Addr) (tn:Nat->Heap->Prop):Prop where
 mem:it ∈ fp
 obj:∀ i h,tn i h->∀ b ∈ fp,∃ o,h.get? b=some o/\∀ v,o.data≠.cell v
 keep:∀ i h h',tn i h->(∀ b ∈ fp,∀ o,h.get? b=some o->h'.get? b=some o)->tn i h'
 item:∀ (X:Cx),X.prog=P->X.w=w->X.K=K->X.calm=true->∀ (i:Nat) (pins:List (Addr×Obj)) (s:Shared) (σ:St) (H:Hp) (E:Value->Shared->Prop),Inv X pins σ H s->(∀ b ∈ fp,ju X pins H b)->tn i s.heap->J.go i H ->
  wpAny (model P w) X.A (pyNext (.ref it)) (fun r s1=>∃ u,r=some u /\
   wpAny (model P w) X.A (letOwnedTupleGo tg (.ref it) u) (fun _ s2=>∃ x H',Inv X pins σ H' s2/\RelV x u/\J.yld i H x H'/\tn (i+1) s2.heap/\∀ b ∈ fp,H' b=none) E s1) E s
 done:∀ (X:Cx),X.prog=P->X.w=w->X.K=K->X.calm=true->∀ (i:Nat) (pins:List (Addr×Obj)) (s:Shared) (σ:St) (H:Hp) (E:Value->Shared->Prop),Inv X pins σ H s->(∀ b ∈ fp,ju X pins H b)->tn i s.heap->J.stop i H ->
  wpAny (model P w) X.A (pyNext (.ref it)) (fun r s1=>r=none/\Inv X pins σ H s1) E s
 self:∀ (A:Around) (i:Nat) (s:Shared) (Q:Value->Shared->Prop) (E:Value->Shared->Prop),tn i s.heap->Q (.ref it) s->wpAny (model P w) A (pyIter (.ref it)) Q E s
noncomputable abbrev TI:=St->Hp->(It->Hp->Prop)->Prop
noncomputable def PIE (X:Cx) (pins:List (Addr×Obj)) (σ:St) (tg:Expr) (R:It->Hp->Prop) (itv:Value) (s2:Shared):Prop :=
 ∃ (it:Addr) (fp:List Addr) (tn:Nat->Heap->Prop) (J:It) (H':Hp),itv=.ref it/\Inv X pins σ H' s2/\Turn X.prog X.w X.K tg J fp it tn/\tn 0 s2.heap/\(∀ b ∈ fp,ju X pins H' b)/\R J H'
noncomputable def PI (X:Cx) (tg iter:Expr) (wi:TI):Prop :=
 ∀ (pins:List (Addr×Obj)) (s:Shared) (σ:St) (H:Hp) (R:It->Hp->Prop),Inv X pins σ H s->wi σ H R ->
  wpAny (model X.prog X.w) X.A (eval iter X.env) (fun v s1=>wpAny (model X.prog X.w) X.A (pyIter v) (PIE X pins σ tg R) X.xe s1) X.xe s
theorem nX {M : Model}{A : Around}{E : Value->Shared->Prop}{s : Shared}{tg : Expr}{it : Addr}{u : Value}{o : Obj}{n : String}{vs : Array Value}{Q : Unit->Shared->Prop} (ho : s.heap.get? it=some o) (hc : o.cls=.type n) (hd : o.data=.fields vs)
    (hn : ["enumerate", "zip", "dict_itemiterator", "dict_reverseitemiterator", "odict_iterator", "itertools.zip_longest", "itertools.pairwise"].contains n=false) (hQ : Q () s) : wpAny M A (letOwnedTupleGo tg (.ref it) u) Q E s := by
  unfold letOwnedTupleGo
  cases tg <;> first
    | exact wpAny_pure hQ
    | (cases u <;> first
        | exact wpAny_pure hQ
        | (refine wpAny_bind (wpAny_load ho ?_)
           rw[hc, hd]
           show wpAny M A (if (["enumerate", "zip", "dict_itemiterator", "dict_reverseitemiterator", "odict_iterator", "itertools.zip_longest", "itertools.pairwise"].contains n && vs[0]? == some (rawInt _))=true then _ else _) Q E s
           rw[if_neg (by intro h; rw[hn, Bool.false_and] at h; cases h)]
           exact wpAny_pure hQ))
noncomputable def Itl (K:PySem.W.Frag) (a:Addr):It :=
 ⟨fun i H=>∃ xs x,SqL K H a xs/\xs[i]?=some x,fun i H x H'=>H'=H/\∀ xs,SqL K H a xs->xs[i]?=some x,fun i H=>∃ xs,SqL K H a xs/\xs.length<=i⟩
noncomputable def Itt (K:PySem.W.Frag) (a:Addr):It :=
 ⟨fun i H=>∃ xs x,SqT K H a xs/\xs[i]?=some x,fun i H x H'=>H'=H/\∀ xs,SqT K H a xs->xs[i]?=some x,fun i H=>∃ xs,SqT K H a xs/\xs.length<=i⟩
noncomputable def Itr (lo:Int) (n:Nat):It:=⟨fun i _=>i<n,fun i H x H'=>H'=H/\x=.int (lo+i),fun i _=>n<=i⟩
theorem kY {P:Program}{w:World}{K:PySem.W.Frag}{tg:Expr} (a it:Addr):Turn P w K tg (Itl K a) [it] it (fun i h=>h.IsListIter it a i) where
 mem:=by simp
 obj:=fun i h st b hb=>by
  have e:b=it:=by simpa using hb
  subst e
  obtain⟨o,e,c,d⟩:=st
  exact⟨o,e,fun v z=>by rw[d] at z; cases z⟩
 keep:=fun i h h' st k=>st.at fun o e=>k it (by simp) o e
 item:=by
  intro X hP hw hK hc i pins s σ H E I hf st hg
  subst hP hw hK
  obtain⟨xs,x,hq,hx⟩:=hg
  obtain⟨its,rv,p,hz⟩:=I.list hq
  obtain⟨u,hu,ru⟩:=rv.get hx
  obtain⟨f0,f1,f2,f3,f4,f5⟩:=hf it (by simp)
  refine wpAny_pyNext_list_item st p.isList (x:=u) (by simpa using hu) fun h' st' sb=>?_
  have I1:Inv X pins σ H { s with heap:=h' }:=I.turned (t':=s.toks) (fun b o hb e=>(sb.2 b hb).trans e) f0 f1 f3 f4 f5
  obtain⟨o,e,c,d⟩:=id st'
  exact⟨u,U,nX (s:={ s with heap:=h' }) e c d (by decide) ⟨x,H,I1,ru,⟨U,fun ys hy=>by rw[I.list_inj hy hq]; exact hx⟩,st',fun b hb=>(hf b hb).1⟩⟩
 done:=by
  intro X hP hw hK hc i pins s σ H E I hf st hg
  subst hP hw hK
  obtain⟨xs,hq,hx⟩:=hg
  obtain⟨its,rv,p,hz⟩:=I.list hq
  obtain⟨f0,f1,f2,f3,f4,f5⟩:=hf it (by simp)
  have hl:=rv.length
  exact wpAny_pyNext_list_end (I.ok.hd hc) st p.isList (by simp; omega) fun h' eb=>⟨U,I.turned (t':=s.toks) (fun b o hb e=>eb b o hb e) f0 f1 f3 f4 f5⟩
 self:=fun _ _ _ _ _ st h=>wpAny_pyIter_listiter st h
theorem jx {P:Program}{w:World}{K:PySem.W.Frag}{tg:Expr} (a it:Addr):Turn P w K tg (Itt K a) [it] it (fun i h=>h.IsTupleIter it a i) where
 mem:=by simp
 obj:=fun i h st b hb=>by
  have e:b=it:=by simpa using hb
  subst e
  obtain⟨o,e,c,d⟩:=st
  exact⟨o,e,fun v z=>by rw[d] at z; cases z⟩
 keep:=fun i h h' st k=>st.at fun o e=>k it (by simp) o e
 item:=by
  intro X hP hw hK hc i pins s σ H E I hf st hg
  subst hP hw hK
  obtain⟨xs,x,hq,hx⟩:=hg
  obtain⟨its,rv,p,hz⟩:=I.tuple hq
  obtain⟨u,hu,ru⟩:=rv.get hx
  obtain⟨f0,f1,f2,f3,f4,f5⟩:=hf it (by simp)
  refine wpAny_pyNext_tuple_item st (show s.heap.IsTuple a its.toArray from p) (x:=u) (by simpa using hu) fun h' st' sb=>?_
  have I1:Inv X pins σ H { s with heap:=h' }:=I.turned (t':=s.toks) (fun b o hb e=>(sb.2 b hb).trans e) f0 f1 f3 f4 f5
  obtain⟨o,e,c,d⟩:=id st'
  exact⟨u,U,nX (s:={ s with heap:=h' }) e c d (by decide) ⟨x,H,I1,ru,⟨U,fun ys hy=>by rw[I.tuple_inj hy hq]; exact hx⟩,st',fun b hb=>(hf b hb).1⟩⟩
 done:=by
  intro X hP hw hK hc i pins s σ H E I hf st hg
  subst hP hw hK
  obtain⟨xs,hq,hx⟩:=hg
  obtain⟨its,rv,p,hz⟩:=I.tuple hq
  obtain⟨f0,f1,f2,f3,f4,f5⟩:=hf it (by simp)
  have hl:=rv.length
  exact wpAny_pyNext_tuple_end (I.ok.hd hc) st (show s.heap.IsTuple a its.toArray from p) (by simp; omega) fun h' eb=>⟨U,I.turned (t':=s.toks) (fun b o hb e=>eb b o hb e) f0 f1 f3 f4 f5⟩
 self:=fun _ _ _ _ _ st h=>wpAny_pyIter_tupleiter st h
theorem jy {P:Program}{w:World}{K:PySem.W.Frag}{tg:Expr} (it:Addr) (lo:Int) (n:Nat):Turn P w K tg (Itr lo n) [it] it (fun i h=>IsRangeIter h it (lo+(i:Nat)*1) ((n:Int) - (i:Nat)) 1) where
 mem:=by simp
 obj:=fun i h st b hb=>by
  have e:b=it:=by simpa using hb
  subst e
  exact⟨_,st,fun v z=>by
   have z':Data.fields _=Data.cell v:=z
   cases z'⟩
 keep:=fun i h h' st k=>k it (by simp) _ st
 item:=by
  intro X hP hw hK hc i pins s σ H E I hf st hg
  subst hP hw hK
  obtain⟨f0,f1,f2,f3,f4,f5⟩:=hf it (by simp)
  have W:=Walks.range (prog:=X.prog) (w:=X.w) (I.ok.hd hc) it lo 1 n
  refine W.item i s _ _ hg st fun v h' tk hv st' kk=>?_
  obtain⟨t,rfl⟩:=hv
  have I1:Inv X pins σ H { s with heap:=h',toks:=tk }:=I.turned (fun b o hb e=>kk b o (by simpa using hb) e) f0 f1 f3 f4 f5
  refine⟨_,U,nX (s:={ s with heap:=h',toks:=tk }) (n := "range_iterator") st' rfl rfl (by decide) ⟨.int (lo+i),H,I1,⟨t,?_⟩,⟨U,U⟩,st',fun b hb=>(hf b hb).1⟩⟩
  rw[Int.mul_one]
 done:=by
  intro X hP hw hK hc i pins s σ H E I hf st hg
  subst hP hw hK
  obtain⟨f0,f1,f2,f3,f4,f5⟩:=hf it (by simp)
  exact wpAny_pyNext_range_end (I.ok.hd hc) st (by have:n<=i:=hg; omega) fun h' eb=>⟨U,I.turned (t':=s.toks) (fun b o hb e=>eb b o hb e) f0 f1 f3 f4 f5⟩
 self:=fun _ _ _ _ _ st h=>wpAny_pyIter_rangeiter st h
section
variable {X:Cx}{tg:Expr}
noncomputable def iList (K:PySem.W.Frag) (tl:TE):TI:=fun σ H R=>tl σ H fun x H1=>∃ a,x=.ref a/\(∃ xs,SqL K H1 a xs)/\R (Itl K a) H1
noncomputable def iTup (K:PySem.W.Frag) (tl:TE):TI:=fun σ H R=>tl σ H fun x H1=>∃ a,x=.ref a/\(∃ xs,SqT K H1 a xs)/\R (Itt K a) H1
theorem gR {l:Expr}{tl:TE} (hl:PE X l tl):PI X tg l (iList X.K tl):=by
 intro pins s σ H R I h
 refine thn (hl pins s σ H _ I h) fun v s1 z_=>z_.elim fun x z_=>z_.elim fun H1 z_=>z_.elim fun I1 z_=>z_.elim fun r1 q1=>?_
 obtain⟨a,e,⟨xs,hq⟩,q⟩:=q1
 subst e
 cases r1
 obtain⟨its,rv,p,hz⟩:=I1.list hq
 refine wpAny_pyIter_list p.isList ?_
 refine⟨s1.heap.objs.size,[s1.heap.objs.size],_,_,H1,U,I1.kept (t':=s1.toks) fun b o e=>Heap.get?_push_of_some _ e,kY a _,⟨_,Heap.get?_push_size _ rfl,U,U⟩,fun b hb=>?_,q⟩
 have e:b=s1.heap.objs.size:=by simpa using hb
 subst e
 exact I1.fpOk (Nat.le_refl _) (I1.hok.fresh (Nat.le_refl _))
theorem rc {l:Expr}{tl:TE} (hl:PE X l tl):PI X tg l (iTup X.K tl):=by
 intro pins s σ H R I h
 refine thn (hl pins s σ H _ I h) fun v s1 z_=>z_.elim fun x z_=>z_.elim fun H1 z_=>z_.elim fun I1 z_=>z_.elim fun r1 q1=>?_
 obtain⟨a,e,⟨xs,hq⟩,q⟩:=q1
 subst e
 cases r1
 obtain⟨its,rv,p,hz⟩:=I1.tuple hq
 refine wpAny_pyIter_tuple (show s1.heap.IsTuple a its.toArray from p) ?_
 refine⟨s1.heap.objs.size,[s1.heap.objs.size],_,_,H1,U,I1.kept (t':=s1.toks) fun b o e=>Heap.get?_push_of_some _ e,jx a _,⟨_,Heap.get?_push_size _ rfl,U,U⟩,fun b hb=>?_,q⟩
 have e:b=s1.heap.objs.size:=by simpa using hb
 subst e
 exact I1.fpOk (Nat.le_refl _) (I1.hok.fresh (Nat.le_refl _))
theorem ng {pins:List (Addr×Obj)}{σ:St}{H:Hp}{s:Shared}{R:It->Hp->Prop}{E:Value->Shared->Prop}{lo hi:Int}{t u v:Tok}{tk:Nat} (I:Inv X pins σ H s) (h1:-(2 ^ 62)<=lo) (h2:lo<2 ^ 62) (h3:-(2 ^ 62)<=hi) (h4:hi<2 ^ 62)
  (q:R (Itr lo (hi - lo).toNat) H):wpAny (model X.prog X.w) X.A (pyIter (.ref s.heap.objs.size)) (PIE X pins σ tg R) E { s with heap:=s.heap.push { cls:=.type "range",data:=.fields #[.int lo t,.int hi u,.int 1 v] },toks:=tk }:=by
 refine wpAny_pyIter_range (IsRange.new ..) (small_one h1 h2 h3 h4) ?_
 have I1:Inv X pins σ H { s with heap:=s.heap.push { cls:=.type "range",data:=.fields #[.int lo t,.int hi u,.int 1 v] },toks:=tk }:=I.kept fun b o e=>Heap.get?_push_of_some _ e
 refine⟨(s.heap.push { cls:=.type "range",data:=.fields #[.int lo t,.int hi u,.int 1 v] }).objs.size,[(s.heap.push { cls:=.type "range",data:=.fields #[.int lo t,.int hi u,.int 1 v] }).objs.size],_,_,H,U,
  I1.kept (t':=tk) fun b o e=>Heap.get?_push_of_some _ e,jy _ lo (hi - lo).toNat,?_,fun b hb=>?_,q⟩
 ·have e1:lo+((0:Nat):Int)*1=lo:=by simp
  have e2:(((hi - lo).toNat:Nat):Int) - ((0:Nat):Int)=Builtin.Range.rangeSize lo hi 1:=by rw[rangeSize_one]; split <;> omega
  show IsRangeIter _ _ (lo+((0:Nat):Int)*1) ((((hi - lo).toNat:Nat):Int) - ((0:Nat):Int)) 1
  rw[e1,e2]
  exact Heap.get?_push_size _ rfl
 ·have e:b=(s.heap.push { cls:=.type "range",data:=.fields #[.int lo t,.int hi u,.int 1 v] }).objs.size:=by simpa using hb
  subst e
  exact I1.fpOk (Nat.le_refl _) (I1.hok.fresh (Nat.le_refl _))
noncomputable def iRng1 (ta:TA):TI:=fun σ H R=>ta σ H fun vs H1=>∃ j:Int,vs=[.int j]/\-(2 ^ 62)<=j/\j<2 ^ 62/\R (Itr 0 j.toNat) H1
theorem bS {a:Expr}{ta:TA}{p pos:Pos} (hg:Gl X "range") (hm:X.mg "range" = none) (ha:PA X [a] ta) (hs:starEach [a] X.env=[(false,eval a X.env)]:=by rfl):PI X tg (.Call (.Name "range" p) [a] [] pos) (iRng1 ta):=by
 intro pins s σ H R I h
 refine Call_ (fI I hg hm boot_range (PyProof.Rows.callWith_type1 (thn (ha pos pins s σ H _ I h) fun us s1 z_=>z_.elim fun vs z_=>z_.elim fun H1 z_=>z_.elim fun I1 z_=>z_.elim fun r1 q1=>?_) hs rfl))
 obtain⟨j,e,q1,q2,q⟩:=q1
 subst e
 cases r1 with
 | cons r rr=>
  cases rr
  obtain⟨t,rfl⟩:=r
  exact call_range_1 (ng I1 (by omega) (by omega) q1 q2 (by simpa using q))
noncomputable def tFor (wi:TI) (g:TG) (tb:TS):TS:=fun D σ H=>wi σ H fun J H1=>∃ W:Nat->Nat->St->Hp->Prop,(∃ m,W 0 m σ H1)/\∀ i m σ H,W i m σ H ->
 (J.stop i H/\D.nx σ H)∨(J.go i H/\∃ N:St->Hp->Prop,(∀ σ' H',N σ' H'->∃ m',m'<m/\W (i+1) m' σ' H')/\∀ x H',J.yld i H x H'->g x σ H' fun σ2 H2=>tb { D with nx:=N,ct:=N,bk:=D.nx } σ2 H2)
noncomputable def gQ (fp:List Addr) (h:Heap):List (Addr×Obj):=fp.filterMap fun b=>(h.get? b).map fun o=>(b,o)
theorem fE {fp:List Addr}{h:Heap}{b:Addr}{o:Obj} (hb:b ∈ fp) (e:h.get? b=some o):(b,o) ∈ gQ fp h:=List.mem_filterMap.mpr ⟨b,hb,by rw[e]; rfl⟩
theorem lr {fp:List Addr}{h:Heap}{p:Addr×Obj} (hp:p ∈ gQ fp h):p.1 ∈ fp/\h.get? p.1=some p.2:=by
 obtain⟨b,hb,e⟩:=List.mem_filterMap.mp hp
 cases q:h.get? b with
 | none=>rw[q] at e; cases e
 | some o=>
  rw[q] at e
  have e':(b,o)=p:=Option.some.inj e
  subst e'
  exact⟨hb,q⟩
theorem Inv.pinned {pins:List (Addr×Obj)}{σ:St}{H:Hp}{s:Shared}{fp:List Addr} (I:Inv X pins σ H s) (hf:∀ b ∈ fp,ju X pins H b) (ho:∀ b ∈ fp,∃ o,s.heap.get? b=some o/\∀ v,o.data≠.cell v):Inv X (pins++gQ fp s.heap) σ H s :=
 I.pins_of fun p hp=>(mem_append.mp hp).elim (fun z=>I.pin p (mem_append_right _ z)) fun z=>by
  obtain⟨hb,e⟩:=lr z
  obtain⟨f0,f1,f2,_⟩:=hf p.1 hb
  obtain⟨o,e',d⟩:=ho p.1 hb
  rw[e] at e'; cases e'
  exact⟨e,f0,f1,f2,d⟩
theorem Inv.unpinned {pins pl:List (Addr×Obj)}{σ:St}{H:Hp}{s:Shared} (I:Inv X (pins++pl) σ H s):Inv X pins σ H s:=I.pins_of fun p hp=>I.pin p (mem_append_right _ (mem_append_left _ hp))
theorem b9 {iter:Expr}{body:List Stmt}{wi:TI}{g:TG}{tb:TS}{pos:Pos} (hp:PassesOwn (model X.prog X.w) X.A X.env X.xe) (hc:X.calm=true) (hi:PI X tg iter wi) (hg:PG X tg g) (hb:PSs X body tb)
  (hs:∀ x,foldedSetIterable iter X.env x=pure x:=by intro _; rfl):PS X (.For tg iter body [] pos) (tFor wi g tb):=by
 intro pins s σ H D I h
 refine wpAny_For (thn (hi pins s σ H _ I h) fun v s1 h1=>thn h1 fun itv s2 h2=>?_) hs
 obtain⟨it,fp,tn,J,H2,e,I2,T,st2,f2,W,⟨m0,w0⟩,turn⟩:=h2
 subst e
 have stat:∀ {H':Hp},(∀ b ∈ fp,H' b=none)->∀ b ∈ fp,ju X pins H' b:=fun hn b hb=>⟨hn b hb,(f2 b hb).2⟩
 refine codeAny_forLoop_any (fun n s'=>∃ i σ' H',Inv X pins σ' H' s'/\tn i s'.heap/\(∀ b ∈ fp,H' b=none)/\W i n σ' H') ?_ m0 ⟨0,σ,H2,I2,st2,fun b hb=>(f2 b hb).1,w0⟩
 rintro n s3 ⟨i,σ3,H3,I3,st3,fr3,w3⟩
 rcases turn i n σ3 H3 w3 with ⟨stop,qn⟩ | ⟨go,N,hN,step⟩
 ·refine wpAny_passesOwn hp (thn (T.done X rfl rfl rfl hc i pins s3 σ3 H3 X.xe I3 (stat fr3) st3 stop) fun r s4 ⟨hr,I4⟩=>?_)
  subst hr
  exact wpAny_execs_nil ⟨σ3,H3,I4,qn⟩
 ·refine wpAny_passesOwn hp (thn (T.item X rfl rfl rfl hc i pins s3 σ3 H3 X.xe I3 (stat fr3) st3 go) fun r s4 z_=>z_.elim fun u z_=>z_.elim fun hr h4=>?_)
  subst hr
  refine wpAny_passesOwn hp (thn h4 fun _ s5 z_=>z_.elim fun x z_=>z_.elim fun H5 z_=>z_.elim fun I5 z_=>z_.elim fun r5 z_=>z_.elim fun y5 z_=>z_.elim fun st5 fr5=>?_)
  have I5':=I5.pinned (stat fr5) (T.obj _ _ st5)
  refine wpAny_passesOwn hp (thn (hg _ s5 σ3 H5 x u _ I5' r5 (step x H5 y5)) fun _ s6 z_=>z_.elim fun σ6 z_=>z_.elim fun H6 z_=>z_.elim fun I6 q6=>?_)
  refine wpAny_passesOwn hp (thn (hb _ s6 σ6 H6 _ I6 q6) fun f s7 q7=>?_)
  have again:∀ {σ7:St}{H7:Hp},Inv X (pins++gQ fp s5.heap) σ7 H7 s7->N σ7 H7->∃ m,m<n/\∃ i σ' H',Inv X pins σ' H' s7/\tn i s7.heap/\(∀ b ∈ fp,H' b=none)/\W i m σ' H':=fun {σ7 H7} I7 n7=>by
   obtain⟨m',hm,w7⟩:=hN σ7 H7 n7
   refine⟨m',hm,i+1,σ7,H7,I7.unpinned,T.keep _ _ _ st5 fun b hb o e=>(I7.pin (b,o) (mem_append_right _ (mem_append_right _ (fE hb e)))).1,fun b hb=>?_,w7⟩
   obtain⟨o,e,d⟩:=T.obj _ _ st5 b hb
   exact(I7.pin (b,o) (mem_append_right _ (mem_append_right _ (fE hb e)))).2.1
  cases f with
  | next=>obtain⟨σ7,H7,I7,n7⟩:=q7; exact again I7 n7
  | cont=>obtain⟨σ7,H7,I7,n7⟩:=q7; exact again I7 n7
  | brk=>obtain⟨σ7,H7,I7,q7⟩:=q7; exact⟨σ7,H7,I7.unpinned,q7⟩
  | ret v=>obtain⟨x7,σ7,H7,I7,r7,q7⟩:=q7; exact⟨x7,σ7,H7,I7.unpinned,r7,q7⟩
end
theorem fQ {K:PySem.W.Frag}{a:Addr}{xs:List V}{g:TG}{tb:TS}{D:Ends}{σ:St}{H:Hp} (Pv:Nat->St->Hp->Prop) (h0:Pv 0 σ H) (hl:∀ i σ H,i<=xs.length->Pv i σ H->SqL K H a xs)
  (hs:∀ i x σ H,xs[i]?=some x->Pv i σ H->g x σ H fun σ2 H2=>tb { D with nx:=Pv (i+1),ct:=Pv (i+1),bk:=D.nx } σ2 H2) (hd:∀ σ H,Pv xs.length σ H->D.nx σ H) :
  ∃ W:Nat->Nat->St->Hp->Prop,(∃ m,W 0 m σ H)/\∀ i m σ H,W i m σ H ->
   ((Itl K a).stop i H/\D.nx σ H)∨((Itl K a).go i H/\∃ N:St->Hp->Prop,(∀ σ' H',N σ' H'->∃ m',m'<m/\W (i+1) m' σ' H')/\∀ x H',(Itl K a).yld i H x H'->g x σ H' fun σ2 H2=>tb { D with nx:=N,ct:=N,bk:=D.nx } σ2 H2):=by
 refine⟨fun i m σ H=>m=xs.length - i/\i<=xs.length/\Pv i σ H,⟨xs.length,by simp,Nat.zero_le _,h0⟩,?_⟩
 rintro i m σ H ⟨rfl,hi,p⟩
 have q:=hl i σ H hi p
 by_cases hlt:i<xs.length
 ·refine .inr ⟨⟨xs,xs[i],q,by simp[hlt]⟩,Pv (i+1),fun σ' H' p'=>⟨xs.length - (i+1),by omega,U,hlt,p'⟩,fun x H' y=>?_⟩
  obtain⟨e,y⟩:=y
  subst e
  exact hs i x σ _ (y xs q) p
 ·have e:i=xs.length:=by omega
  subst e
  exact .inl ⟨⟨xs,q,Nat.le_refl _⟩,hd σ H p⟩
theorem pI {K:PySem.W.Frag}{a:Addr}{xs:List V}{g:TG}{tb:TS}{D:Ends}{σ:St}{H:Hp} (Pv:Nat->St->Hp->Prop) (h0:Pv 0 σ H) (hl:∀ i σ H,i<=xs.length->Pv i σ H->SqT K H a xs)
  (hs:∀ i x σ H,xs[i]?=some x->Pv i σ H->g x σ H fun σ2 H2=>tb { D with nx:=Pv (i+1),ct:=Pv (i+1),bk:=D.nx } σ2 H2) (hd:∀ σ H,Pv xs.length σ H->D.nx σ H) :
  ∃ W:Nat->Nat->St->Hp->Prop,(∃ m,W 0 m σ H)/\∀ i m σ H,W i m σ H ->
   ((Itt K a).stop i H/\D.nx σ H)∨((Itt K a).go i H/\∃ N:St->Hp->Prop,(∀ σ' H',N σ' H'->∃ m',m'<m/\W (i+1) m' σ' H')/\∀ x H',(Itt K a).yld i H x H'->g x σ H' fun σ2 H2=>tb { D with nx:=N,ct:=N,bk:=D.nx } σ2 H2):=by
 refine⟨fun i m σ H=>m=xs.length - i/\i<=xs.length/\Pv i σ H,⟨xs.length,by simp,Nat.zero_le _,h0⟩,?_⟩
 rintro i m σ H ⟨rfl,hi,p⟩
 have q:=hl i σ H hi p
 by_cases hlt:i<xs.length
 ·refine .inr ⟨⟨xs,xs[i],q,by simp[hlt]⟩,Pv (i+1),fun σ' H' p'=>⟨xs.length - (i+1),by omega,U,hlt,p'⟩,fun x H' y=>?_⟩
  obtain⟨e,y⟩:=y
  subst e
  exact hs i x σ _ (y xs q) p
 ·have e:i=xs.length:=by omega
  subst e
  exact .inl ⟨⟨xs,q,Nat.le_refl _⟩,hd σ H p⟩
theorem bU {lo:Int}{n:Nat}{g:TG}{tb:TS}{D:Ends}{σ:St}{H:Hp} (Pv:Nat->St->Hp->Prop) (h0:Pv 0 σ H)
  (hs:∀ i σ H,i<n->Pv i σ H->g (.int (lo+i)) σ H fun σ2 H2=>tb { D with nx:=Pv (i+1),ct:=Pv (i+1),bk:=D.nx } σ2 H2) (hd:∀ σ H,Pv n σ H->D.nx σ H) :
  ∃ W:Nat->Nat->St->Hp->Prop,(∃ m,W 0 m σ H)/\∀ i m σ H,W i m σ H ->
   ((Itr lo n).stop i H/\D.nx σ H)∨((Itr lo n).go i H/\∃ N:St->Hp->Prop,(∀ σ' H',N σ' H'->∃ m',m'<m/\W (i+1) m' σ' H')/\∀ x H',(Itr lo n).yld i H x H'->g x σ H' fun σ2 H2=>tb { D with nx:=N,ct:=N,bk:=D.nx } σ2 H2):=by
 refine⟨fun i m σ H=>m=n - i/\i<=n/\Pv i σ H,⟨n,by simp,Nat.zero_le _,h0⟩,?_⟩
 rintro i m σ H ⟨rfl,hi,p⟩
 by_cases hlt:i<n
 ·refine .inr ⟨hlt,Pv (i+1),fun σ' H' p'=>⟨n - (i+1),by omega,U,hlt,p'⟩,fun x H' y=>?_⟩
  obtain⟨e,y⟩:=y
  subst e y
  exact hs i σ _ hlt p
 ·have e:i=n:=by omega
  subst e
  exact .inl ⟨Nat.le_refl _,hd σ H p⟩
theorem lW {c:TT}{tb:TS}{D:Ends}{σ:St}{H:Hp} (Pv:St->Hp->Prop) (μ:St->Hp->Nat) (h0:Pv σ H)
  (hs:∀ σ H,Pv σ H->c σ H fun b H1=>if b=true then tb { D with nx:=fun σ' H'=>Pv σ' H'/\μ σ' H'<μ σ H,ct:=fun σ' H'=>Pv σ' H'/\μ σ' H'<μ σ H,bk:=D.nx } σ H1 else D.nx σ H1)
  (mono:∀ σ H Q Q',(∀ b H1,Q b H1->Q' b H1)->c σ H Q->c σ H Q'):l7 c tb D σ H:=by
 refine⟨fun m σ H=>m=μ σ H/\Pv σ H,⟨_,U,h0⟩,?_⟩
 rintro m σ H ⟨rfl,p⟩
 refine mono σ H _ _ (fun b H1 q=>?_) (hs σ H p)
 cases b with
 | true=>exact⟨_,fun σ' H' ⟨p',l⟩=>⟨_,l,U,p'⟩,q⟩
 | false=>exact q
noncomputable abbrev R2:=V->V->Hp->VK->Prop
noncomputable def OpR (X:Cx) (f:Value->Value->Sem Value) (r:R2):Prop :=
 ∀ (pins:List (Addr×Obj)) (s:Shared) (σ:St) (H:Hp) (x y:V) (v u:Value) (Q:VK),Inv X pins σ H s->RelV x v->RelV y u->r x y H Q ->
  wpAny (model X.prog X.w) X.A (f v u) (EP X pins σ Q) X.xe s
noncomputable def UnR (X:Cx) (f:Value->Sem Value) (r:V->Hp->VK->Prop):Prop :=
 ∀ (pins:List (Addr×Obj)) (s:Shared) (σ:St) (H:Hp) (x:V) (v:Value) (Q:VK),Inv X pins σ H s->RelV x v->r x H Q ->
  wpAny (model X.prog X.w) X.A (f v) (EP X pins σ Q) X.xe s
noncomputable def b7 (X:Cx) (f:Value) (r:List V->Hp->VK->Prop):Prop :=
 ∀ (pins:List (Addr×Obj)) (s:Shared) (σ:St) (H:Hp) (xs:List V) (us:List Value) (Q:VK),Inv X pins σ H s->Vals xs us->r xs H Q ->
  wpAny (model X.prog X.w) X.A (call f us) (EP X pins σ Q) X.xe s
noncomputable def tOp (r:R2) (ta tb:TE):TE:=fun σ H Q=>ta σ H fun x H1=>tb σ H1 fun y H2=>r x y H2 Q
noncomputable def tUn (r:V->Hp->VK->Prop) (ta:TE):TE:=fun σ H Q=>ta σ H fun x H1=>r x H1 Q
noncomputable def rI (C:Int->Int->Prop) (g:Int->Int->V):R2:=fun x y H Q=>∃ i j,x=.int i/\y=.int j/\C i j/\Q (g i j) H
noncomputable def rI0 (g:Int->Int->V):R2:=fun x y H Q=>∃ i j,x=.int i/\y=.int j/\Q (g i j) H
noncomputable def rU (g:Int->V):V->Hp->VK->Prop:=fun x H Q=>∃ i,x=.int i/\Q (g i) H
section
variable {X:Cx}{a b c:Expr}{ta tb tc:TE}{pos:Pos}
theorem rZ (ha:PE X a ta) (hb:PE X b tb) {pins:List (Addr×Obj)}{s:Shared}{σ:St}{H:Hp}{R:V->V->Hp->Prop} (I:Inv X pins σ H s)
  (h:ta σ H fun x H1=>tb σ H1 fun y H2=>R x y H2) {Q:Value->Shared->Prop}{f:Value->Value->Sem Value}
  (hf:∀ v u s2 x y H2,Inv X pins σ H2 s2->RelV x v->RelV y u->R x y H2->wpAny (model X.prog X.w) X.A (f v u) Q X.xe s2) :
  wpAny (model X.prog X.w) X.A (eval a X.env) (fun v s₁=>wpAny (model X.prog X.w) X.A (eval b X.env) (fun u s₂=>wpAny (model X.prog X.w) X.A (f v u) Q X.xe s₂) X.xe s₁) X.xe s:=by
 refine thn (ha pins s σ H _ I h) fun v s1 z_=>z_.elim fun x z_=>z_.elim fun H1 z_=>z_.elim fun I1 z_=>z_.elim fun r1 q1=>?_
 refine thn (hb pins s1 σ H1 _ I1 q1) fun u s2 z_=>z_.elim fun y z_=>z_.elim fun H2 z_=>z_.elim fun I2 z_=>z_.elim fun r2 q2=>?_
 exact hf v u s2 x y H2 I2 r1 r2 q2
theorem aq {op:Operator}{r:R2} (ho:OpR X (binaryOp op) r) (ha:PE X a ta) (hb:PE X b tb):PE X (.BinOp a op b pos) (tOp r ta tb):=by
 intro pins s σ H Q I h
 exact wpAny_BinOp (rZ ha hb I h fun v u s2 x y H2 I2 rx ry q=>ho pins s2 σ H2 x y v u Q I2 rx ry q)
theorem qm {op:UnaryOp}{r:V->Hp->VK->Prop} (ho:UnR X (unaryOp op) r) (ha:PE X a ta):PE X (.UnaryOp op a pos) (tUn r ta):=by
 intro pins s σ H Q I h
 exact UnaryOp_ (thn (ha pins s σ H _ I h) fun v s1 z_=>z_.elim fun x z_=>z_.elim fun H1 z_=>z_.elim fun I1 z_=>z_.elim fun r1 q1=>ho pins s1 σ H1 x v Q I1 r1 q1)
theorem opI {f:Value->Value->Sem Value}{C:Int->Int->Prop}{g:Int->Int->Int}
  (rule:∀ (i j:Int) (t u:Tok) (s:Shared) (Q:Value->Shared->Prop) (E:Value->Shared->Prop),C i j->Q (.int (g i j) s.toks) { s with toks:=s.toks+1 }->wpAny (model X.prog X.w) X.A (f (.int i t) (.int j u)) Q E s) :
  OpR X f (rI C fun i j=>.int (g i j)):=by
 intro pins s σ H x y v u Q I rx ry h
 obtain⟨i,j,rfl,rfl,hc,q⟩:=h
 obtain⟨t,rfl⟩:=rx
 obtain⟨t',rfl⟩:=ry
 exact rule i j t t' s _ _ hc ⟨.int (g i j),H,I.tok _,⟨_,U⟩,q⟩
theorem tG {f:Value->Value->Sem Value}{g:Int->Int->Int}
  (rule:∀ (i j:Int) (t u:Tok) (s:Shared) (Q:Value->Shared->Prop) (E:Value->Shared->Prop),Q (.int (g i j) s.toks) { s with toks:=s.toks+1 }->wpAny (model X.prog X.w) X.A (f (.int i t) (.int j u)) Q E s) :
  OpR X f (rI0 fun i j=>.int (g i j)):=by
 intro pins s σ H x y v u Q I rx ry h
 obtain⟨i,j,rfl,rfl,q⟩:=h
 obtain⟨t,rfl⟩:=rx
 obtain⟨t',rfl⟩:=ry
 exact rule i j t t' s _ _ ⟨.int (g i j),H,I.tok _,⟨_,U⟩,q⟩
theorem pd {f:Value->Value->Sem Value}{g:Int->Int->Bool}
  (rule:∀ (i j:Int) (t u:Tok) (s:Shared) (Q:Value->Shared->Prop) (E:Value->Shared->Prop),Q (.bool (g i j)) s->wpAny (model X.prog X.w) X.A (f (.int i t) (.int j u)) Q E s) :
  OpR X f (rI0 fun i j=>.bl (g i j)):=by
 intro pins s σ H x y v u Q I rx ry h
 obtain⟨i,j,rfl,rfl,q⟩:=h
 obtain⟨t,rfl⟩:=rx
 obtain⟨t',rfl⟩:=ry
 exact rule i j t t' s _ _ ⟨.bl (g i j),H,I,U,q⟩
noncomputable def CDiv (i j:Int):Prop:=0<j/\j<1073741824
noncomputable def CPow (i j:Int):Prop:=0<=j/\j<=1000000/\i.natAbs<2 ^ 64
noncomputable def CMul (i j:Int):Prop:=(-(2 ^ 64)<i/\i<2 ^ 64)∨(-(2 ^ 64)<j/\j<2 ^ 64)
theorem CMul.ok {i j:Int} (h:CMul i j):IntMulOk i j:=by
 rcases h with ⟨h1,h2⟩ | ⟨h1,h2⟩
 ·exact .of_left (intBits_le_64 h1 h2)
 ·exact .of_right (intBits_le_64 h1 h2)
theorem bf:OpR X (binaryOp .Add) (rI0 fun i j=>.int (i+j)):=tG fun _ _ _ _ _ _ _ q=>add_int q
theorem cM:OpR X (binaryOp .Sub) (rI0 fun i j=>.int (i - j)):=tG fun _ _ _ _ _ _ _ q=>sub_int q
theorem cN:OpR X (binaryOp .Mult) (rI CMul fun i j=>.int (i*j)):=opI fun _ _ _ _ _ _ _ hc q=>mul_int q hc.ok
theorem bY:OpR X (binaryOp .FloorDiv) (rI CDiv fun i j=>.int (i / j)):=opI fun i j _ _ _ _ _ hc q=>by
 have h1:(0:Int)<j:=hc.1
 have h2:j<1073741824:=hc.2
 exact floordiv_int (by omega) (by rw[Int.fdiv_eq_ediv_of_nonneg i (by omega)]; exact q) (.inl (PyProof.noPylong_small (by omega)))
theorem aW:OpR X (binaryOp .Mod) (rI (fun _ j=>0<j) fun i j=>.int (i % j)):=opI fun i j _ _ _ _ _ hc q=>by
 have h1:(0:Int)<j:=hc
 exact mod_int' (by omega) (by rw[Int.fmod_eq_emod_of_nonneg i (by omega)]; exact q)
theorem rj:OpR X (binaryOp .Pow) (rI CPow fun i j=>.int (i ^ j.toNat)):=opI fun _ _ _ _ _ _ _ hc q=>pow_int_small hc.1 hc.2.1 hc.2.2 q
theorem unI {f:Value->Sem Value}{g:Int->Int}
  (rule:∀ (i:Int) (t:Tok) (s:Shared) (Q:Value->Shared->Prop) (E:Value->Shared->Prop),Q (.int (g i) s.toks) { s with toks:=s.toks+1 }->wpAny (model X.prog X.w) X.A (f (.int i t)) Q E s) :
  UnR X f (rU fun i=>.int (g i)):=by
 intro pins s σ H x v Q I rx h
 obtain⟨i,rfl,q⟩:=h
 obtain⟨t,rfl⟩:=rx
 exact rule i t s _ _ ⟨.int (g i),H,I.tok _,⟨_,U⟩,q⟩
theorem lZ:UnR X (unaryOp .USub) (rU fun i=>.int (-i)):=unI fun _ _ _ _ _ q=>neg_int q
end
noncomputable def sx:V->V->Bool
 | .non,.non=>true | .non,.int _=>true | .int _,.non=>true | .non,.bl _=>true | .bl _,.non=>true | .non,.str _=>true | .str _,.non=>true
 | .int _,.int _=>true | .bl _,.bl _=>true | .str _,.str _=>true | .byt _,.byt _=>true
 | .int _,.str _=>true | .str _,.int _=>true | .bl _,.str _=>true | .str _,.bl _=>true
 | _,_=>false
noncomputable def rEq:R2:=fun x y H Q=>sx x y=true/\Q (.bl (decide (x=y))) H
noncomputable def rNe:R2:=fun x y H Q=>sx x y=true/\Q (.bl (!decide (x=y))) H
theorem kQ {i j:Int}:decide (V.int i=V.int j)=(i == j):=by
 rw[Bool.eq_iff_iff]
 simp
theorem oo {i j:Bool}:decide (V.bl i=V.bl j)=(i == j):=by
 rw[Bool.eq_iff_iff]
 simp
theorem kP {i j:Str}:decide (V.str i=V.str j)=(i == j):=by
 rw[Bool.eq_iff_iff]
 simp
theorem kR {i j:Array UInt8}:decide (V.byt i=V.byt j)=(i.toList == j.toList):=by
 rw[Bool.eq_iff_iff]
 cases i
 cases j
 simp
section
variable {X:Cx}{a b c:Expr}{ta tb tc:TE}{pos:Pos}
theorem aM {pins:List (Addr×Obj)}{σ:St}{H:Hp}{s:Shared}{Q:VK}{k k':Bool} (I:Inv X pins σ H s) (q:Q (.bl k) H) (e:k=k'):EP X pins σ Q (.bool k') s:=by
 subst e
 exact⟨.bl k,H,I,U,q⟩
theorem br:OpR X (compareOp .Eq) rEq:=by
 intro pins s σ H x y v u Q I rx ry h
 obtain⟨hs,q⟩:=h
 cases x with
 | non=>
  cases rx
  cases y with
  | non=>cases ry; exact PySem.EqNone.eq_none_none (aM I q (by simp))
  | bl j=>cases ry; exact PySem.EqNone.eq_none_bool (aM I q (by simp))
  | int j=>obtain⟨t',rfl⟩:=ry; exact PySem.EqNone.eq_none_int (aM I q (by simp))
  | str j=>obtain⟨t',rfl⟩:=ry; exact PySem.EqNone.eq_none_str (aM I q (by simp))
  | _=>exact absurd (show false=true from hs) Bool.false_ne_true
 | bl i=>
  cases rx
  cases y with
  | non=>cases ry; exact PySem.EqNone.eq_bool_none (aM I q (by simp))
  | bl j=>cases ry; exact eq_bool (aM I q oo)
  | str j=>obtain⟨t',rfl⟩:=ry; exact PySem.EqMixed.eq_bool_str (aM I q (by simp))
  | _=>exact absurd (show false=true from hs) Bool.false_ne_true
 | int i=>
  obtain⟨t,rfl⟩:=rx
  cases y with
  | non=>cases ry; exact PySem.EqNone.eq_int_none (aM I q (by simp))
  | int j=>obtain⟨t',rfl⟩:=ry; exact eq_int (aM I q kQ)
  | str j=>obtain⟨t',rfl⟩:=ry; exact PySem.EqMixed.eq_int_str (aM I q (by simp))
  | _=>exact absurd (show false=true from hs) Bool.false_ne_true
 | str i=>
  obtain⟨t,rfl⟩:=rx
  cases y with
  | non=>cases ry; exact PySem.EqNone.eq_str_none (aM I q (by simp))
  | bl j=>cases ry; exact PySem.EqMixed.eq_str_bool (aM I q (by simp))
  | int j=>obtain⟨t',rfl⟩:=ry; exact PySem.EqMixed.eq_str_int (aM I q (by simp))
  | str j=>obtain⟨t',rfl⟩:=ry; exact eq_str (aM I q kP)
  | _=>exact absurd (show false=true from hs) Bool.false_ne_true
 | byt i=>
  obtain⟨t,rfl⟩:=rx
  cases y with
  | byt j=>obtain⟨t',rfl⟩:=ry; exact PySem.W.eq_bytes (aM I q kR)
  | _=>exact absurd (show false=true from hs) Bool.false_ne_true
 | _=>cases y <;> exact absurd (show false=true from hs) Bool.false_ne_true
theorem kt:OpR X (compareOp .NotEq) rNe:=by
 intro pins s σ H x y v u Q I rx ry h
 obtain⟨hs,q⟩:=h
 cases x with
 | non=>
  cases rx
  cases y with
  | non=>cases ry; exact PySem.EqNone.ne_none_none (aM I q (by simp))
  | bl j=>cases ry; exact PySem.EqNone.ne_none_bool (aM I q (by simp))
  | int j=>obtain⟨t',rfl⟩:=ry; exact PySem.EqNone.ne_none_int (aM I q (by simp))
  | str j=>obtain⟨t',rfl⟩:=ry; exact PySem.EqNone.ne_none_str (aM I q (by simp))
  | _=>exact absurd (show false=true from hs) Bool.false_ne_true
 | bl i=>
  cases rx
  cases y with
  | non=>cases ry; exact PySem.EqNone.ne_bool_none (aM I q (by simp))
  | bl j=>cases ry; exact ne_bool (aM I q (congrArg not oo))
  | str j=>obtain⟨t',rfl⟩:=ry; exact PySem.EqMixed.ne_bool_str (aM I q (by simp))
  | _=>exact absurd (show false=true from hs) Bool.false_ne_true
 | int i=>
  obtain⟨t,rfl⟩:=rx
  cases y with
  | non=>cases ry; exact PySem.EqNone.ne_int_none (aM I q (by simp))
  | int j=>obtain⟨t',rfl⟩:=ry; exact ne_int (aM I q (congrArg not kQ))
  | str j=>obtain⟨t',rfl⟩:=ry; exact PySem.EqMixed.ne_int_str (aM I q (by simp))
  | _=>exact absurd (show false=true from hs) Bool.false_ne_true
 | str i=>
  obtain⟨t,rfl⟩:=rx
  cases y with
  | non=>cases ry; exact PySem.EqNone.ne_str_none (aM I q (by simp))
  | bl j=>cases ry; exact PySem.EqMixed.ne_str_bool (aM I q (by simp))
  | int j=>obtain⟨t',rfl⟩:=ry; exact PySem.EqMixed.ne_str_int (aM I q (by simp))
  | str j=>obtain⟨t',rfl⟩:=ry; exact ne_str (aM I q (congrArg not kP))
  | _=>exact absurd (show false=true from hs) Bool.false_ne_true
 | byt i=>
  obtain⟨t,rfl⟩:=rx
  cases y with
  | byt j=>obtain⟨t',rfl⟩:=ry; exact PySem.W.ne_bytes (aM I q (congrArg not kR))
  | _=>exact absurd (show false=true from hs) Bool.false_ne_true
 | _=>cases y <;> exact absurd (show false=true from hs) Bool.false_ne_true
theorem cW:OpR X (compareOp .Lt) (rI0 fun i j=>.bl (decide (i<j))):=pd fun _ _ _ _ _ _ _ q=>lt_int q
theorem qp:OpR X (compareOp .LtE) (rI0 fun i j=>.bl (decide (i<=j))):=pd fun _ _ _ _ _ _ _ q=>le_int q
theorem dj:OpR X (compareOp .Gt) (rI0 fun i j=>.bl (decide (j<i))):=pd fun _ _ _ _ _ _ _ q=>gt_int q
theorem iS:OpR X (compareOp .GtE) (rI0 fun i j=>.bl (decide (j<=i))):=pd fun _ _ _ _ _ _ _ q=>ge_int q
theorem d8 : OpR X (compareOp .Is) (fun x y H Q=>y=.non/\Q (.bl (decide (x=.non))) H) := by
  intro pins s σ H x y v u Q I rx ry h
  obtain⟨rfl, q⟩ := h
  cases ry
  refine is_none_gen (aM I q ?_)
  cases x <;> first
    | (cases rx; rfl)
    | (obtain ⟨t, rfl⟩ := rx; rfl)
theorem dN : OpR X (compareOp .IsNot) (fun x y H Q=>y=.non/\Q (.bl (!decide (x=.non))) H) := by
  intro pins s σ H x y v u Q I rx ry h
  obtain⟨rfl, q⟩ := h
  cases ry
  refine isnot_none_gen (aM I q ?_)
  cases x <;> first
    | (cases rx; rfl)
    | (obtain ⟨t, rfl⟩ := rx; rfl)
theorem aj (b:Expr) {op:CmpOp} (h:op≠.In:=by decide) (h2:op≠.NotIn:=by decide):behindInMarks op b=false:=by
 have e1:(op == CmpOp.In)=false:=by cases op <;> first | rfl | exact absurd rfl h
 have e2:(op == CmpOp.NotIn)=false:=by cases op <;> first | rfl | exact absurd rfl h2
 cases b <;> simp[behindInMarks,e1,e2]
theorem cL {op:CmpOp}{r:R2} (ho:OpR X (compareOp op) r) (ha:PE X a ta) (hb:PE X b tb) (hm:behindInMarks op b=false):PE X (.Compare a [op] [b] pos) (tOp r ta tb):=by
 intro pins s σ H Q I h
 exact wpAny_Compare1 (rZ ha hb I h fun v u s2 x y H2 I2 rx ry q=>ho pins s2 σ H2 x y v u Q I2 rx ry q) hm
noncomputable def tTest (t:TE):TT:=fun σ H Q=>t σ H fun x H'=>∃ k,x=.bl k/\Q k H'
theorem ai {op:CmpOp}{r:R2} (ho:OpR X (compareOp op) r) (ha:PE X a ta) (hb:PE X b tb) (hm:behindInMarks op b=false):PT X (.Compare a [op] [b] pos) (tTest (tOp r ta tb)):=by
 intro pins s σ H Q I h
 refine wpAny_isTrue_Compare1 (thn (ha pins s σ H _ I h) fun v s1 z_=>z_.elim fun x z_=>z_.elim fun H1 z_=>z_.elim fun I1 z_=>z_.elim fun r1 q1=>thn (hb pins s1 σ H1 _ I1 q1) fun u s2 ⟨y,H2,I2,r2,q2⟩=>
  thn (ho pins s2 σ H2 x y v u _ I2 r1 r2 q2) fun c s3 z_=>z_.elim fun z z_=>z_.elim fun H3 z_=>z_.elim fun I3 z_=>z_.elim fun r3 z_=>z_.elim fun k z_=>z_.elim fun e q3=>?_) hm
 subst e
 cases r3
 exact wpAny_truthy_bool ⟨H3,I3,q3⟩
theorem gZ:(sizeLine:Nat)<2 ^ 63:=by rw[sizeLine_eq]; decide
theorem cg {x:V}{us:List Value} (r:Vals [x] us):∃ u,us=[u]/\RelV x u:=by
 cases r with
 | cons r1 r2=>cases r2; exact⟨_,U,r1⟩
theorem qe {x y:V}{us:List Value} (r:Vals [x,y] us):∃ u w',us=[u,w']/\RelV x u/\RelV y w':=by
 cases r with
 | cons r1 r2=>
  cases r2 with
  | cons r3 r4=>cases r4; exact⟨_,_,U,r1,r3⟩
theorem ot:b7 X (.builtin "abs") (fun xs H Q=>∃ i,xs=[.int i]/\Q (.int (if i<0 then -i else i)) H):=by
 intro pins s σ H xs us Q I r h
 obtain⟨i,rfl,q⟩:=h
 obtain⟨u,rfl,t,rfl⟩:=cg r
 exact call_abs_int fun u tk=>⟨.int (if i<0 then -i else i),H,I.tok _,⟨_,U⟩,q⟩
theorem gE (hc:X.calm=true):b7 X (.builtin "max") (fun xs H Q=>∃ i j,xs=[.int i,.int j]/\Q (.int (if j > i then j else i)) H):=by
 intro pins s σ H xs us Q I r h
 obtain⟨i,j,rfl,q⟩:=h
 obtain⟨u,w',rfl,⟨t,rfl⟩,⟨t',rfl⟩⟩:=qe r
 refine max_two_ints (I.ok.hd hc) fun h' tk k=>⟨_,H,I.kept k,?_,q⟩
 by_cases hj:j > i
 ·rw[if_pos hj,if_pos hj]; exact⟨_,U⟩
 ·rw[if_neg hj,if_neg hj]; exact⟨_,U⟩
theorem lP:b7 X (.type "int") (fun xs H Q=>(∃ i,xs=[.int i]/\Q (.int i) H)∨∃ k,xs=[.bl k]/\Q (.int (if k then 1 else 0)) H):=by
 intro pins s σ H xs us Q I r h
 rcases h with ⟨i,rfl,q⟩ | ⟨k,rfl,q⟩
 ·obtain⟨u,rfl,t,rfl⟩:=cg r
  exact call_int_int ⟨.int i,H,I,⟨_,U⟩,q⟩
 ·obtain⟨u,rfl,r1⟩:=cg r
  cases r1
  exact call_int_bool ⟨.int (if k then 1 else 0),H,I.tok _,⟨_,U⟩,q⟩
end
structure ObjM (h:Heap) (x dx C:Addr) (mA:Str->Option Value):Prop where
 obj:h.get? x=some (PySem.W.instObj C dx)
 ns:h.Ns1 dx mA
 ne:dx≠x
theorem lx {h:Heap}{dx:Addr}{mA:Str->Option Value} (n:h.Ns1 dx mA):∃ od,h.get? dx=some od/\∀ name,PySem.W.lookIn name od=some (mA name):=by
 obtain⟨o,es,ep,ho,hd,hk,_,hm⟩:=n
 refine⟨o,ho,fun name=>?_⟩
 have e:=hm name
 unfold nsFind findBy at e
 rw[<- Array.find?_toList] at e
 unfold PySem.W.lookIn
 rw[hd]
 dsimp only
 split
 ·rename_i y q
  rw[q] at e
  exact congrArg some e
 ·rename_i q
  rw[q] at e
  have a:es.toList.any (·.refKey)=false:=by
   rw[List.any_eq_false]
   intro y hy
   obtain⟨z,t,hkey⟩:=hk y (Array.mem_toList_iff.mp hy)
   simp[DictEntry.refKey,hkey]
  have a':¬ es.toList.any (·.refKey)=true:=by rw[a]; exact Bool.false_ne_true
  rw[if_neg a']
  exact congrArg some e
theorem ObjM.look {h:Heap}{x dx C:Addr}{mA:Str->Option Value} (I:ObjM h x dx C mA):∃ od,PySem.W.InstAt h x (PySem.W.instObj C dx) C (some od)/\∀ name,PySem.W.lookIn name od=some (mA name) :=
 let ⟨od,ho,hl⟩:=lx I.ns
 ⟨od,⟨I.obj,U,U,ho⟩,hl⟩
section
variable {prog:Program}{w:World}{A:Around}{E:Value->Shared->Prop}{s:Shared}{K:PySem.W.Frag}{x dx C f:Addr}{mA:Str->Option Value}{name:Str}{v:Value}
theorem pG {expr:Bool}{Q:Value->Shared->Prop} (X:K.In s.heap) (I:ObjM s.heap x dx C mA) (hg:W.plainGet K C name=true) (hh:W.hasDictIn K C=true)
  (ha:W.findIn K (.ref C) name=some none) (hv:mA name=some v) (hv':PySem.W.handedIn v=true) (h:Q v { s with toks:=s.toks+1 }) :
  wpAny (model prog w) A (getAttr (.ref x) name expr) Q E s:=by
 obtain⟨od,J,hl⟩:=I.look
 exact PySem.W.get_value X J (PySem.W.plainGet_of hg).1 (PySem.W.findObj_own hh ha rfl (by rw[hl,hv])) hv' h
theorem nZ {pl:Sem Bool}{Q:Value×List Value->Shared->Prop} (X:K.In s.heap) (I:ObjM s.heap x dx C mA) (hg:W.plainGet K C name=true)
  (hf:W.findIn K (.ref C) name=some (some (.ref f))) (ht:W.isFn K (.ref f)=true) (hv:mA name=none) (h:Q (.ref f,[.ref x]) s) :
  wpAny (model prog w) A (getMethod (.ref x) name pl) Q E s:=by
 obtain⟨od,J,hl⟩:=I.look
 exact PySem.W.method_fn X J (PySem.W.plainGet_of hg).1 (PySem.W.plainGet_of hg).2 hf (beq_iff_eq.mp ht) (by show(PySem.W.lookIn name od).map (·.isSome)=some false; rw[hl,hv]; rfl) h
theorem oV {ns:List Str}{Q:Unit->Shared->Prop} (X:K.In s.heap) (I:ObjM s.heap x dx C mA)
  (hs:W.findIn K (.ref C) "__setattr__" = some (some (.builtin "object.__setattr__"))) (hp:W.plainOver K C=true) (ht:PySem.W.takerIn K C name=some none) (hh:W.hasDictIn K C=true)
  (hw:PySem.Within mA ns) (hsz:ns.length<=sizeLine)
  (h:∀ h',ObjM h' x dx C (fun y=>if y=name then some v else mA y)->Heap.SameBut dx s.heap h'->Q () { s with heap:=h',toks:=s.toks+2 }) :
  wpAny (model prog w) A (setAttr (.ref x) name v) Q E s:=by
 obtain⟨od,J,hl⟩:=I.look
 refine PySem.W.set_plain X J hs (PySem.W.osa_open (s:={ s with toks:=s.toks+1 }) (r:=none) X J hp ht fun b=>?_)
 obtain⟨cd,hc,hd'⟩:=PySem.W.any_some hh
 have hx:s.heap.get? x=some ⟨.ref C,some dx,.plain,#[]⟩:=I.obj
 refine wpAny_bind (wpAny_pure (wpAny_bind (wpAny_bind (wpAny_loadPart hx (wpAny_bind (PySem.W.Looks.here (s:={ s with toks:=s.toks+1 }) (PySem.W.looks_clsIn X hc) ?_))))))
 rw[hd']
 refine wpAny_pure (a:=some dx) (wpAny_bind (wpAny_pure (wpAny_bind ?_)))
 refine wpAny_nsSet1 (s:={ s with toks:=s.toks+1 }) I.ns fun h' hn2 hs2=>?_
 obtain⟨oD,esD,epD,hoD,hdD,hcD⟩:=hn2.count (PySem.Within.cons name v hw)
 refine wpAny_bind (wpAny_lookBehind hoD (by rw[hdD]; exact pastItsLine_dict (Nat.le_trans hcD (by rw[length_cons]; omega))) ?_)
 exact wpAny_pure (h _ ⟨(hs2.2 _ (Ne.symm I.ne)).trans I.obj,hn2,I.ne⟩ hs2)
theorem nR {R:Result->Shared->Prop}{vs:List Value}{kw:List (Str×Value)} (X:K.In s.heap) (hm:W.makesIn K C=true)
  (hi:W.findIn K (.ref C) "__init__" = some (some (.ref f))) (hf:PySem.W.typeIn K (.ref f)=some (.type "function"))
  (h:codeAny (model prog w) (A.under (.builtin "type.__call__" ⟨.ref C::vs,kw⟩)) (.call (.ref f) ⟨.ref (s.heap.objs.size+1)::vs,kw⟩) (PySem.W.InitBack (s.heap.objs.size+1) R)
   { s with heap:=(s.heap.push PySem.W.emptyDict).push (PySem.W.instObj C s.heap.objs.size) }) :
  codeAny (model prog w) A (.call (.ref C) ⟨vs,kw⟩) R s:=by
 obtain⟨hh,g,d,t,os⟩:=s
 exact PySem.W.make_core (PySem.W.makes_of X hm) (PySem.W.looks_findIn X hi) (fun self=>PySem.W.bind_fn X self hf) (.inl rfl) h
end
noncomputable def bp (f : Str) (v : V) : List (Str×V)->List (Str×V)
  | []=>[(f, v)]
  | (g, x) :: r => if g = f then (g, v) :: r else (g, x) :: bp f v r
theorem et (f g : Str) (v : V) : ∀ fs : List (Str×V), (bp f v fs).lookup g=if g=f then some v else fs.lookup g
  | []=>by
    show List.lookup g [(f, v)]=_
    by_cases h : g=f
    · have hb : (g == f)=true := beq_iff_eq.mpr h
      simp only[List.lookup, hb, if_pos h]
    · have hb : (g == f)=false := beq_eq_false_iff_ne.mpr h
      simp only[List.lookup, hb, if_neg h]
  | (k, x) :: r => by
    have ih := et f g v r
    rw[show bp f v ((k, x)::r)=(if k=f then(k, v)::r else(k, x)::bp f v r) from rfl]
    by_cases hk : k=f
    · rw[if_pos hk]
      by_cases h : g=k
      · have hb : (g == k)=true := beq_iff_eq.mpr h
        simp only[List.lookup, hb, if_pos (h.trans hk)]
      · have hb : (g == k)=false := beq_eq_false_iff_ne.mpr h
        simp only[List.lookup, hb, if_neg (fun e : g=f=>h (e.trans hk.symm))]
    · rw[if_neg hk]
      by_cases h : g=k
      · have hb : (g == k)=true := beq_iff_eq.mpr h
        simp only[List.lookup, hb, if_neg (fun e : g=f=>hk (h.symm.trans e))]
      · have hb : (g == k)=false := beq_eq_false_iff_ne.mpr h
        simp only[List.lookup, hb]
        exact ih
theorem d9 (f : Str) (v : V) : ∀ fs : List (Str×V), f ∈ (bp f v fs).map (·.1)/\∀ g, g ∈ fs.map (·.1)->g ∈ (bp f v fs).map (·.1)
  | []=>⟨by simp[bp], fun g h=>by simp at h⟩
  | (k, x) :: r => by
    obtain⟨i1, i2⟩ := d9 f v r
    rw[show bp f v ((k, x)::r)=(if k=f then(k, v)::r else(k, x)::bp f v r) from rfl]
    by_cases hk : k=f
    · rw[if_pos hk]
      subst hk
      exact⟨by simp, fun g h=>by simpa using h⟩
    · rw[if_neg hk]
      refine⟨?_, fun g h=>?_⟩
      · rw[map_cons]
        exact mem_cons_of_mem _ i1
      · rw[map_cons] at h ⊢
        rcases mem_cons.mp h with e | e
        · exact mem_cons.mpr (.inl e)
        · exact mem_cons_of_mem _ (i2 g e)
theorem eB (f : Str) (v : V) : ∀ fs : List (Str×V), (bp f v fs).length<=fs.length+1
  | []=>by simp[bp]
  | (k, x) :: r => by
    have ih := eB f v r
    rw[show bp f v ((k, x)::r)=(if k=f then(k, v)::r else(k, x)::bp f v r) from rfl]
    by_cases hk : k=f
    · rw[if_pos hk, length_cons, length_cons]; omega
    · rw[if_neg hk, length_cons, length_cons]; omega
theorem RelO.some_of {v:V}{o:Option Value} (r:RelO (some v) o):∃ u,o=some u/\RelV v u:=by
 cases o with
 | none=>exact(show False from r).elim
 | some u=>exact⟨u,U,r⟩
theorem RelO.none_of {o:Option Value} (r:RelO none o):o=none:=by
 cases o with
 | none=>rfl
 | some u=>exact(show False from r).elim
theorem lI {v:V}{u:Value} (r:RelV v u):PySem.W.handedIn u=true:=by
 cases v with
 | non=>cases (show u=Value.none from r); rfl
 | bl b=>cases (show u=Value.bool b from r); rfl
 | int i=>obtain⟨t,e⟩:=(show ∃ t,u=Value.int i t from r); cases e; rfl
 | str x=>obtain⟨t,e⟩:=(show ∃ t,u=Value.str x t from r); cases e; rfl
 | byt b=>obtain⟨t,e⟩:=(show ∃ t,u=Value.bytes b t from r); cases e; rfl
 | flt b=>obtain⟨t,e⟩:=(show ∃ t,u=Value.float b t from r); cases e; rfl
 | ref a=>cases (show u=Value.ref a from r); rfl
 | ty n=>cases (show u=Value.type n from r); rfl
section
variable {P:Program}{w:World}{H H':Hp}{h h':Heap}{a C dx:Addr}{fs fs':List (Str×V)}
theorem e9 (hok:HOk P w H h) (e:H a=some (.ins C dx fs)):∃ mA,ObjM h a dx C mA/\(∀ f,RelO (fs.lookup f) (mA f))/\PySem.Within mA (fs.map (·.1))/\fs.length<=1000/\H dx=some (.own a):=by
 obtain⟨d,z,ne,ob,mA,n,r,q⟩:=(show ObjOk P w H h a (.ins C dx fs) from hok a _ e)
 exact⟨mA,⟨ob,n,ne⟩,r,q,z,d⟩
end
structure Cls (K:PySem.W.Frag) (C:Addr):Prop where
 pg:W.plainGet K C Str.empty=true
 hd:W.hasDictIn K C=true
 po:W.plainOver K C=true
 sa:W.findIn K (.ref C) "__setattr__" = some (some (.builtin "object.__setattr__"))
theorem Cls.get {K:PySem.W.Frag}{C:Addr} (c:Cls K C) (f:Str):W.plainGet K C f=true:=c.pg
noncomputable def NoAttr (K:PySem.W.Frag) (C:Addr) (f:Str):Prop:=W.findIn K (.ref C) f=some none
theorem NoAttr.taker {K:PySem.W.Frag}{C:Addr}{f:Str} (n:NoAttr K C f):PySem.W.takerIn K C f=some none:=by
 unfold PySem.W.takerIn
 rw[show W.findIn K (.ref C) f=some none from n]
 rfl
structure Con (K:PySem.W.Frag) (C:Addr) (f:Str) (v:V) (u:Value):Prop where
 at_:W.findIn K (.ref C) f=some (some u)
 rel:RelV v u
 get:PySem.W.specialIn K u "__get__" = some none
 cp:PySem.W.copiedNames.contains f=false
structure Meth (K:PySem.W.Frag) (C:Addr) (m:Str) (f:Addr):Prop where
 at_:W.findIn K (.ref C) m=some (some (.ref f))
 fn:W.isFn K (.ref f)=true
 kp:W.keepIn K (.ref f)=true
section
variable {X:Cx}{pins:List (Addr×Obj)}{σ:St}{H:Hp}{s:Shared}{a C dx:Addr}{fs:List (Str×V)}{f:Str}{v:V}{A:Around}{E:Value->Shared->Prop}
theorem fO {b:Bool}{Q:Value->Shared->Prop} (I:Inv X pins σ H s) (e:H a=some (.ins C dx fs)) (c:Cls X.K C) (n:NoAttr X.K C f) (l:fs.lookup f=some v)
  (h:∀ u s',Inv X pins σ H s'->RelV v u->Q u s'):wpAny (model X.prog X.w) A (getAttr (.ref a) f b) Q E s:=by
 obtain⟨mA,O,r,_,_,_⟩:=e9 I.hok e
 obtain⟨u,hu,ru⟩:=RelO.some_of (v:=v) (o:=mA f) (by rw[<- l]; exact r f)
 exact pG I.kIn O (c.get f) c.hd n hu (lI ru) (h u _ (I.tok _) ru)
theorem fN {m:Str}{g:Addr}{pl:Sem Bool}{Q:Value×List Value->Shared->Prop} (I:Inv X pins σ H s) (e:H a=some (.ins C dx fs)) (c:Cls X.K C) (k:Meth X.K C m g) (l:fs.lookup m=none)
  (h:Q (.ref g,[.ref a]) s):wpAny (model X.prog X.w) A (getMethod (.ref a) m pl) Q E s:=by
 obtain⟨mA,O,r,_,_,_⟩:=e9 I.hok e
 have hn:mA m=none:=RelO.none_of (by rw[<- l]; exact r m)
 exact nZ I.kIn O (c.get m) k.at_ k.fn hn h
theorem fq {y:V}{u:Value}{Q:Unit->Shared->Prop} (I:Inv X pins σ H s) (e:H a=some (.ins C dx fs)) (c:Cls X.K C) (n:NoAttr X.K C f) (hl:fs.length<1000) (ry:RelV y u)
  (h:∀ s',Inv X pins σ (upd H a (.ins C dx (bp f y fs))) s'->Q () s'):wpAny (model X.prog X.w) A (setAttr (.ref a) f u) Q E s:=by
 obtain⟨mA,O,r,wi,_,ho⟩:=e9 I.hok e
 have hz:(fs.map (·.1)).length<=sizeLine:=by rw[length_map,sizeLine_eq]; omega
 refine oV I.kIn O c.sa c.po n.taker c.hd wi hz fun h' O' sb=>h _ ?_
 have hd:∃ o,h'.get? dx=some o:=let ⟨o,_,_,e',_⟩:=O'.ns; ⟨o,e'⟩
 refine I.write (x:=a) (e:=dx) (by rw[e]; exact True.intro) (.inr ho) (fun b q hb z=>(sb.2 b hb).trans z) hd ?_
 refine⟨by rw[aJ O.ne]; exact ho,?_,O.ne,O'.obj,_,O'.ns,fun g=>?_,fun g hg=>?_⟩
 ·have:=eB f y fs; omega
 ·show RelO ((bp f y fs).lookup g) (if g=f then some u else mA g)
  rw[et]
  by_cases q:g=f
  ·rw[if_pos q,if_pos q]; exact ry
  ·rw[if_neg q,if_neg q]; exact r g
 ·by_cases q:g=f
  ·rw[q]; exact(d9 f y fs).1
  ·refine(d9 f y fs).2 g (wi g fun z=>hg ?_)
   show(if g=f then some u else mA g)=none
   rw[if_neg q]; exact z
theorem Inv.made (I:Inv X pins σ H s):Inv X pins σ (upd (upd H s.heap.objs.size (.own (s.heap.objs.size+1))) (s.heap.objs.size+1) (.ins C s.heap.objs.size []))
  { s with heap:=(s.heap.push PySem.W.emptyDict).push (PySem.W.instObj C s.heap.objs.size) }:=by
 have e1:(s.heap.push PySem.W.emptyDict).get? s.heap.objs.size=some PySem.W.emptyDict:=Heap.get?_push_size s.heap rfl
 have e2:((s.heap.push PySem.W.emptyDict).push (PySem.W.instObj C s.heap.objs.size)).get? (s.heap.objs.size+1)=some (PySem.W.instObj C s.heap.objs.size):=by
  have:=Heap.get?_push_size (s.heap.push PySem.W.emptyDict) (o:=PySem.W.instObj C s.heap.objs.size) rfl
  rwa [Heap.size_push] at this
 have e3:(s.heap.push PySem.W.emptyDict).Ns s.heap.objs.size (fun _=>none):=⟨PySem.W.emptyDict,#[],_,e1,U,(fun e he=>absurd he (by simp)),fun _=>rfl⟩
 have I1:=I.laid (a:=s.heap.objs.size) (o:=.own (s.heap.objs.size+1)) (h':=s.heap.push PySem.W.emptyDict) (t':=s.toks) (fun b u q=>Heap.get?_push_of_some _ q) (Nat.le_refl _) ⟨_,e1⟩
 refine I1.laid (a:=s.heap.objs.size+1) (o:=.ins C s.heap.objs.size []) (t':=s.toks) (fun b u q=>Heap.get?_push_of_some _ q) (Nat.le_of_eq (Heap.size_push _ _)) ?_
 have ne:s.heap.objs.size≠s.heap.objs.size+1:=Nat.ne_of_lt (Nat.lt_succ_self _)
 refine⟨by rw[aJ ne,bx],Nat.zero_le _,ne,e2,fun _=>none,(Heap.Ns1.of_empty e3).at fun o q=>Heap.get?_push_of_some _ q,fun _=>True.intro,fun y hy=>absurd rfl hy⟩
theorem p4 {prog:Program}{w:World}{env:Env}{e:Expr}{f:Str}{pos:Pos}{s:Shared}{Q:Value->Shared->Prop} (hb:attributeBase e f env (eval e env)=eval e env)
  (h:wpAny (model prog w) A (eval e env) (fun o s₁=>wpAny (model prog w) A (getAttr o f true) Q E s₁) E s):wpAny (model prog w) A (eval (.Attribute e f pos) env) Q E s :=
 Attribute_any_ h (by rw[arm_eval_Attribute,hb])
end
noncomputable def tFld (K:PySem.W.Frag) (ta:TE) (f:Str):TE:=fun σ H Q=>ta σ H fun x H1=>∃ a C dx fs v,x=.ref a/\H1 a=some (.ins C dx fs)/\Cls K C/\NoAttr K C f/\fs.lookup f=some v/\Q v H1
noncomputable def sFld (K:PySem.W.Frag) (ta tv:TE) (f:Str):TS:=fun D σ H=>tv σ H fun y H1=>ta σ H1 fun x H2=>∃ a C dx fs,x=.ref a/\H2 a=some (.ins C dx fs)/\Cls K C/\NoAttr K C f/\fs.length<1000 /\
 D.nx σ (upd H2 a (.ins C dx (bp f y fs)))
noncomputable def tW (X:Cx) (op:Operator) (rd:V->V->Hp->VK->Prop):Prop :=
 ∀ (pins:List (Addr×Obj)) (s:Shared) (σ:St) (H:Hp) (x y:V) (u v:Value) (Q:VK),Inv X pins σ H s->RelV x u->RelV y v->rd x y H Q->wpAny (model X.prog X.w) X.A (inplaceOp op u v) (EP X pins σ Q) X.xe s
noncomputable def oW (K:PySem.W.Frag) (ta tv:TE) (rd:V->V->Hp->VK->Prop) (f:Str):TS:=fun D σ H=>ta σ H fun x H1=>∃ a C dx fs v,x=.ref a/\H1 a=some (.ins C dx fs)/\Cls K C/\NoAttr K C f/\fs.lookup f=some v /\
 tv σ H1 fun y H2=>rd v y H2 fun z H3=>∃ dx' fs',H3 a=some (.ins C dx' fs')/\fs'.length<1000/\D.nx σ (upd H3 a (.ins C dx' (bp f z fs')))
section
variable {X:Cx}{o e value:Expr}{f:Str}{pos pos' tpos:Pos}{ta tv:TE}
theorem au (he:PE X e ta) (hb:attributeBase e f X.env (eval e X.env)=eval e X.env):PE X (.Attribute e f pos) (tFld X.K ta f):=by
 intro pins s σ H Q I h
 refine p4 hb (thn (he pins s σ H _ I h) fun u s1 z_=>z_.elim fun x z_=>z_.elim fun H1 z_=>z_.elim fun I1 z_=>z_.elim fun rx z_=>z_.elim fun a z_=>z_.elim fun C z_=>z_.elim fun dx z_=>z_.elim fun fs z_=>z_.elim fun v z_=>z_.elim fun ex z_=>z_.elim fun ea z_=>z_.elim fun c z_=>z_.elim fun n z_=>z_.elim fun l q=>?_)
 subst ex
 obtain rfl:u=Value.ref a:=rx
 exact fO I1 ea c n l fun u' s2 I2 ru=>⟨v,H1,I2,ru,q⟩
theorem bt (ha:PE X o ta) (hv:PE X value tv) (hs:swapsWith value (some (.Attribute o f pos')) pos.line X.env=pure false):PS X (.Assign [.Attribute o f pos'] value pos) (sFld X.K ta tv f):=by
 intro pins s σ H D I h
 refine plainObj_wpAny_Assign_Attribute (thn (hv pins s σ H _ I h) fun u s1 z_=>z_.elim fun y z_=>z_.elim fun H1 z_=>z_.elim fun I1 z_=>z_.elim fun ry q=>thn (ha pins s1 σ H1 _ I1 q) fun ov s2 z_=>z_.elim fun x z_=>z_.elim fun H2 z_=>z_.elim fun I2 z_=>z_.elim fun rx z_=>z_.elim fun a z_=>z_.elim fun C z_=>z_.elim fun dx z_=>z_.elim fun fs z_=>z_.elim fun ex z_=>z_.elim fun ea z_=>z_.elim fun c z_=>z_.elim fun n z_=>z_.elim fun l q2=>?_) hs
 subst ex
 obtain rfl:ov=Value.ref a:=rx
 exact fq I2 ea c n l ry fun s3 I3=>⟨σ,_,I3,q2⟩
theorem lg {op:Operator}{rd:V->V->Hp->VK->Prop} (ha:PE X o ta) (hv:PE X value tv) (hop:tW X op rd):PS X (.AugAssign (.Attribute o f tpos) op value pos) (oW X.K ta tv rd f):=by
 intro pins s σ H D I h
 refine wpAny_AugAssign_AttributeAny (thn (ha pins s σ H _ I h) fun ov s1 z_=>z_.elim fun x z_=>z_.elim fun H1 z_=>z_.elim fun I1 z_=>z_.elim fun rx z_=>z_.elim fun a z_=>z_.elim fun C z_=>z_.elim fun dx z_=>z_.elim fun fs z_=>z_.elim fun v z_=>z_.elim fun ex z_=>z_.elim fun ea z_=>z_.elim fun c z_=>z_.elim fun n z_=>z_.elim fun l q=>?_)
 subst ex
 obtain rfl:ov=Value.ref a:=rx
 refine fO I1 ea c n l fun u s2 I2 ru=>thn (hv pins s2 σ H1 _ I2 q) fun w3 s3 z_=>z_.elim fun y z_=>z_.elim fun H2 z_=>z_.elim fun I3 z_=>z_.elim fun ry q3=>thn (hop pins s3 σ H2 v y u w3 _ I3 ru ry q3) fun w4 s4 z_=>z_.elim fun z z_=>z_.elim fun H3 z_=>z_.elim fun I4 z_=>z_.elim fun rz z_=>z_.elim fun dx' z_=>z_.elim fun fs' z_=>z_.elim fun ea' z_=>z_.elim fun l' q4=>?_
 exact fq I4 ea' c n l' rz fun s5 I5=>⟨σ,_,I5,q4⟩
noncomputable def rAdd:V->V->Hp->VK->Prop:=fun x y H Q=>∃ i j,x=.int i/\y=.int j/\Q (.int (i+j)) H
theorem rO:tW X .Add rAdd:=by
 rintro pins s σ H x y u v Q I rx ry ⟨i,j,rfl,rfl,q⟩
 obtain⟨t,rfl⟩:=(show ∃ t,u=Value.int i t from rx)
 obtain⟨t',rfl⟩:=(show ∃ t',v=Value.int j t' from ry)
 exact PyProof.Rows.iadd_int ⟨.int (i+j),H,I.tok _,⟨_,U⟩,q⟩
end
section
variable {X:Cx}{pins:List (Addr×Obj)}{σ:St}{H:Hp}{s:Shared}{A:Around}{E:Value->Shared->Prop}{Q:Value->Shared->Prop}{c:Value}{b:Bool}
inductive TyOf (K:PySem.W.Frag) (H:Hp):V->Value->Prop where
 | non:TyOf K H .non (.type "NoneType")
 | bl (x:Bool):TyOf K H (.bl x) (.type "bool")
 | int (i:Int):TyOf K H (.int i) (.type "int")
 | str (x:Str):TyOf K H (.str x) (.type "str")
 | flt (x:UInt64):TyOf K H (.flt x) (.type "float")
 | lst {a:Addr}{xs:List V} (e:H a=some (.lst xs)):TyOf K H (.ref a) (.type "list")
 | frz {a:Addr}{o:Obj}{xs:List V} (e:H a=some (.frz o (.lst xs))):TyOf K H (.ref a) (.type "list")
 | tup {a:Addr}{xs:List V} (e:H a=some (.tup xs)):TyOf K H (.ref a) (.type "tuple")
 | dK {a:Addr}{kvs:List (Key×V)} (e:H a=some (.dK kvs)):TyOf K H (.ref a) (.type "dict")
 | dT {a:Addr}{kvs:List (List Key×V)} (e:H a=some (.dT kvs)):TyOf K H (.ref a) (.type "dict")
 | ins {a C dx:Addr}{fs:List (Str×V)} (e:H a=some (.ins C dx fs)) (cl:Cls K C) (ha:W.findIn K (.ref C) "__class__" = some (some (.builtin "object.__class__")))
   (hn:PySem.W.specialIn K (.builtin "object.__class__") "__get__" = some (some (.builtin "getset_descriptor.__get__"))) (htk:PySem.W.takesIn K (.builtin "object.__class__")=some true)
   (hm:PySem.W.mroIn K C (.type "object")=some true):TyOf K H (.ref a) (.ref C)
theorem lD {x:V}{u t:Value} (I:Inv X pins σ H s) (rx:RelV x u) (ty:TyOf X.K H x t) (e:PySem.W.kitOne X.K t c=some b) (h:∀ tk,Q (.bool b) { s with toks:=tk }) :
  wpAny (model X.prog X.w) A (call (.builtin "isinstance") [u,c]) Q E s:=by
 cases ty with
 | non=>cases (show u=Value.none from rx); exact PySem.W.kia_one PySem.W.kitx_none I.kIn True.intro e (fun z=>nomatch z) h
 | bl y=>cases (show u=Value.bool y from rx); exact PySem.W.kia_one PySem.W.kitx_bool I.kIn True.intro e (fun z=>nomatch z) h
 | int i=>obtain⟨t,q⟩:=(show ∃ t,u=Value.int i t from rx); cases q; exact PySem.W.kia_one PySem.W.kitx_int I.kIn True.intro e (fun z=>nomatch z) h
 | str y=>obtain⟨t,q⟩:=(show ∃ t,u=Value.str y t from rx); cases q; exact PySem.W.kia_one PySem.W.kitx_str I.kIn True.intro e (fun z=>nomatch z) h
 | flt y=>obtain⟨t,q⟩:=(show ∃ t,u=Value.float y t from rx); cases q; exact PySem.W.kia_one PySem.W.kitx_float I.kIn True.intro e (fun z=>nomatch z) h
 | @lst a xs ea=>
  cases (show u=Value.ref a from rx)
  obtain⟨_,_,n,_,h1⟩:=(show ObjOk X.prog X.w H s.heap a (.lst xs) from I.hok a _ ea)
  exact PySem.W.kia_one PySem.W.kitx_list I.kIn ⟨_,h1,U⟩ e (fun z=>nomatch z) h
 | @frz a ob xs ea=>
  cases (show u=Value.ref a from rx)
  obtain⟨_,_,_,n,_,h1⟩:=(show ObjOk X.prog X.w H s.heap a (.frz ob (.lst xs)) from I.hok a _ ea)
  exact PySem.W.kia_one PySem.W.kitx_list I.kIn ⟨_,h1,U⟩ e (fun z=>nomatch z) h
 | @tup a xs ea=>
  cases (show u=Value.ref a from rx)
  obtain⟨_,_,_,p⟩:=(show ObjOk X.prog X.w H s.heap a (.tup xs) from I.hok a _ ea)
  obtain⟨o,h1,h2,_⟩:=p
  exact PySem.W.kia_one PySem.W.kitx_tuple I.kIn ⟨o,h1,h2⟩ e (fun z=>nomatch z) h
 | @dK a kvs ea=>
  cases (show u=Value.ref a from rx)
  obtain⟨_,_,vs,_,p⟩:=(show ObjOk X.prog X.w H s.heap a (.dK kvs) from I.hok a _ ea)
  obtain⟨o,es,ep,h1,h2,_⟩:=p
  exact PySem.W.kia_one PySem.W.kitx_dict I.kIn ⟨o,h1,h2.1⟩ e (fun z=>nomatch z) h
 | @dT a kvs ea=>
  cases (show u=Value.ref a from rx)
  obtain⟨_,_,xs,_,o,es,ep,h1,h2,_⟩:=(show ObjOk X.prog X.w H s.heap a (.dT kvs) from I.hok a _ ea)
  exact PySem.W.kia_one PySem.W.kitx_dict I.kIn ⟨o,h1,h2.1⟩ e (fun z=>nomatch z) h
 | @ins a C dx fs ea cl ha hn htk hm=>
  cases (show u=Value.ref a from rx)
  obtain⟨mA,O,_⟩:=e9 I.hok ea
  obtain⟨od,J,_⟩:=O.look
  exact PySem.W.kia_one (PySem.W.kitx_own (cl.get _) cl.hd ha hn htk hm) I.kIn J e (fun z=>nomatch z) h
end
structure Room (k:Nat) (A:Around):Prop where
 hd:A.handled=none
 dp:A.depth+3*k+5<recursionLimit
 un:A.units+16*k+200<cLine
 gd:A.guards=some []
theorem Room.mono {j k:Nat}{A:Around} (r:Room k A) (h:j<=k):Room j A:=⟨r.hd,by have:=r.dp; omega,by have:=r.un; omega,r.gd⟩
theorem Room.deeper {k:Nat}{A:Around} (r:Room (k+1) A) (env:Env):Room k (A.deeper env) :=
 ⟨r.hd,by have:=r.dp; show A.depth+1+3*k+5<_; omega,by have:=r.un; show A.units+3+16*k+200<_; omega,r.gd⟩
theorem jK {A:Around}{C:Addr}{us:List Value}{kw:List (Str×Value)}:(A.under (.builtin "type.__call__" ⟨.ref C::us,kw⟩)).depth=A.depth+1:=by
 first | rfl | simp[Around.under,Code.weight,Code.isCreation,Code.isGuard,Code.isCaller,Code.frames,Code.isFrame,guardIds]
theorem jJ {A:Around}{C:Addr}{us:List Value}{kw:List (Str×Value)}:(A.under (.builtin "type.__call__" ⟨.ref C::us,kw⟩)).units=A.units+1:=by
 first | rfl | simp[Around.under,Code.cUnits,Code.frames,Code.isFrame]
theorem iZ {A:Around}{C:Addr}{us:List Value}{kw:List (Str×Value)}:(A.under (.builtin "type.__call__" ⟨.ref C::us,kw⟩)).guards=A.guards:=by
 cases h:A.guards with
 | none=>simp[Around.under,Code.guards,Code.isGuard,guardIds,pushGuards,h]
 | some l=>simp[Around.under,Code.guards,Code.isGuard,guardIds,pushGuards,h]
theorem Room.make {k:Nat}{A:Around} (r:Room (k+1) A) (C:Addr) (us:List Value) (kw:List (Str×Value)):Room k (A.under (.builtin "type.__call__" ⟨.ref C::us,kw⟩)) :=
 ⟨r.hd,by have:=r.dp; rw[jK]; omega,by have:=r.un; rw[jJ]; omega,by rw[iZ]; exact r.gd⟩
theorem Room.depth {k:Nat}{A:Around} (r:Room k A):A.depth<recursionLimit:=by have:=r.dp; omega
theorem Room.units {k:Nat}{A:Around} (r:Room k A):A.units+64<cLine:=by have:=r.un; omega
noncomputable def l8:TA:=fun _ H Q=>Q [] H
noncomputable def tCons (ta:TE) (tr:TA):TA:=fun σ H Q=>ta σ H fun x H1=>tr σ H1 fun xs H2=>Q (x::xs) H2
section
variable {X:Cx}{e:Expr}{es:List Expr}{te:TE}{t:TA}{pos:Pos}
theorem ae:PA X [] l8:=fun _ _ _ _ H Q I h=>Calls.spliced_nil ⟨[],H,I,.nil,h⟩
theorem aa (ha:PE X e te) (hr:PA X es t) (hs:starEach (e::es) X.env=(false,eval e X.env)::starEach es X.env:=by rfl):PA X (e::es) (tCons te t):=by
 intro pos pins s σ H Q I h
 rw[hs]
 show wpAny _ _ (spliced ((false,eval e X.env)::backTo pos (starEach es X.env))) _ _ s
 refine Calls.spliced_cons (thn (ha pins s σ H _ I h) fun u s1 z_=>z_.elim fun x z_=>z_.elim fun H1 z_=>z_.elim fun I1 z_=>z_.elim fun r1 q1=>?_)
 exact thn (hr pos pins s1 σ H1 _ I1 q1) fun us s2 z_=>z_.elim fun xs z_=>z_.elim fun H2 z_=>z_.elim fun I2 z_=>z_.elim fun r2 q2=>⟨x::xs,H2,I2,.cons r1 r2,q2⟩
noncomputable def tTup (t:TA):TE:=fun σ H Q=>t σ H fun xs H1=>xs.length<=sizeLine/\∀ p,H1 p=none->Q (.ref p) (upd H1 p (.tup xs))
noncomputable def tLst (t:TA):TE:=fun σ H Q=>t σ H fun xs H1=>xs.length<=sizeLine/\∀ p,H1 p=none->Q (.ref p) (upd H1 p (.lst xs))
theorem aO {x1} (h:PA X es t):PE X (.Tuple es x1 pos) (tTup t):=by
 intro pins s σ H Q I hq
 refine wpAny_Tuple_spliced (thn (h pos pins s σ H _ I hq) fun us s1 z_=>z_.elim fun xs z_=>z_.elim fun H1 z_=>z_.elim fun I1 z_=>z_.elim fun r z_=>z_.elim fun z q=>⟨by rw[<- r.length]; exact z,?_⟩)
 have hf:H1 s1.heap.objs.size=none:=I1.hok.fresh (Nat.le_refl _)
 refine⟨.ref s1.heap.objs.size,upd H1 s1.heap.objs.size (.tup xs),I1.laid (t':=s1.toks) (fun b u e=>Heap.get?_push_of_some _ e) (Nat.le_refl _) ?_,U,q _ hf⟩
 exact⟨z,us,r,⟨_,Heap.get?_push_size _ rfl,U,_,U⟩⟩
theorem bI (h:PA X es t):PE X (.List es pos) (tLst t):=by
 intro pins s σ H Q I hq
 refine wpAny_List_spliced (thn (h pos pins s σ H _ I hq) fun us s1 z_=>z_.elim fun xs z_=>z_.elim fun H1 z_=>z_.elim fun I1 z_=>z_.elim fun r z_=>z_.elim fun z q=>⟨by rw[<- r.length]; exact z,?_⟩)
 have hf:H1 s1.heap.objs.size=none:=I1.hok.fresh (Nat.le_refl _)
 refine⟨.ref s1.heap.objs.size,upd H1 s1.heap.objs.size (.lst xs),I1.laid (t':=s1.toks) (fun b u e=>Heap.get?_push_of_some _ e) (Nat.le_refl _) ?_,U,q _ hf⟩
 exact⟨z,us,0,r,Heap.get?_push_size _ rfl⟩
end
noncomputable abbrev Sp:=List V->Hp->VK->XK->Prop
noncomputable abbrev CXT:=List Env->Hp->Shared->XK->Value->Shared->Prop
structure Env0 (P:Program) (w:World) (K:PySem.W.Frag) (mg:Str->Option Value) (base:Heap) (A:Around) (outer:List Env) (s:Shared) (H:Hp):Prop where
 frames:A.frames=some outer
 mod:Mod K mg base
 bs:∀ b o,base.get? b=some o->s.heap.get? b=some o/\H b=none
 bsz:base.objs.size<=s.heap.objs.size
 funs:s.heap.FunFrames base outer
 frf:∀ b ∈ frs outer,H b=none
 hok:HOk P w H s.heap
 bare:AllBare s.gens
noncomputable def CE (outer:List Env) (P:Program) (w:World) (H:Hp) (s:Shared) (Q:VK) (u:Value) (s':Shared):Prop :=
 ∃ v H',s'.os=s.os/\AllBare s'.gens/\Un (frs outer) [] H H' s.heap s'.heap/\HOk P w H' s'.heap/\RelV v u/\Q v H'
noncomputable def CR (CX:CXT) (outer:List Env) (P:Program) (w:World) (H:Hp) (s:Shared) (Q:VK) (E:XK) (r:Result) (s':Shared):Prop :=
 match r with
 | .ok (.ret u)=>CE outer P w H s Q u s'
 | .ok _=>False
 | .error e=>CX outer H s E e s'
structure FnOk (P:Program) (w:World) (K:PySem.W.Frag) (mg:Str->Option Value) (base:Heap) (CX:CXT) (k:Nat) (f:Addr) (fd:FuncData) (ps:List Str) (sp:Sp):Prop where
 len:∀ vs H Q E,sp vs H Q E->vs.length=ps.length
 run:∀ (A:Around) (outer:List Env) (s:Shared) (H:Hp) (args:Args) (us:List Value) (vs:List V) (Q:VK) (E:XK),Room k A->Env0 P w K mg base A outer s H->BindsTo s fd args (ps.zip us)->Vals vs us->sp vs H Q E ->
  codeAny (model P w) A (.call (.ref f) args) (CR CX outer P w H s Q E) s
theorem Env0.make {P:Program}{w:World}{K:PySem.W.Frag}{mg:Str->Option Value}{base:Heap}{A:Around}{outer:List Env}{s:Shared}{H:Hp} (e:Env0 P w K mg base A outer s H) (C:Addr) (us:List Value) (kw:List (Str×Value)) :
  Env0 P w K mg base (A.under (.builtin "type.__call__" ⟨.ref C :: us,kw⟩)) outer s H:=⟨by first | exact e.frames | (simpa [Around.under,Code.envs,Code.isFrame,pushEnvs] using e.frames),e.mod,e.bs,e.bsz,e.funs,e.frf,e.hok,e.bare⟩
section
variable {X:Cx}{pins:List (Addr×Obj)}{σ:St}{H:Hp}{s s':Shared}
theorem Inv.env0 (I:Inv X pins σ H s):Env0 X.prog X.w X.K X.mg X.base X.A X.stack s H :=
 ⟨I.ok.frames,I.ok.mod,I.bs,Nat.le_trans I.ok.bsz I.sz,I.stack,I.stkFree,I.hok,I.bare⟩
theorem Inv.after {Q:VK}{u:Value} (I:Inv X pins σ H s) (h:CE X.stack X.prog X.w H s Q u s'):EP X pins σ Q u s':=by
 obtain⟨v,H',os,bare,un,hok,r,q⟩:=h
 obtain⟨hh,g,d,t,os'⟩:=s'
 obtain rfl:os'=s.os:=os
 exact⟨v,H',I.call (h':=hh) (g':=g) (d':=d) (t':=t) (ch:=[]) un hok bare (fun b z=>absurd z (by simp)),r,q⟩
end
noncomputable def me (sp:Sp) (dvs:List V) (E:XK) (t:TA):TE:=fun σ H Q=>t σ H fun vs H1=>sp (vs++dvs) H1 Q E
noncomputable def l9 (C:Addr) (m:Str) (sp:Sp) (dvs:List V) (E:XK) (ta:TE) (t:TA):TE:=fun σ H Q=>ta σ H fun x H1=>∃ a dx fs,x=.ref a/\H1 a=some (.ins C dx fs)/\fs.lookup m=none /\
 t σ H1 fun vs H2=>sp (x::(vs++dvs)) H2 Q E
noncomputable def tMake (C:Addr) (sp:Sp) (dvs:List V) (E:XK) (t:TA):TE:=fun σ H Q=>t σ H fun vs H1=>∀ x dx,H1 x=none->H1 dx=none->dx≠x ->
 sp (.ref x::(vs++dvs)) (upd (upd H1 dx (.own x)) x (.ins C dx [])) (fun v H2=>v=.non/\Q (.ref x) H2) E
noncomputable def Binds (K:PySem.W.Frag) (fd:FuncData) (ps:List Str) (ds:List Value):Prop :=
 ∀ (s:Shared) (us:List Value),K.In s.heap->(us++ds).length=ps.length->BindsTo s fd ⟨us,[]⟩ (ps.zip (us++ds))
theorem Binds.all {K:PySem.W.Frag}{fd:FuncData}{ps:List Str} (h:∀ us:List Value,us.length=ps.length->bindArgs fd ⟨us,[]⟩=pure (ps.zip us)):Binds K fd ps []:=fun s us _ hl=>by
 rw[append_nil] at hl ⊢
 exact .of_eq (h us hl)
noncomputable def c6 (CX:CXT) (X:Cx) (E:XK):Prop:=∀ (pins:List (Addr×Obj)) (σ:St) (H:Hp) (s:Shared) (e:Value) (s':Shared),Inv X pins σ H s->CX X.stack H s E e s'->X.xe e s'
section
variable {X:Cx}{CX:CXT}{k:Nat}{f C:Addr}{fd:FuncData}{ps:List Str}{sp:Sp}{dvs:List V}{ds:List Value}{E:XK}{x m:Str}{p pos apos:Pos}{e o:Expr}{es:List Expr}{ta:TE}{t:TA}
theorem gO {pins:List (Addr×Obj)}{σ:St}{H:Hp}{s:Shared}{Q:VK}{us:List Value}{vs:List V} (F:FnOk X.prog X.w X.K X.mg X.base CX k f fd ps sp) (hr:Room k X.A) (hb:Binds X.K fd ps ds) (hd:Vals dvs ds) (hx:c6 CX X E)
  (I:Inv X pins σ H s) (r:Vals vs us) (h:sp (vs++dvs) H Q E):wpAny (model X.prog X.w) X.A (call (.ref f) us) (EP X pins σ Q) X.xe s:=by
 have r2:Vals (vs++dvs) (us++ds):=r.append hd
 have hl:(us++ds).length=ps.length:=by rw[<- r2.length]; exact F.len _ _ _ _ h
 refine wpAny_call (codeAny_mono (F.run X.A X.stack s H ⟨us,[]⟩ (us++ds) (vs++dvs) Q E hr I.env0 (hb s us I.kIn hl) r2 h) fun r s' hq=>?_)
 cases r with
 | error e=>exact hx pins σ H s e s' I hq
 | ok fl=>
  cases fl with
  | ret u=>exact I.after hq
  | next=>exact False.elim hq
  | brk=>exact False.elim hq
  | cont=>exact False.elim hq
theorem o7 (F:FnOk X.prog X.w X.K X.mg X.base CX k f fd ps sp) (hr:Room k X.A) (hg:Gl X x) (hm:X.mg x=some (.ref f)) (hk:W.keepIn X.K (.ref f)=true) (hb:Binds X.K fd ps ds) (hd:Vals dvs ds) (hx:c6 CX X E)
  (ha:PA X (e::es) t) (hdb:(x == ("__debug__" : Str))=false:=by decide) (he:starEach (e::es) X.env=(false,eval e X.env)::starEach es X.env:=by rfl) (hpl:(backTo pos (starEach es X.env)).any (·.1)=false:=by rfl) :
  PE X (.Call (.Name x p) (e::es) [] pos) (me sp dvs E t):=by
 intro pins s σ H Q I h
 refine wpAny_Call_Name_kw (eY I hg hm ?_ hdb)
 refine PySem.W.callWith_K (h₀:=X.base) I.ok.mod.kin hk (thn (ha pos pins s σ H _ I h) fun us s1 z_=>z_.elim fun vs z_=>z_.elim fun H1 z_=>z_.elim fun I1 z_=>z_.elim fun r q=>⟨I1.kIn,?_⟩) he hpl
 exact gO F hr hb hd hx I1 r q
theorem nB (F:FnOk X.prog X.w X.K X.mg X.base CX k f fd ps sp) (hr:Room k X.A) (hg:Gl X x) (hm:X.mg x=some (.ref f)) (hk:W.keepIn X.K (.ref f)=true) (hb:Binds X.K fd ps ds) (hd:Vals dvs ds) (hx:c6 CX X E)
  (hdb:(x == ("__debug__" : Str))=false:=by decide):PE X (.Call (.Name x p) [] [] pos) (me sp dvs E l8):=by
 intro pins s σ H Q I h
 refine wpAny_Call_Name_kw (eY I hg hm ?_ hdb)
 exact PySem.W.callWith_K0 I.kIn hk (gO (us:=[]) F hr hb hd hx I .nil h)
theorem aK {pl:Sem Bool}{nr:Nat} (he:PE X o ta) (c:Cls X.K C) (hm:Meth X.K C m f) (F:FnOk X.prog X.w X.K X.mg X.base CX k f fd ps sp) (hr:Room nr X.A) (hb:Binds X.K fd ps ds) (hd:Vals dvs ds) (hx:c6 CX X E) (ha:PA X (e::es) t)
  (hst:starEach (e::es) X.env=(false,eval e X.env)::starEach es X.env:=by rfl) (hpl:(backTo pos (starEach es X.env)).any (·.1)=false:=by rfl)
  (ht:eval (.Call (.Attribute o m apos) (e::es) [] pos) X.env=(do
   let ov <- eval o X.env
   standAt apos.atName
   let (f,first) <- holding [ov] (getMethod ov m pl)
   callWith pos f first (backTo pos (starEach (e::es) X.env)) (backToKw pos (keywordEach [] X.env))):=by rfl) (hj:k<=nr:=by decide) :
  PE X (.Call (.Attribute o m apos) (e::es) [] pos) (l9 C m sp dvs E ta t):=by
 intro pins s σ H Q I h
 refine PySem.W.methodCall_KW (pl:=pl) (thn (he pins s σ H _ I h) fun u s1 z_=>z_.elim fun x z_=>z_.elim fun H1 z_=>z_.elim fun I1 z_=>z_.elim fun rx z_=>z_.elim fun a z_=>z_.elim fun dx z_=>z_.elim fun fs z_=>z_.elim fun ex z_=>z_.elim fun ea z_=>z_.elim fun l q=>?_) ht
 subst ex
 obtain rfl:u=Value.ref a:=rx
 refine fN I1 ea c hm l ?_
 refine PySem.W.callWith_K (first:=[.ref a]) (h₀:=X.base) I.ok.mod.kin hm.kp (thn (ha pos pins s1 σ H1 _ I1 q) fun us s2 z_=>z_.elim fun vs z_=>z_.elim fun H2 z_=>z_.elim fun I2 z_=>z_.elim fun r q2=>⟨I2.kIn,?_⟩) hst hpl
 exact gO (us:=.ref a::us) (vs:=.ref a::vs) F (hr.mono hj) hb hd hx I2 (.cons rfl r) q2
theorem aS {pl:Sem Bool}{nr:Nat} (he:PE X o ta) (c:Cls X.K C) (hm:Meth X.K C m f) (F:FnOk X.prog X.w X.K X.mg X.base CX k f fd ps sp) (hr:Room nr X.A) (hb:Binds X.K fd ps ds) (hd:Vals dvs ds) (hx:c6 CX X E)
  (ht:eval (.Call (.Attribute o m apos) [] [] pos) X.env=(do
   let ov <- eval o X.env
   standAt apos.atName
   let (f,first) <- holding [ov] (getMethod ov m pl)
   callWith pos f first (backTo pos (starEach [] X.env)) (backToKw pos (keywordEach [] X.env))):=by rfl) (hj:k<=nr:=by decide) :
  PE X (.Call (.Attribute o m apos) [] [] pos) (l9 C m sp dvs E ta l8):=by
 intro pins s σ H Q I h
 refine PySem.W.methodCall_KW (pl:=pl) (thn (he pins s σ H _ I h) fun u s1 z_=>z_.elim fun x z_=>z_.elim fun H1 z_=>z_.elim fun I1 z_=>z_.elim fun rx z_=>z_.elim fun a z_=>z_.elim fun dx z_=>z_.elim fun fs z_=>z_.elim fun ex z_=>z_.elim fun ea z_=>z_.elim fun l q=>?_) ht
 subst ex
 obtain rfl:u=Value.ref a:=rx
 refine fN I1 ea c hm l ?_
 exact PySem.W.callWith_K0 (first:=[.ref a]) I1.kIn hm.kp (gO (us:=[.ref a]) (vs:=[.ref a]) F (hr.mono hj) hb hd hx I1 (.cons rfl .nil) q)
structure Mk (K:PySem.W.Frag) (C f:Addr):Prop where
 makes:W.makesIn K C=true
 init:W.findIn K (.ref C) "__init__" = some (some (.ref f))
 fn:W.isFn K (.ref f)=true
 kp:W.keepIn K (.ref C)=true
theorem m9 {pins:List (Addr×Obj)}{σ:St}{H:Hp}{s:Shared}{Q:VK}{us:List Value}{vs:List V} (M:Mk X.K C f) (F:FnOk X.prog X.w X.K X.mg X.base CX k f fd ps sp) (hr:Room (k+1) X.A) (hb:Binds X.K fd ps ds) (hd:Vals dvs ds)
  (hx:c6 CX X E) (I:Inv X pins σ H s) (r:Vals vs us)
  (h:∀ x dx,H x=none->H dx=none->dx≠x->sp (.ref x::(vs++dvs)) (upd (upd H dx (.own x)) x (.ins C dx [])) (fun v H2=>v=.non/\Q (.ref x) H2) E) :
  wpAny (model X.prog X.w) X.A (call (.ref C) us) (EP X pins σ Q) X.xe s:=by
 have hq:=h (s.heap.objs.size+1) s.heap.objs.size (I.hok.fresh (Nat.le_succ _)) (I.hok.fresh (Nat.le_refl _)) (Nat.ne_of_lt (Nat.lt_succ_self _))
 have I2:=Inv.made (C:=C) I
 have r2:Vals (V.ref (s.heap.objs.size+1)::(vs++dvs)) (Value.ref (s.heap.objs.size+1)::(us++ds)):=.cons rfl (r.append hd)
 have hl:(Value.ref (s.heap.objs.size+1)::us++ds).length=ps.length:=by
  have e:=r2.length
  rw[F.len _ _ _ _ hq] at e
  exact e.symm
 refine wpAny_call (nR (f:=f) I.kIn M.makes M.init (beq_iff_eq.mp M.fn) (codeAny_mono (F.run _ X.stack _ _ ⟨Value.ref (s.heap.objs.size+1)::us,[]⟩ (Value.ref (s.heap.objs.size+1)::(us++ds)) _ _ E (hr.make C us [])
  (I2.env0.make C us []) (hb _ (Value.ref (s.heap.objs.size+1)::us) I2.kIn hl) r2 hq) fun r s' hq'=>?_))
 cases r with
 | error e=>exact hx pins σ _ _ e s' I2 hq'
 | ok fl=>
  cases fl with
  | ret u=>
   obtain⟨v,H',I3,rv,ev,q3⟩:=I2.after hq'
   subst ev
   exact⟨rv,⟨V.ref (s.heap.objs.size+1),H',I3,U,q3⟩⟩
  | next=>exact False.elim hq'
  | brk=>exact False.elim hq'
  | cont=>exact False.elim hq'
theorem iM (M:Mk X.K C f) (F:FnOk X.prog X.w X.K X.mg X.base CX k f fd ps sp) (hr:Room (k+1) X.A) (hg:Gl X x) (hm:X.mg x=some (.ref C)) (hb:Binds X.K fd ps ds) (hd:Vals dvs ds) (hx:c6 CX X E)
  (hdb:(x == ("__debug__" : Str))=false:=by decide):PE X (.Call (.Name x p) [] [] pos) (tMake C sp dvs E l8):=by
 intro pins s σ H Q I h
 refine wpAny_Call_Name_kw (eY I hg hm ?_ hdb)
 exact PySem.W.callWith_K0 I.kIn M.kp (m9 (us:=[]) M F hr hb hd hx I .nil h)
end
section
variable {X:Cx}{CX:CXT}{k:Nat}{f C:Addr}{fd:FuncData}{ps ks:List Str}{sp:Sp}{E:XK}{x m:Str}{p pos apos kpos:Pos}{e o:Expr}{es:List Expr}{kws:List Keyword}{te ta:TE}{t tk:TA}{nm:Option Str}
structure KBinds (K:PySem.W.Frag) (fd:FuncData) (ps ks:List Str) (g:List Value->List Value->List Value) (gV:List V->List V->List V):Prop where
 to:∀ (s:Shared) (us ws:List Value),K.In s.heap->(g us ws).length=ps.length->BindsTo s fd ⟨us,ks.zip ws⟩ (ps.zip (g us ws))
 rel:∀ {vs:List V}{us:List Value}{zs:List V}{ws:List Value},Vals vs us->Vals zs ws->Vals (gV vs zs) (g us ws)
variable {g:List Value->List Value->List Value}{gV:List V->List V->List V}
end
structure FnScope (N P:List Str) (sc:Scope):Prop where
 kind:sc.kind=.function:=by rfl
 co:sc.isCoroutine=false:=by rfl
 gen:sc.isGenerator=false:=by rfl
 nd:N.Nodup:=by decide +kernel
 pre:N.take P.length=P:=by rfl
 par:∀ x ∈ P,sc.names.lookup x=some .local∨sc.names.lookup x=some .cell:=by decide +kernel
 nofree:∀ y ∈ sc.names,y.2≠.free:=by decide +kernel
theorem gG {kindOf : Str->Option NameKind}{x : Str} : ∀ {binds : List (Str×Value)}{m : Str->Option Value}, (∀ v, (x, v) ∉ binds)->bindL kindOf binds m x=m x
  | [], _, _=>rfl
  | (n, v) :: r, m, h => by
    unfold bindL
    rw[gG fun w hw=>h w (mem_cons_of_mem _ hw)]
    split
    · have : x≠n := by rintro rfl; exact h v mem_cons_self
      simp[this]
    · rfl
theorem gI {kindOf : Str->Option NameKind}{x : Str} : ∀ {binds : List (Str×Value)}{m : Str->Option Value}, (∀ v, (x, v) ∉ binds)->bindC kindOf binds m x=m x
  | [], _, _=>rfl
  | (n, v) :: r, m, h => by
    unfold bindC
    rw[gI fun w hw=>h w (mem_cons_of_mem _ hw)]
    split
    · rfl
    · have : x≠n := by rintro rfl; exact h v mem_cons_self
      simp[this]
theorem gH {kindOf:Str->Option NameKind}{x:Str}{v:Value}:∀ {P:List Str}{vs:List Value}{i:Nat}{m:Str->Option Value},P.Nodup->P[i]?=some x->vs[i]?=some v->kindOf x=some .local ->
  bindL kindOf (P.zip vs) m x=some v
 | [],_,_,_,_,h,_,_=>by simp at h
 | _::_,[],_,_,_,_,h,_=>by simp at h
 | p::P,w::vs,0,m,nd,h1,h2,hk=>by
  simp at h1 h2; subst h1; subst h2
  show bindL kindOf ((p,w)::P.zip vs) m p=_
  unfold bindL
  rw[gG fun v hv=>(List.nodup_cons.mp nd).1 (List.of_mem_zip hv).1,if_pos hk]
  simp
 | p::P,w::vs,i+1,m,nd,h1,h2,hk=>by
  show bindL kindOf ((p,w)::P.zip vs) m x=_
  unfold bindL
  exact gH (i:=i) (List.nodup_cons.mp nd).2 (by simpa using h1) (by simpa using h2) hk
theorem gJ {kindOf:Str->Option NameKind}{x:Str}{v:Value}:∀ {P:List Str}{vs:List Value}{i:Nat}{m:Str->Option Value},P.Nodup->P[i]?=some x->vs[i]?=some v->kindOf x≠some .local ->
  bindC kindOf (P.zip vs) m x=some v
 | [],_,_,_,_,h,_,_=>by simp at h
 | _::_,[],_,_,_,_,h,_=>by simp at h
 | p::P,w::vs,0,m,nd,h1,h2,hk=>by
  simp at h1 h2; subst h1; subst h2
  show bindC kindOf ((p,w)::P.zip vs) m p=_
  unfold bindC
  rw[gI fun v hv=>(List.nodup_cons.mp nd).1 (List.of_mem_zip hv).1,if_neg hk]
  simp
 | p::P,w::vs,i+1,m,nd,h1,h2,hk=>by
  show bindC kindOf ((p,w)::P.zip vs) m x=_
  unfold bindC
  exact gJ (i:=i) (List.nodup_cons.mp nd).2 (by simpa using h1) (by simpa using h2) hk
noncomputable def start (N:List Str) (vs:List V):St:=vs.map some++List.replicate (N.length - vs.length) none
noncomputable def lN (CX:CXT) (P:Program) (w:World) (K:PySem.W.Frag) (mg:Str->Option Value) (base:Heap) (N:List Str) (qual:Str) (scope:Scope) (f:Addr) (cd:Value) (A:Around) (outer:List Env) (s:Shared) (H:Hp) (E:XK):Cx where
 prog:=P
 w:=w
 K:=K
 mg:=mg
 base:=base
 A:=A.deeper (envOfC qual scope s.heap.objs.size f cd)
 N:=N
 s₀:=s
 H₀:=H
 env:=envOfC qual scope s.heap.objs.size f cd
 outer:=outer
 stack:=envOfC qual scope s.heap.objs.size f cd::outer
 ex:=[]
 calm:=true
 fn:=fun _=>true
 pn:=[]
 xe:=fun e s'=>wpAny (model P w) (A.deeper (envOfC qual scope s.heap.objs.size f cd)) (leaving (envOfC qual scope s.heap.objs.size f cd) e) (fun _ s''=>CX outer H s E e s'') (fun e' s''=>CX outer H s E e' s'') s'
theorem jo {sc:Scope}{n:Nat}{x:Str} (h:sc.names.lookup x=some .cell):∃ c,(cellsFrom n sc.names []).lookup x=some c:=by
 have q:=PySem.W.cellsFrom_some sc.names n [] (.inl h)
 exact Option.isSome_iff_exists.mp q
theorem lE {CX:CXT}{P:Program}{w:World}{K:PySem.W.Frag}{mg:Str->Option Value}{base:Heap}{N ps:List Str}{qual:Str}{scope:Scope}{f:Addr}{cd:Value}{A:Around}{outer:List Env}{s s1:Shared}{H:Hp}{E:XK}{us:List Value}{vs:List V}
  (S:FnScope N ps scope) (hd:A.handled=none) (e0:Env0 P w K mg base A outer s H) (hl:vs.length=ps.length) (r:Vals vs us)
  (x:InCallC s s.heap.objs.size (bindL (envOfC qual scope s.heap.objs.size f cd).kindOf (ps.zip us) fun _=>none) (cellsFrom (s.heap.objs.size+1) scope.names []) (bindC (envOfC qual scope s.heap.objs.size f cd).kindOf (ps.zip us) fun _=>none) s1) :
  Inv (lN CX P w K mg base N qual scope f cd A outer s H E) [] (start N vs) H s1:=by
 have hpl:ps.length<=N.length:=by have:=congrArg List.length S.pre; rw[length_take] at this; omega
 obtain⟨h1,tk,rfl,hk⟩:=x.done
 have noA:∀ b:Addr,b ∉ (lN CX P w K mg base N qual scope f cd A outer s H E).ex:=fun b z=>absurd (show b ∈ ([]:List Addr) from z) (by simp)
 refine⟨⟨e0.mod,S.kind,U,U,Nat.le_refl _,fun y z c h1 h2=>?_,fun y hy=>?_,fun y c _ h=>?_,fun _=>hd,Around.frames_deeper e0.frames,.inr ⟨U,U⟩,fun b z=>absurd z (noA b),e0.bs,e0.bsz,fun b _ _=>noA b,fun b z=>absurd z (noA b),e0.funs,e0.frf⟩,
  rfl,e0.bare,Un.kept hk,⟨_,x.toInCall.ns,fun i y v h1 h2 h3=>?_⟩,fun y c h=>⟨_,x.cell y c h⟩,e0.hok.fresh (Nat.le_refl _),fun y c h=>?_,fun p hp=>absurd (show p ∈ ([]:List (Addr×Obj)) from hp) (by simp),e0.hok.kept hk,?_⟩
 ·exact name_of_addr x.apart (PySem.mem_of_lookup h1) (PySem.mem_of_lookup h2)
 ·have hy:scope.names.lookup y=some .cell∨scope.names.lookup y=some .free:=hy
  rcases hy with hy | hy
  ·exact jo hy
  ·exact absurd rfl (S.nofree _ (PySem.mem_of_lookup hy))
 ·exact Nat.le_of_lt (x.above y c (PySem.mem_of_lookup h))
 ·have hi:i<vs.length:=by
   unfold start at h2
   by_cases hi:i<vs.length
   ·exact hi
   ·rw[getElem?_append_right (by simpa using hi)] at h2
    rw[List.getElem?_replicate] at h2
    split at h2 <;> cases h2
  have ha:vs[i]?=some v:=by
   unfold start at h2
   rw[getElem?_append_left (by simpa using hi),getElem?_map] at h2
   cases e:vs[i]? with
   | none=>rw[e] at h2; cases h2
   | some a=>rw[e] at h2; cases h2; rfl
  obtain⟨u,hu,rv⟩:=r.get ha
  have hp:ps[i]?=some y:=by
   rw[<- S.pre,List.getElem?_take_of_lt (by omega)]; exact h1
  have ndP:ps.Nodup:=by rw[<- S.pre]; exact S.nd.sublist (List.take_sublist _ _)
  refine⟨u,rv,?_⟩
  rcases S.par y (mem_of_getElem? hp) with k | k
  ·exact .inl ⟨k,gH ndP hp hu k⟩
  ·obtain⟨c,e⟩:=jo (n:=s.heap.objs.size+1) k
   refine .inr ⟨.inl k,c,e,?_⟩
   have q:=x.cell y c e
   rw[gJ ndP hp hu (by show scope.names.lookup y≠_; rw[k]; decide)] at q
   exact q
 ·exact e0.hok.fresh (Nat.le_of_lt (x.above y c (PySem.mem_of_lookup h)))
 ·unfold start
  show _=N.length
  rw[length_append,length_map,length_replicate]
  omega
theorem fn_of {CX:CXT}{P:Program}{w:World}{K:PySem.W.Frag}{mg:Str->Option Value}{base:Heap}{k:Nat}{f:Addr}{name qual:Str}{params:Arguments}{body:List Stmt}{scope:Scope}{dV kV doc pm cdv ct oc:Value}{an od:Option Addr}
  {osl:Array (Option Value)}{N ps:List Str}{sp:Sp} (lk:K.lookup f=some ⟨oc,od,.func (W.fnOf name qual params body scope dV kV doc pm an cdv ct),osl⟩) (hcd:W.codeIn K cdv qual=true) (S:FnScope N ps scope)
  (len:∀ vs H Q E,sp vs H Q E->vs.length=ps.length)
  (hbody:∀ (A:Around) (outer:List Env) (s:Shared) (H:Hp) (vs:List V) (Q:VK) (E:XK),Room k (A.deeper (envOfC qual scope s.heap.objs.size f cdv))->sp vs H Q E ->
   ∃ t,PSs (lN CX P w K mg base N qual scope f cdv A outer s H E) body t/\t { nx:=fun _ H'=>Q .non H',rt:=Q } (start N vs) H) :
  FnOk P w K mg base CX (k+1) f (W.fnOf name qual params body scope dV kV doc pm an cdv ct) ps sp:=by
 refine⟨len,fun A outer s H args us vs Q E hr e0 hb r hsp=>?_⟩
 have hl:=len _ _ _ _ hsp
 have KX:K.In s.heap:=e0.mod.kin.keeps fun b o e=>(e0.bs b o e).1
 have lim:s.heap.NoLimit:=e0.mod.nolimit.keeps fun b o e=>(e0.bs b o e).1
 have hkind:∀ y ∈ ps.zip us,scope.names.lookup y.1=some .local∨(scope.names.lookup y.1=some .cell/\((cellsFrom (s.heap.objs.size+1) scope.names []).lookup y.1).isSome=true):=fun⟨n,v⟩ hy=>by
  rcases S.par n (List.of_mem_zip hy).1 with q | q
  ·exact .inl q
  ·exact .inr ⟨q,PySem.W.cellsFrom_some _ _ _ (.inl q)⟩
 refine codeAny_call_function hr.depth (KX _ _ lk) rfl S.co S.gen rfl (PySem.W.codeRec_of KX hcd) (hb _ _ _ _ ?_)
 refine wpAny_newFunctionEnv_cells S.kind hkind fun env he s1 x=>?_
 subst he
 refine⟨lim.keeps x.toInCall.keep,codeAny_func ?_⟩
 obtain⟨t,ht,hq⟩:=hbody A outer s H vs Q E (hr.deeper _) hsp
 have I:Inv (lN CX P w K mg base N qual scope f cdv A outer s H E) [] (start N vs) H s1:=lE S hr.hd e0 hl r x
 refine wpAny_mono (ht [] s1 (start N vs) H _ I hq) (fun fl s' hs=>?_) fun e s' hs=>hs
 have fin:∀ {σ':St}{H':Hp}{v:V}{u:Value},Inv (lN CX P w K mg base N qual scope f cdv A outer s H E) [] σ' H' s'->RelV v u->Q v H'->CE outer P w H s Q u s' :=
  fun {σ' H' v u} J rv q=>⟨v,H',J.os,J.bare,J.base,J.hok,rv,q⟩
 cases fl with
 | ret u=>
  obtain⟨v,σ',H',J,rv,q⟩:=hs
  exact fin J rv q
 | next=>
  obtain⟨σ',H',J,q⟩:=hs
  exact fin (v:=V.non) (u:=Value.none) J rfl q
 | brk=>
  obtain⟨_,_,_,q⟩:=hs
  exact False.elim q
 | cont=>
  obtain⟨_,_,_,q⟩:=hs
  exact False.elim q
section
variable {X:Cx}{x:Str}{p pos:Pos}{e:Expr}{es:List Expr}{t:TA}{id T:String}{r:List V->Hp->VK->Prop}
noncomputable def tCB (r:List V->Hp->VK->Prop) (t:TA):TE:=fun σ H Q=>t σ H fun vs H1=>r vs H1 Q
theorem aI (hc:b7 X (.builtin id) r) (hg:Gl X x) (hm:X.mg x=none) (hv:bootBuiltins x=some (.builtin id)) (ha:PA X (e::es) t) (hn:x ≠ "__name__":=by decide) (hdb:(x == ("__debug__" : Str))=false:=by decide)
  (he:starEach (e::es) X.env=(false,eval e X.env)::starEach es X.env:=by rfl) (hpl:(backTo pos (starEach es X.env)).any (·.1)=false:=by rfl):PE X (.Call (.Name x p) (e::es) [] pos) (tCB r t):=by
 intro pins s σ H Q I h
 refine wpAny_Call_Name_kw (fI I hg hm hv ?_ hn hdb)
 exact PyProof.Rows.callWith_builtin1 (thn (ha pos pins s σ H _ I h) fun us s1 z_=>z_.elim fun vs z_=>z_.elim fun H1 z_=>z_.elim fun I1 z_=>z_.elim fun r1 q1=>hc pins s1 σ H1 vs us Q I1 r1 q1) he hpl
theorem a9 (hc:b7 X (.type T) r) (hg:Gl X x) (hm:X.mg x=none) (hv:bootBuiltins x=some (.type T)) (ha:PA X (e::es) t) (hn:x ≠ "__name__":=by decide) (hdb:(x == ("__debug__" : Str))=false:=by decide)
  (he:starEach (e::es) X.env=(false,eval e X.env)::starEach es X.env:=by rfl) (hpl:(backTo pos (starEach es X.env)).any (·.1)=false:=by rfl):PE X (.Call (.Name x p) (e::es) [] pos) (tCB r t):=by
 intro pins s σ H Q I h
 refine wpAny_Call_Name_kw (fI I hg hm hv ?_ hn hdb)
 exact PyProof.Rows.callWith_type1 (thn (ha pos pins s σ H _ I h) fun us s1 z_=>z_.elim fun vs z_=>z_.elim fun H1 z_=>z_.elim fun I1 z_=>z_.elim fun r1 q1=>hc pins s1 σ H1 vs us Q I1 r1 q1) he hpl
end
end L2
namespace L2
open PySem PySem.Spec PyProof.Rows
section
variable {κ:Type} [DecidableEq κ]
noncomputable def aD (kvs:List (κ×V)) (k:κ):Option V:=(kvs.find? fun kv=>decide (kv.1=k)).map (·.2)
noncomputable def aV (kvs:List (κ×V)) (k:κ) (v:V):List (κ×V) :=
 if (kvs.any fun kv=>decide (kv.1=k))=true then kvs.map (fun kv=>if kv.1=k then(kv.1,v) else kv) else kvs++[(k,v)]
noncomputable def aN (kvs:List (κ×V)) (k:κ):List (κ×V):=kvs.filter fun kv=>decide (kv.1≠k)
theorem lY {k:κ}:aD ([]:List (κ×V)) k=none:=rfl
theorem bj {p:κ×V}{r:List (κ×V)}{k:κ} (e:p.1=k):aD (p::r) k=some p.2:=by simp[aD,find?_cons,e]
theorem aZ {p:κ×V}{r:List (κ×V)}{k:κ} (e:¬ p.1=k):aD (p::r) k=aD r k:=by simp[aD,find?_cons,e]
theorem cR (k:κ):∀ kvs:List (κ×V),(kvs.any fun kv=>decide (kv.1=k))=(aD kvs k).isSome
 | []=>rfl
 | p::r=>by
  rw[List.any_cons]
  by_cases e:p.1=k
  ·simp only[bj e,decide_eq_true e,Bool.true_or,Option.isSome_some]
  ·rw[aZ e,decide_eq_false e,Bool.false_or]; exact cR k r
theorem iC (k j:κ) (y:V):∀ kvs:List (κ×V),aD (kvs.map fun kv=>if kv.1=k then(kv.1,y) else kv) j=(aD kvs j).map fun x=>if j=k then y else x
 | []=>rfl
 | p::r=>by
  have ih:=iC k j y r
  rw[map_cons]
  by_cases h:p.1=k
  ·rw[if_pos h]
   by_cases e:p.1=j
   ·rw[bj (p:=(p.1,y)) e,bj e,Option.map_some,if_pos (e.symm.trans h)]
   ·rw[aZ (p:=(p.1,y)) e,aZ e,ih]
  ·rw[if_neg h]
   by_cases e:p.1=j
   ·rw[bj (p:=p) e,bj e,Option.map_some,if_neg (fun z=>h (e.trans z))]
   ·rw[aZ (p:=p) e,aZ e,ih]
theorem f9 (k j:κ) (y:V):∀ kvs:List (κ×V),aD kvs k=none->aD (kvs++[(k,y)]) j=if j=k then some y else aD kvs j
 | [],_=>by
  by_cases e:k=j
  ·rw[if_pos e.symm]; exact bj (p:=(k,y)) e
  ·rw[if_neg (fun z=>e z.symm)]; exact aZ (p:=(k,y)) e
 | p::r,hn=>by
  rw[List.cons_append]
  have hk:¬ p.1=k:=fun z=>by rw[bj z] at hn; cases hn
  rw[aZ hk] at hn
  have ih:=f9 k j y r hn
  by_cases e:p.1=j
  ·rw[bj e,bj e,if_neg (fun z=>hk (e.trans z))]
  ·rw[aZ e,aZ e,ih]
theorem bN (kvs:List (κ×V)) (k j:κ) (y:V):aD (aV kvs k y) j=if j=k then some y else aD kvs j:=by
 unfold aV
 by_cases a:(kvs.any fun kv=>decide (kv.1=k))=true
 ·rw[if_pos a,iC]
  rw[cR] at a
  by_cases e:j=k
  ·obtain⟨x,hx⟩:=Option.isSome_iff_exists.mp a
   rw[if_pos e,e,hx,Option.map_some,if_pos rfl]
  ·rw[if_neg e]
   cases aD kvs j with
   | none=>rfl
   | some x=>rw[Option.map_some,if_neg e]
 ·rw[if_neg a]
  refine f9 k j y kvs ?_
  rw[cR] at a
  cases q:aD kvs k with
  | none=>rfl
  | some x=>rw[q] at a; exact(a rfl).elim
theorem bu (kvs:List (κ×V)) (k:κ) (v:V):(aV kvs k v).length<=kvs.length+1:=by
 unfold aV
 split
 ·rw[length_map]; omega
 ·rw[length_append,length_cons,List.length_nil]; omega
theorem nh {kvs:List (κ×V)}{k:κ} (v:V) (h:aD kvs k=none):aV kvs k v=kvs++[(k,v)]:=by
 unfold aV
 rw[cR,h]
 exact if_neg (by decide)
theorem RelO.isSome_eq {o:Option V}{u:Option Value} (r:RelO o u):o.isSome=u.isSome:=by
 cases o with
 | none=>cases u with
  | none=>rfl
  | some _=>exact(show False from r).elim
 | some _=>cases u with
  | none=>exact(show False from r).elim
  | some _=>rfl
theorem RelO.getD {o:Option V}{u:Option Value}{d:V}{d':Value} (r:RelO o u) (rd:RelV d d'):RelV (o.getD d) (u.getD d'):=by
 cases o with
 | none=>cases u with
  | none=>exact rd
  | some _=>exact(show False from r).elim
 | some _=>cases u with
  | none=>exact(show False from r).elim
  | some _=>exact r
theorem KV.val {kvs:List (κ×V)}{vs:List (κ×Value)} (r:KV kvs vs) (k:κ):RelO (aD kvs k) (valueAt vs k):=by
 unfold KV at r
 induction r with
 | nil=>exact True.intro
 | @cons p q ps qs h t ih=>
  obtain⟨h1,h2⟩:=h
  by_cases e:p.1=k
  ·have e':q.1=k:=h1.symm.trans e
   have b:valueAt (q::qs) k=some q.2:=by simp[valueAt,find?_cons,e']
   rw[bj e,b]; exact h2
  ·have e':¬ q.1=k:=fun z=>e (h1.trans z)
   have b:valueAt (q::qs) k=valueAt qs k:=by simp[valueAt,find?_cons,e']
   rw[aZ e,b]; exact ih
theorem KV.any {kvs:List (κ×V)}{vs:List (κ×Value)} (r:KV kvs vs) (k:κ):(kvs.any fun kv=>decide (kv.1=k))=vs.any fun kv=>decide (kv.1=k):=by
 unfold KV at r
 induction r with
 | nil=>rfl
 | cons h t ih=>rw[List.any_cons,List.any_cons,ih,h.1]
theorem KV.repl {kvs:List (κ×V)}{vs:List (κ×Value)} (r:KV kvs vs) (k:κ) {y:V}{u:Value} (ry:RelV y u) :
  KV (kvs.map fun kv=>if kv.1=k then(kv.1,y) else kv) (vs.map fun kv=>if kv.1=k then(kv.1,u) else kv):=by
 unfold KV at r ⊢
 induction r with
 | nil=>exact .nil
 | @cons p q ps qs h t ih=>
  rw[map_cons,map_cons]
  refine .cons ?_ ih
  obtain⟨h1,h2⟩:=h
  by_cases e:p.1=k
  ·rw[if_pos e,if_pos (h1.symm.trans e)]; exact⟨h1,ry⟩
  ·rw[if_neg e,if_neg (fun z=>e (h1.trans z))]; exact⟨h1,h2⟩
theorem KV.put {kvs:List (κ×V)}{vs:List (κ×Value)} (r:KV kvs vs) (k:κ) {y:V}{u:Value} (ry:RelV y u):KV (aV kvs k y) (stored vs k u):=by
 unfold aV stored
 rw[r.any k]
 by_cases e:(vs.any fun kv=>decide (kv.1=k))=true
 ·rw[if_pos e,if_pos e]; exact r.repl k ry
 ·rw[if_neg e,if_neg e]; exact Paired.snoc r ⟨U,ry⟩
theorem KV.keys {kvs:List (κ×V)}{vs:List (κ×Value)} (r:KV kvs vs):kvs.map (·.1)=vs.map (·.1):=by
 unfold KV at r
 induction r with
 | nil=>rfl
 | cons h t ih=>rw[map_cons,map_cons,ih,h.1]
theorem KV.length {kvs:List (κ×V)}{vs:List (κ×Value)} (r:KV kvs vs):kvs.length=vs.length:=Paired.length r
theorem jh (kvs:List (κ×V)) (k:κ):(aN kvs k).length<=kvs.length:=List.length_filter_le _ _
end
theorem gA {P:Program}{w:World}{k:Key}{u:Value} (r:RelV (kV k) u):(ap P w).is k u=true:=by
 cases k with
 | inl i=>obtain⟨t,e⟩:=(show ∃ t,u=Value.int i t from r); subst e; exact iY P w i t
 | inr x=>obtain⟨t,e⟩:=(show ∃ t,u=Value.str x t from r); subst e; exact iX P w x t
theorem gB {P:Program}{w:World}:∀ {ks:List Key}{us:List Value},Vals (ks.map kV) us->ItemsAre (ap P w) ks us
 | [],_,r=>by rw[List.map_nil] at r; cases r; exact .nil
 | k::ks,_,r=>by
  rw[map_cons] at r
  cases r with
  | cons h t=>exact .cons (gA h) (gB t)
noncomputable abbrev KT (H:Hp):List (List Key×V)->List (List Key×Addr×Value)->Prop:=Paired fun p q=>p.1=q.1/\H q.2.1=some (.tup (p.1.map kV))/\RelV p.2 q.2.2
theorem KT.val {H:Hp}{kvs:List (List Key×V)}{xs:List (List Key×Addr×Value)} (r:KT H kvs xs) (k:List Key):RelO (aD kvs k) ((atKey xs k).map (·.2)):=by
 induction r with
 | nil=>exact True.intro
 | @cons p q ps qs h t ih=>
  obtain⟨h1,_,h2⟩:=h
  by_cases e:p.1=k
  ·have e':q.1=k:=h1.symm.trans e
   have b:atKey (q::qs) k=some q.2:=by simp[atKey,find?_cons,e']
   rw[bj e,b]; exact h2
  ·have e':¬ q.1=k:=fun z=>e (h1.trans z)
   have b:atKey (q::qs) k=atKey qs k:=by simp[atKey,find?_cons,e']
   rw[aZ e,b]; exact ih
theorem KT.repl {H:Hp}{kvs:List (List Key×V)}{xs:List (List Key×Addr×Value)} (r:KT H kvs xs) (k:List Key) {y:V}{u:Value} (ry:RelV y u) :
  KT H (kvs.map fun kv=>if kv.1=k then(kv.1,y) else kv) (xs.map (putAt k u)):=by
 induction r with
 | nil=>exact .nil
 | @cons p q ps qs h t ih=>
  rw[map_cons,map_cons]
  refine .cons ?_ ih
  obtain⟨h1,h2,h3⟩:=h
  unfold putAt
  by_cases e:p.1=k
  ·rw[if_pos e,if_pos (h1.symm.trans e)]; exact⟨h1,h2,ry⟩
  ·rw[if_neg e,if_neg (fun z=>e (h1.trans z))]; exact⟨h1,h2,h3⟩
theorem KT.put {H:Hp}{kvs:List (List Key×V)}{xs:List (List Key×Addr×Value)} (r:KT H kvs xs) (k:List Key) {b:Addr}{y:V}{u:Value} (hb:H b=some (.tup (k.map kV))) (ry:RelV y u) :
  KT H (aV kvs k y) (storedH xs k b u):=by
 have e:(kvs.any fun kv=>decide (kv.1=k))=(atKey xs k).isSome:=by
  rw[cR,(r.val k).isSome_eq,Option.isSome_map]
 unfold aV storedH
 rw[e]
 by_cases q:(atKey xs k).isSome=true
 ·rw[if_pos q,if_pos q]; exact r.repl k ry
 ·rw[if_neg q,if_neg q]; exact Paired.snoc r ⟨U,hb,ry⟩
theorem KT.keeps {H H':Hp}{kvs:List (List Key×V)}{xs:List (List Key×Addr×Value)} (r:KT H kvs xs) (ht:∀ b ys,H b=some (.tup ys)->H' b=some (.tup ys)):KT H' kvs xs :=
 Paired.mapP r fun _ _ z=>⟨z.1,ht _ _ z.2.1,z.2.2⟩
section
variable {P:Program}{w:World}{H:Hp}{h:Heap}{a:Addr}
theorem ql {u:HO} (ok:HOk P w H h) (e:Rd H a u):ObjOk P w H h a u:=e.ok ok
theorem dU {kvs:List (Key×V)} (ok:HOk P w H h) (e:Rd H a (.dK kvs)):kvs.length<=sizeLine/\(a == sysModules)=false/\∃ vs,KV kvs vs/\h.DictOf (ap P w) a vs :=
 show ObjOk P w H h a (.dK kvs) from ql ok e
theorem dk_of {kvs:List (Key×V)} (ok:HOk P w H h) (e:H a=some (.dK kvs)):kvs.length<=sizeLine/\(a == sysModules)=false/\∃ vs,KV kvs vs/\h.DictOf (ap P w) a vs:=dU ok (.inl e)
theorem cB {ks:List Key} (ok:HOk P w H h) (e:H a=some (.tup (ks.map kV))):(tupleKind (ap P w)).is h ks a:=by
 obtain⟨_,its,r,o,h1,h2,n,h3⟩:=(show ObjOk P w H h a (.tup (ks.map kV)) from ok a _ e)
 exact⟨o,its.toArray,n,h1,h2,h3,by simpa using gB r⟩
theorem dS {kvs:List (List Key×V)} (ok:HOk P w H h) (e:Rd H a (.dT kvs)):kvs.length<=sizeLine/\(a == sysModules)=false /\
  ∃ xs,KT H kvs xs/\h.DictOfH (tupleKind (ap P w)) a xs:=by
 obtain⟨z,y,xs,r,o,es,ep,h1,h2,h3,h4,h5⟩:=(show ObjOk P w H h a (.dT kvs) from ql ok e)
 refine⟨z,y,xs,r,o,es,ep,h1,h2,h3,h4,fun x hx=>?_,h5⟩
 have all:∀ {l:List (List Key×V)}{m:List (List Key×Addr×Value)},KT H l m->∀ x ∈ m,(tupleKind (ap P w)).is h x.1 x.2.1:=by
  intro l m q
  induction q with
  | nil=>intro x hx; exact nomatch hx
  | @cons p q ps qs hq t ih=>
   intro x hx
   rcases mem_cons.mp hx with e | hx
   ·subst e
    exact cB ok (by rw[<- hq.1]; exact hq.2.1)
   ·exact ih x hx
 exact all r x hx
theorem kM {kvs:List (List Key×V)} (ok:HOk P w H h) (e:H a=some (.dT kvs)):kvs.length<=sizeLine/\(a == sysModules)=false /\
  ∃ xs,KT H kvs xs/\h.DictOfH (tupleKind (ap P w)) a xs:=dS ok (.inl e)
end
noncomputable def DGet (H:Hp) (a:Addr) (y:V) (r:Option V):Prop :=
 (∃ kvs k,Rd H a (.dK kvs)/\y=kV k/\r=aD kvs k)∨∃ kvs k b,Rd H a (.dT kvs)/\y=.ref b/\H b=some (.tup (k.map kV))/\r=aD kvs k
noncomputable def DPut (H:Hp) (a:Addr) (y v:V) (H':Hp):Prop :=
 (∃ kvs k,H a=some (.dK kvs)/\y=kV k/\kvs.length<sizeLine/\H'=upd H a (.dK (aV kvs k v))) ∨
 ∃ kvs k b,H a=some (.dT kvs)/\y=.ref b/\H b=some (.tup (k.map kV))/\kvs.length<sizeLine/\H'=upd H a (.dT (aV kvs k v))
theorem DGet.k {H:Hp}{a:Addr}{kvs:List (Key×V)}{k:Key} (e:H a=some (.dK kvs)):DGet H a (kV k) (aD kvs k):=.inl ⟨kvs,k,.inl e,U,U⟩
theorem DGet.t {H:Hp}{a b:Addr}{kvs:List (List Key×V)}{k:List Key} (e:H a=some (.dT kvs)) (eb:H b=some (.tup (k.map kV))):DGet H a (.ref b) (aD kvs k):=.inr ⟨kvs,k,b,.inl e,U,eb,U⟩
theorem DPut.k {H:Hp}{a:Addr}{kvs:List (Key×V)}{k:Key}{v:V} (e:H a=some (.dK kvs)) (hl:kvs.length<sizeLine):DPut H a (kV k) v (upd H a (.dK (aV kvs k v))):=.inl ⟨kvs,k,e,U,hl,U⟩
theorem DPut.t {H:Hp}{a b:Addr}{kvs:List (List Key×V)}{k:List Key}{v:V} (e:H a=some (.dT kvs)) (eb:H b=some (.tup (k.map kV))) (hl:kvs.length<sizeLine) :
  DPut H a (.ref b) v (upd H a (.dT (aV kvs k v))):=.inr ⟨kvs,k,b,e,U,eb,hl,U⟩
section
variable {X:Cx}{pins:List (Addr×Obj)}{σ:St}{H:Hp}{s:Shared}{a:Addr}{y v:V}{u r:Value}{o:Option V}{A:Around}{E:Value->Shared->Prop}
theorem Inv.big (I:Inv X pins σ H s):sysModules<s.heap.objs.size:=by
 have h:mainGlobals<s.heap.objs.size:=(I.mod.glob.keeps I.bk).lt
 exact Nat.lt_trans (by decide) h
theorem lM {Q:Value->Shared->Prop} (hu:A.units+1<cLine) (I:Inv X pins σ H s) (g:DGet H a y (some v)) (ry:RelV y u) (h:∀ w' s',Inv X pins σ H s'->RelV v w'->Q w' s') :
  wpAny (model X.prog X.w) A (getItem (.ref a) u) Q E s:=by
 rcases g with ⟨kvs,k,e,ey,l⟩ | ⟨kvs,k,b,e,ey,eb,l⟩
 ·subst ey
  obtain⟨z,hd,vs,rel,dd⟩:=dU I.hok e
  obtain⟨w',hw,rw'⟩:=RelO.some_of (v:=v) (o:=valueAt vs k) (by rw[l]; exact rel.val k)
  exact wpAny_getItem_of (gA ry) dd.mapOf hw (h w' _ (I.tok _) rw')
 ·subst ey
  cases (show u=Value.ref b from ry)
  obtain⟨z,hd,xs,rel,dd⟩:=dS I.hok e
  obtain⟨w',hw,rw'⟩:=RelO.some_of (v:=v) (o:=(atKey xs k).map (·.2)) (by rw[l]; exact rel.val k)
  obtain⟨p,hp,hp2⟩:=Option.map_eq_some_iff.mp hw
  refine wpAny_getItem_heap (tupleKind_room_in1 hu) (cB I.hok eb) dd hp ?_
  rw[hp2]
  exact h w' _ (I.tok _) rw'
theorem d_in {Q:Value->Shared->Prop} (hu:A.units+1<cLine) (I:Inv X pins σ H s) (g:DGet H a y o) (ry:RelV y u) (h:∀ s',Inv X pins σ H s'->Q (.bool o.isSome) s') :
  wpAny (model X.prog X.w) A (compareOp .In u (.ref a)) Q E s:=by
 rcases g with ⟨kvs,k,e,ey,l⟩ | ⟨kvs,k,b,e,ey,eb,l⟩
 ·subst ey
  obtain⟨z,hd,vs,rel,dd⟩:=dU I.hok e
  refine wpAny_in_of (gA ry) hd dd.mapOf ?_
  rw[<- (rel.val k).isSome_eq,<- l]
  exact h _ (I.tok _)
 ·subst ey
  cases (show u=Value.ref b from ry)
  obtain⟨z,hd,xs,rel,dd⟩:=dS I.hok e
  refine wpAny_in_heap (tupleKind_room_in1 hu) (cB I.hok eb) hd dd ?_
  have q:=(rel.val k).isSome_eq
  rw[Option.isSome_map] at q
  rw[<- q,<- l]
  exact h _ (I.tok _)
theorem kS {Q:Value->Shared->Prop} (hu:A.units+1<cLine) (I:Inv X pins σ H s) (g:DGet H a y o) (ry:RelV y u) (h:∀ s',Inv X pins σ H s'->Q (.bool (!o.isSome)) s') :
  wpAny (model X.prog X.w) A (compareOp .NotIn u (.ref a)) Q E s:=by
 rcases g with ⟨kvs,k,e,ey,l⟩ | ⟨kvs,k,b,e,ey,eb,l⟩
 ·subst ey
  obtain⟨z,hd,vs,rel,dd⟩:=dU I.hok e
  refine wpAny_notIn_of (gA ry) hd dd.mapOf ?_
  rw[<- (rel.val k).isSome_eq,<- l]
  exact h _ (I.tok _)
 ·subst ey
  cases (show u=Value.ref b from ry)
  obtain⟨z,hd,xs,rel,dd⟩:=dS I.hok e
  refine wpAny_notIn_heap (tupleKind_room_in1 hu) (cB I.hok eb) hd dd ?_
  have q:=(rel.val k).isSome_eq
  rw[Option.isSome_map] at q
  rw[<- q,<- l]
  exact h _ (I.tok _)
theorem dX {h':Heap}{t':Nat}{ob:HO} (I:Inv X pins σ H s) (mu:Mut (H a)) (hs:Heap.SameBut a s.heap h') (he:∃ q,h'.get? a=some q) (new:ObjOk X.prog X.w (upd H a ob) h' a ob) :
  Inv X pins σ (upd H a ob) { s with heap:=h',toks:=t' } :=
 I.write (x:=a) (e:=a) mu (.inl rfl) (fun b q hb z=>(hs.2 b hb).trans z) he new
theorem oj {P:Program}{w:World}{H':Hp}{h':Heap}{kvs:List (Key×V)}{vs:List (Key×Value)} (z:kvs.length<=sizeLine) (hd:(a == sysModules)=false) (rel:KV kvs vs) (dd:h'.DictOf (ap P w) a vs) :
  ObjOk P w H' h' a (.dK kvs):=⟨z,hd,vs,rel,dd⟩
theorem lL {H':Hp}{Q:Unit->Shared->Prop} (hu:A.units+1<cLine) (I:Inv X pins σ H s) (g:DPut H a y v H') (ry:RelV y u) (rv:RelV v r) (h:∀ s',Inv X pins σ H' s'->Q () s') :
  wpAny (model X.prog X.w) A (setItem (.ref a) u r) Q E s:=by
 rcases g with ⟨kvs,k,e,ey,l,eH⟩ | ⟨kvs,k,b,e,ey,eb,l,eH⟩
 ·subst ey eH
  obtain⟨z,hd,vs,rel,dd⟩:=dk_of I.hok e
  have hz:vs.length<=sizeLine:=by rw[<- rel.length]; exact z
  have hl:(aV kvs k v).length<=sizeLine:=by have:=bu kvs k v; omega
  refine wpAny_setItem_pairs (hsz:=hz) (gA ry) dd fun h' dd' hs=>h _ ?_
  have he:∃ q,h'.get? a=some q:=let ⟨q,_,_,hq,_⟩:=dd'; ⟨q,hq⟩
  exact dX I (by rw[e]; exact True.intro) hs he (oj hl hd (rel.put k rv) dd')
 ·subst ey eH
  cases (show u=Value.ref b from ry)
  obtain⟨z,hd,xs,rel,dd⟩:=kM I.hok e
  have hz:xs.length<=sizeLine:=by rw[<- Paired.length rel]; exact z
  have hl:(aV kvs k v).length<=sizeLine:=by have:=bu kvs k v; omega
  refine wpAny_setItem_heap (hsz:=hz) (tupleKind_room_in1 hu) (cB I.hok eb) dd fun h' dd' hs=>h _ ?_
  obtain⟨q,es,ep,hq,h2,h3,h4,_,h5⟩:=dd'
  refine dX I (by rw[e]; exact True.intro) hs ⟨q,hq⟩ ⟨hl,hd,_,(rel.put k eb rv).keeps fun c ys ec=>?_,q,es,ep,hq,h2,h3,h4,h5⟩
  rw[aJ (iV ec e (fun z=>nomatch z))]
  exact ec
end
noncomputable def sr (i:Expr):Prop:=∀ ov iv,subscripted i false ov iv=operate [ov,iv] (getItem ov iv)
theorem j6 {prog:Program}{w:World}{A:Around}{E:Value->Shared->Prop}{s:Shared}{env:Env}{value slice:Expr}{pos:Pos}{T id:String}{Q:Value->Shared->Prop}
  (hl:typeLookup (.type T) "__getitem__" = pure (some (.builtin id))) (hs:sr slice)
  (h:wpAny (model prog w) A (eval value env) (fun o s₁=>wpAny (model prog w) A (eval slice env) (fun i s₂=>s₂.TypeIs o T/\wpAny (model prog w) A (getItem o i) Q E s₂) E s₁) E s) :
  wpAny (model prog w) A (eval (.Subscript value slice pos) env) Q E s:=by
 refine Subscript_ (wpAny_mono h (fun o s₁ h₁=>wpAny_mono h₁ (fun i s₂ h₂=>?_) fun _ _ x=>x) fun _ _ x=>x)
 obtain⟨hT,h₂⟩:=h₂
 unfold subscriptTail
 refine wpAny_bind ?_
 rw[getitemInPython_of_ne hT.not_modules]
 refine wpAny_bind (wpAny_specialOf hT hl ?_)
 have fin:wpAny (model prog w) A (subscripted slice false o i) (fun r s₃=>wpAny (model prog w) A (letTemporaryGo value o r >>= fun _=>pure r) Q E s₃) E s₂:=by
  rw[hs o i]
  exact wpAny_operating (wpAny_mono h₂ (fun r s₃ h₃=>wpAny_bind (wpAny_letTemporaryGo (wpAny_pure h₃))) fun _ _ x=>x)
 first
  | exact wpAny_pure (wpAny_bind fin)
  | exact wpAny_bind (wpAny_pure (wpAny_bind fin))
  | exact wpAny_bind fin
theorem jj {X:Cx}{pins:List (Addr×Obj)}{σ:St}{H:Hp}{s:Shared}{a:Addr}{y:V}{o:Option V} (I:Inv X pins σ H s) (g:DGet H a y o):s.TypeIs (.ref a) "dict":=by
 rcases g with ⟨kvs,k,e,_,_⟩ | ⟨kvs,k,b,e,_,_,_⟩
 ·obtain⟨_,_,vs,_,dd⟩:=dU I.hok e
  exact dd.typeIs
 ·obtain⟨_,_,xs,_,dd⟩:=dS I.hok e
  exact dd.typeIs
noncomputable def tDGet (td ty:TE):TE:=fun σ H Q=>td σ H fun x H1=>ty σ H1 fun y H2=>∃ a v,x=.ref a/\DGet H2 a y (some v)/\Q v H2
noncomputable def tDIn (ty td:TE):TE:=fun σ H Q=>ty σ H fun y H1=>td σ H1 fun x H2=>∃ a o,x=.ref a/\DGet H2 a y o/\Q (.bl o.isSome) H2
noncomputable def oB (ty td:TE):TE:=fun σ H Q=>ty σ H fun y H1=>td σ H1 fun x H2=>∃ a o,x=.ref a/\DGet H2 a y o/\Q (.bl (!o.isSome)) H2
noncomputable def sDPut (td ty tv:TE):TS:=fun D σ H=>tv σ H fun v H1=>td σ H1 fun x H2=>ty σ H2 fun y H3=>∃ a H4,x=.ref a/\DPut H3 a y v H4/\D.nx σ H4
section
variable {X:Cx}{o i e value:Expr}{pos pos' tpos:Pos}{td ty tv:TE}
theorem cK (hu:X.A.units+1<cLine) (ho:PE X o td) (hi:PE X i ty) (hs:sr i:=by exact fun _ _=>rfl):PE X (.Subscript o i pos) (tDGet td ty):=by
 intro pins s σ H Q I h
 refine j6 PySem.F.slot_dict_getitem.lookup hs (thn (ho pins s σ H _ I h) fun u s1 z_=>z_.elim fun x z_=>z_.elim fun H1 z_=>z_.elim fun I1 z_=>z_.elim fun rx q1=>thn (hi pins s1 σ H1 _ I1 q1) fun iv s2 z_=>z_.elim fun y z_=>z_.elim fun H2 z_=>z_.elim fun I2 z_=>z_.elim fun ry z_=>z_.elim fun a z_=>z_.elim fun v z_=>z_.elim fun ex z_=>z_.elim fun g q2=>?_)
 subst ex
 obtain rfl:u=Value.ref a:=rx
 exact⟨jj I2 g,lM hu I2 g ry fun w' s3 I3 rw'=>⟨v,H2,I3,rw',q2⟩⟩
theorem nC (hu:X.A.units+1<cLine) (hi:PE X i ty) (ho:PE X o td):PC X .In i o (tDIn ty td):=by
 intro pins s σ H Q I h
 refine thn (hi pins s σ H _ I h) fun iv s1 z_=>z_.elim fun y z_=>z_.elim fun H1 z_=>z_.elim fun I1 z_=>z_.elim fun ry q1=>thn (ho pins s1 σ H1 _ I1 q1) fun u s2 z_=>z_.elim fun x z_=>z_.elim fun H2 z_=>z_.elim fun I2 z_=>z_.elim fun rx z_=>z_.elim fun a z_=>z_.elim fun ov z_=>z_.elim fun ex z_=>z_.elim fun g q2=>?_
 subst ex
 obtain rfl:u=Value.ref a:=rx
 exact d_in hu I2 g ry fun s3 I3=>⟨.bl ov.isSome,H2,I3,U,q2⟩
theorem c7 (hu:X.A.units+1<cLine) (hi:PE X i ty) (ho:PE X o td):PC X .NotIn i o (oB ty td):=by
 intro pins s σ H Q I h
 refine thn (hi pins s σ H _ I h) fun iv s1 z_=>z_.elim fun y z_=>z_.elim fun H1 z_=>z_.elim fun I1 z_=>z_.elim fun ry q1=>thn (ho pins s1 σ H1 _ I1 q1) fun u s2 z_=>z_.elim fun x z_=>z_.elim fun H2 z_=>z_.elim fun I2 z_=>z_.elim fun rx z_=>z_.elim fun a z_=>z_.elim fun ov z_=>z_.elim fun ex z_=>z_.elim fun g q2=>?_
 subst ex
 obtain rfl:u=Value.ref a:=rx
 exact kS hu I2 g ry fun s3 I3=>⟨.bl (!ov.isSome),H2,I3,U,q2⟩
theorem cI (hu:X.A.units+1<cLine) (ho:PE X o td) (hi:PE X i ty) (hv:PE X value tv) (hs:swapsWith value (some (.Subscript o i pos')) pos.line X.env=pure false) :
  PS X (.Assign [.Subscript o i pos'] value pos) (sDPut td ty tv):=by
 intro pins s σ H D I h
 refine wpAny_Assign_Subscript (thn (hv pins s σ H _ I h) fun r s1 z_=>z_.elim fun v z_=>z_.elim fun H1 z_=>z_.elim fun I1 z_=>z_.elim fun rv q1=>thn (ho pins s1 σ H1 _ I1 q1) fun u s2 z_=>z_.elim fun x z_=>z_.elim fun H2 z_=>z_.elim fun I2 z_=>z_.elim fun rx q2=>thn (hi pins s2 σ H2 _ I2 q2) fun iv s3 z_=>z_.elim fun y z_=>z_.elim fun H3 z_=>z_.elim fun I3 z_=>z_.elim fun ry z_=>z_.elim fun a z_=>z_.elim fun H4 z_=>z_.elim fun ex z_=>z_.elim fun g q3=>?_) hs
 subst ex
 obtain rfl:u=Value.ref a:=rx
 exact lL hu I3 g ry rv fun s4 I4=>⟨σ,H4,I4,q3⟩
end
theorem ol {P:Program}{w:World}{H:Hp} (h:Heap) (hb:sysModules<h.objs.size):ObjOk P w H (h.push { cls:=.type "dict",data:=.dict #[] }) h.objs.size (.dK []) :=
 ⟨Nat.zero_le _,beq_eq_false_iff_ne.mpr (Ne.symm (Nat.ne_of_lt hb)),[],.nil,Heap.DictOf.new h⟩
theorem oi {P:Program}{w:World}{H:Hp} (h:Heap) (hb:sysModules<h.objs.size):ObjOk P w H (h.push { cls:=.type "dict",data:=.dict #[] }) h.objs.size (.dT []) :=
 ⟨Nat.zero_le _,beq_eq_false_iff_ne.mpr (Ne.symm (Nat.ne_of_lt hb)),[],.nil,_,#[],0,Heap.get?_push_size _ rfl,⟨U,U,U⟩,U,U,List.nodup_nil⟩
noncomputable def qN:TE:=fun _ H Q=>∀ p,H p=none->Q (.ref p) (upd H p (.dK []))
noncomputable def qL:TE:=fun _ H Q=>∀ p,H p=none->Q (.ref p) (upd H p (.dT []))
section
variable {X:Cx}{pos:Pos}
theorem fv:PE X (.Dict [] [] pos) qN:=fun pins s σ H Q I h=>
 wpAny_Dict_empty ⟨.ref s.heap.objs.size,_,I.laid (a:=s.heap.objs.size) (o:=.dK []) (t':=s.toks) (fun _ _ q=>Heap.get?_push_of_some _ q) (Nat.le_refl _) (ol s.heap I.big),U,h _ (I.hok.fresh (Nat.le_refl _))⟩
theorem iO:PE X (.Dict [] [] pos) qL:=fun pins s σ H Q I h=>
 wpAny_Dict_empty ⟨.ref s.heap.objs.size,_,I.laid (a:=s.heap.objs.size) (o:=.dT []) (t':=s.toks) (fun _ _ q=>Heap.get?_push_of_some _ q) (Nat.le_refl _) (oi s.heap I.big),U,h _ (I.hok.fresh (Nat.le_refl _))⟩
end
noncomputable def mergeK (kvs more:List (Key×V)):List (Key×V):=more.foldl (fun acc kv=>aV acc kv.1 kv.2) kvs
structure M1 (X:Cx) (o:Expr) (m:Str) (apos:Pos) (e:Expr) (cpos:Pos):Prop where
 base:attributeBase o m X.env (eval o X.env)=eval o X.env
 few:((backTo cpos (starEach [e] X.env)).all (fun x=>!x.1) && (backToKw cpos (keywordEach [] X.env)).all (fun x=>x.1.isSome)
  && decide (([e]:List Expr).length+([]:List Keyword).length+(if ([]:List Keyword).isEmpty then 0 else 1)<30))=true
 line:(apos.endLine == cpos.line)=true
 trees:backTo cpos (starEach [e] X.env)=[(false,eval e X.env)]
structure M2 (X:Cx) (o:Expr) (m:Str) (apos:Pos) (e f:Expr) (cpos:Pos):Prop where
 base:attributeBase o m X.env (eval o X.env)=eval o X.env
 few:((backTo cpos (starEach [e,f] X.env)).all (fun x=>!x.1) && (backToKw cpos (keywordEach [] X.env)).all (fun x=>x.1.isSome)
  && decide (([e,f]:List Expr).length+([]:List Keyword).length+(if ([]:List Keyword).isEmpty then 0 else 1)<30))=true
 line:(apos.endLine == cpos.line)=true
 trees:backTo cpos (starEach [e,f] X.env)=[(false,eval e X.env),(false,eval f X.env)]
noncomputable def IsD (H:Hp) (a:Addr):Prop:=(∃ kvs,Rd H a (.dK kvs))∨∃ kvs,Rd H a (.dT kvs)
theorem nU {X:Cx}{pins:List (Addr×Obj)}{σ:St}{H:Hp}{s:Shared}{a:Addr} (I:Inv X pins σ H s) (d:IsD H a) :
  s.TypeIs (.ref a) "dict" /\ (∀ b,Value.ref a=.ref b->∃ ob,s.heap.get? b=some ob/\ob.dict=none)/\(a == sysModules)=false:=by
 rcases d with ⟨kvs,e⟩ | ⟨kvs,e⟩
 ·obtain⟨_,hd,vs,_,dd⟩:=dU I.hok e
  refine⟨dd.typeIs,fun b q=>?_,hd⟩
  cases q
  obtain⟨ob,_,_,h1,h2,_⟩:=dd
  exact⟨ob,h1,h2.2.1⟩
 ·obtain⟨_,hd,xs,_,dd⟩:=dS I.hok e
  refine⟨dd.typeIs,fun b q=>?_,hd⟩
  cases q
  obtain⟨ob,_,_,h1,h2,_⟩:=dd
  exact⟨ob,h1,h2.2.1⟩
section
variable {X:Cx}{pins:List (Addr×Obj)}{σ:St}{H:Hp}{s:Shared}{a:Addr}{y d:V}{u r:Value}{o:Option V}{A:Around}{E:Value->Shared->Prop}
theorem rX {Q:Value->Shared->Prop} (hu:A.units+1<cLine) (I:Inv X pins σ H s) (g:DGet H a y o) (ry:RelV y u) (h:∀ w' s',Inv X pins σ H s'->RelV (o.getD .non) w'->Q w' s') :
  wpAny (model X.prog X.w) A (call (.builtin "dict.get") [.ref a,u]) Q E s:=by
 rcases g with ⟨kvs,k,e,ey,l⟩ | ⟨kvs,k,b,e,ey,eb,l⟩
 ·subst ey
  obtain⟨z,hd,vs,rel,dd⟩:=dU I.hok e
  refine call_meetsIn PySem.F.slot_dict_get dd.typeIs PySem.F.entry_dict_get (PySem.F.args_dict_get_2 _ _) (meets_dict_get (ap X.prog X.w) a (gA ry) hd) ⟨_,dd.mapOf,h _ _ (I.tok _) ?_⟩
  rw[l]
  exact(rel.val k).getD rfl
 ·subst ey
  cases (show u=Value.ref b from ry)
  obtain⟨z,hd,xs,rel,dd⟩:=dS I.hok e
  refine call_meetsIn PySem.F.slot_dict_get dd.typeIs PySem.F.entry_dict_get (PySem.F.args_dict_get_2 _ _) (meetsH_dict_get (tupleKind (ap X.prog X.w)) a b hd) ⟨tupleKind_room_in1 hu,k,xs,cB I.hok eb,dd,h _ _ (I.tok _) ?_⟩
  rw[l]
  exact(rel.val k).getD rfl
end
noncomputable def qP (td ty:TE):TE:=fun σ H Q=>td σ H fun x H1=>∃ a,x=.ref a/\IsD H1 a/\ty σ H1 fun y H2=>∃ o,DGet H2 a y o/\Q (o.getD .non) H2
section
variable {X:Cx}{o e f:Expr}{apos cpos:Pos}{td ty tx:TE}
theorem iQ (hu:X.A.units+1<cLine) (ho:PE X o td) (he:PE X e ty) (m:M1 X o "get" apos e cpos):PE X (.Call (.Attribute o "get" apos) [e] [] cpos) (qP td ty):=by
 intro pins s σ H Q I h
 refine wpAny_Call_method m.base m.few m.line PySem.F.plainAttrs_dict PySem.F.slot_dict_get PySem.F.type_dict_get (thn (ho pins s σ H _ I h) fun u s1 z_=>z_.elim fun x z_=>z_.elim fun H1 z_=>z_.elim fun I1 z_=>z_.elim fun rx z_=>z_.elim fun a z_=>z_.elim fun ex z_=>z_.elim fun d q1=>?_)
 subst ex
 obtain rfl:u=Value.ref a:=rx
 obtain⟨t1,t2,_⟩:=nU I1 d
 refine⟨t1,t2,?_⟩
 rw[m.trees]
 refine Calls.callWith_builtin rfl (Calls.evalArgs_plain (Calls.spliced_cons (thn (he pins s1 σ H1 _ I1 q1) fun iv s2 z_=>z_.elim fun y z_=>z_.elim fun H2 z_=>z_.elim fun I2 z_=>z_.elim fun ry z_=>z_.elim fun ov z_=>z_.elim fun g q2=>Calls.spliced_nil ?_)))
 exact rX hu I2 g ry fun w' s3 I3 rw'=>⟨_,H2,I3,rw',q2⟩
end
section
variable {X:Cx}{pins:List (Addr×Obj)}{σ:St}{H:Hp}{s:Shared}{a:Addr}{kvs:List (Key×V)}{A:Around}{E:Value->Shared->Prop}
theorem or {Q:Value->Shared->Prop} (I:Inv X pins σ H s) (e:Rd H a (.dK kvs)) (h:∀ p s',H p=none->Inv X pins σ (upd H p (.dK kvs)) s'->Q (.ref p) s'):wpAny (model X.prog X.w) A (call (.type "dict") [.ref a]) Q E s:=by
 obtain⟨z,hd,vs,rel,dd⟩:=dU I.hok e
 refine kt_call_dict hd dd (by rw[<- rel.length]; exact z) fun h' dd' hs=>?_
 refine h _ _ (I.hok.fresh (Nat.le_refl _)) (I.laid (a:=s.heap.objs.size) (o:=.dK kvs) (t':=s.toks) (fun b q hq=>?_) (Nat.le_refl _) (oj z (beq_eq_false_iff_ne.mpr (Ne.symm (Nat.ne_of_lt I.big))) rel dd'))
 exact(hs.2 b (Nat.ne_of_lt (Heap.lt_size hq))).trans (Heap.get?_push_of_some _ hq)
end
end L2
namespace HT
open PySem PyProof.Rows
section
open PySem.SeqAt
open PySem.AutoSeq1 (wpAny_loadPart')
open PySem.MeetsSeq PySem.MeetsSeq2 PySem.MeetsSeq3
end
section
variable {prog:Program}{w:World}{A:Around}{E:Value->Shared->Prop}{s:Shared}
noncomputable def sIx (n d:Nat):Option Int->Nat
 | none=>d
 | some v=>if v<0 then(v+(n:Int)).toNat else min v.toNat n
end
end HT
namespace L2
open PySem PySem.Spec PyProof.Rows
noncomputable abbrev TO:=St->Hp->(Option Int->Hp->Prop)->Prop
noncomputable def PO (X:Cx) (e:Option Expr) (t:TO):Prop :=
 ∀ (pins:List (Addr×Obj)) (s:Shared) (σ:St) (H:Hp) (Q:Option Int->Hp->Prop),Inv X pins σ H s->t σ H Q ->
  wpAny (model X.prog X.w) X.A (evalPart e X.env) (fun u s'=>∃ o H',Inv X pins σ H' s'/\IsPart u o/\Q o H') X.xe s
noncomputable def oA:TO:=fun _ H Q=>Q none H
noncomputable def tPart (t:TE):TO:=fun σ H Q=>t σ H fun x H1=>∃ i,x=.int i/\Q (some i) H1
section
variable {X:Cx}{e:Expr}{te:TE}{lo hi:Option Expr}{tl th:TO}{pos p2:Pos}
theorem kq:PO X none oA:=by
 intro pins s σ H Q I h
 rw[evalPart_none]
 exact wpAny_pure ⟨none,H,I,.none,h⟩
theorem ko (h:PE X e te):PO X (some e) (tPart te):=by
 intro pins s σ H Q I hw
 rw[evalPart_some]
 refine thn (h pins s σ H _ I hw) fun u s1 z_=>z_.elim fun x z_=>z_.elim fun H1 z_=>z_.elim fun I1 z_=>z_.elim fun r1 q1=>?_
 obtain⟨i,rfl,q⟩:=q1
 obtain⟨t,rfl⟩:=r1
 exact⟨some i,H1,I1,.int i t,q⟩
noncomputable def SlR (X:Cx) (r:V->Option Int->Option Int->Hp->VK->Prop):Prop :=
 ∀ (pins:List (Addr×Obj)) (s:Shared) (σ:St) (H:Hp) (x:V) (v vl vu:Value) (lo hi:Option Int) (sl:Addr) (Q:VK),Inv X pins σ H s->RelV x v->s.heap.IsSliceOf sl vl vu .none->IsPart vl lo->IsPart vu hi->r x lo hi H Q ->
  ∃ T id,typeLookup (.type T) "__getitem__" = pure (some (.builtin id))/\s.TypeIs v T/\wpAny (model X.prog X.w) X.A (getItem v (.ref sl)) (EP X pins σ Q) X.xe s
noncomputable def tSl (r:V->Option Int->Option Int->Hp->VK->Prop) (te:TE) (tl th:TO):TE:=fun σ H Q=>te σ H fun x H1=>tl σ H1 fun l H2=>th σ H2 fun u H3=>r x l u H3 Q
theorem iL {r:V->Option Int->Option Int->Hp->VK->Prop} (hr:SlR X r) (he:PE X e te) (hl:PO X lo tl) (hu:PO X hi th):PE X (.Subscript e (.Slice lo hi none p2) pos) (tSl r te tl th):=by
 intro pins s σ H Q I h
 refine Subscript_ (thn (he pins s σ H _ I h) fun v s1 z_=>z_.elim fun x z_=>z_.elim fun H1 z_=>z_.elim fun I1 z_=>z_.elim fun r1 q1=>?_)
 refine wpAny_Slice (thn (hl pins s1 σ H1 _ I1 q1) fun vl s2 z_=>z_.elim fun l z_=>z_.elim fun H2 z_=>z_.elim fun I2 z_=>z_.elim fun pl q2=>thn (hu pins s2 σ H2 _ I2 q2) fun vu s3 z_=>z_.elim fun u z_=>z_.elim fun H3 z_=>z_.elim fun I3 z_=>z_.elim fun pu q3=>?_)
 rw[evalPart_none]
 refine wpAny_pure ?_
 have I4:Inv X pins σ H3 { s3 with heap:=s3.heap.push { cls:=.type "slice",data:=.fields #[vl,vu,.none] } }:=I3.kept (t':=s3.toks) fun b ob q=>Heap.get?_push_of_some _ q
 obtain⟨T,id,hT,ht,hg⟩:=hr pins { s3 with heap:=s3.heap.push { cls:=.type "slice",data:=.fields #[vl,vu,.none] } } σ H3 x v vl vu l u s3.heap.objs.size Q I4 r1 (Heap.IsSliceOf.new ..) pl pu q3
 show wpAny (model X.prog X.w) X.A (subscriptTail e (.Slice lo hi none p2) v (.ref s3.heap.objs.size)) (EP X pins σ Q) X.xe { s3 with heap:=s3.heap.push { cls:=.type "slice",data:=.fields #[vl,vu,.none] } }
 exact tail_any (ops:=[.ref s3.heap.objs.size,v]) ht hT hg (by with_unfolding_all rfl)
noncomputable def eR (xs:List V) (lo hi:Option Int):List V:=(xs.drop (HT.sIx xs.length 0 lo)).take (HT.sIx xs.length xs.length hi - HT.sIx xs.length 0 lo)
theorem jl (xs:List V) (lo hi:Option Int):(eR xs lo hi).length<=xs.length:=by
 unfold eR
 rw[length_take,List.length_drop]
 omega
end
noncomputable def ixN (n:Nat) (i:Int):Option Nat:=if 0<=i then(if i<n then some i.toNat else none) else if -(n:Int)<=i then some (i+n).toNat else none
noncomputable def atI {α:Type} (xs:List α) (i:Int):Option α:=(ixN xs.length i).bind fun j=>xs[j]?
theorem kG {n:Nat}{i:Int}{j:Nat} (h:ixN n i=some j):seqIndex? i n=some j/\j<n/\-(n:Int)<=i/\i<n:=by
 unfold ixN at h
 by_cases h0:0<=i
 ·rw[if_pos h0] at h
  by_cases h1:i<n
  ·rw[if_pos h1] at h
   have e:i.toNat=j:=Option.some.inj h
   exact⟨by rw[seqIndex_of h0 h1,e],by omega,by omega,h1⟩
  ·rw[if_neg h1] at h; cases h
 ·rw[if_neg h0] at h
  by_cases h1:-(n:Int)<=i
  ·rw[if_pos h1] at h
   have e:(i+n).toNat=j:=Option.some.inj h
   exact⟨by rw[seqIndex_neg (by omega) h1,e],by omega,h1,by omega⟩
  ·rw[if_neg h1] at h; cases h
theorem kT {α:Type}{xs:List α}{i:Int}{v:α} (h:atI xs i=some v):∃ j,seqIndex? i xs.length=some j/\xs[j]?=some v/\j<xs.length/\-(xs.length:Int)<=i/\i<xs.length:=by
 unfold atI at h
 cases e:ixN xs.length i with
 | none=>rw[e] at h; cases h
 | some j=>
  rw[e] at h
  obtain⟨h1,h2,h3,h4⟩:=kG e
  exact⟨j,h1,h,h2,h3,h4⟩
theorem aY {α:Type}{xs:List α}{j:Nat}{v:α} (h:xs[j]?=some v):atI xs (j:Int)=some v:=by
 have hj:j<xs.length:=(List.getElem?_eq_some_iff.mp h).1
 have e:ixN xs.length (j:Int)=some j:=by
  unfold ixN
  rw[if_pos (by omega),if_pos (by omega)]; simp
 unfold atI; rw[e]; exact h
noncomputable def p7 (b:Expr):Prop:=∀ o i,subscripted b false o i=operate [o,i] (getItem o i)
noncomputable def IxR (X:Cx) (r:R2):Prop :=
 ∀ (value slice:Expr) (pins:List (Addr×Obj)) (s:Shared) (σ:St) (H:Hp) (x y:V) (v u:Value) (Q:VK),Inv X pins σ H s->RelV x v->RelV y u->r x y H Q ->
  subscripted slice false v u=operate [v,u] (getItem v u)->wpAny (model X.prog X.w) X.A (subscriptTail value slice v u) (EP X pins σ Q) X.xe s
noncomputable def MtR (X:Cx) (id:String) (r:V->List V->Hp->VK->Prop):Prop :=
 ∀ (pins:List (Addr×Obj)) (s:Shared) (σ:St) (H:Hp) (x:V) (xs:List V) (v:Value) (us:List Value) (Q:VK),Inv X pins σ H s->RelV x v->Vals xs us->r x xs H Q ->
  wpAny (model X.prog X.w) X.A (call (.builtin id) (v::us)) (EP X pins σ Q) X.xe s
section
variable {X:Cx}{a b:Expr}{ta tb:TE}{pos:Pos}
theorem aG {r:R2} (hr:IxR X r) (ha:PE X a ta) (hb:PE X b tb) (hs:p7 b:=by exact fun _ _=>rfl):PE X (.Subscript a b pos) (tOp r ta tb):=by
 intro pins s σ H Q I h
 exact Subscript_ (rZ ha hb I h fun v u s2 x y H2 I2 rx ry q=>hr a b pins s2 σ H2 x y v u Q I2 rx ry q (hs _ _))
noncomputable def rIxL (K:PySem.W.Frag):R2:=fun x y H Q=>∃ p xs i v,x=.ref p/\y=.int i/\SqL K H p xs/\atI xs i=some v/\Q v H
noncomputable def rIxT (K:PySem.W.Frag):R2:=fun x y H Q=>∃ p xs i v,x=.ref p/\y=.int i/\SqT K H p xs/\atI xs i=some v/\Q v H
theorem aC:IxR X (rIxL X.K):=by
 intro value slice pins s σ H x y v u Q I rx ry h hs
 obtain⟨p,xs,i,z,rfl,rfl,hq,he,q⟩:=h
 cases rx
 obtain⟨t,rfl⟩:=ry
 obtain⟨its,r,pl,hz⟩:=I.list hq
 obtain⟨j,h1,h2,h3,h4,h5⟩:=kT he
 obtain⟨w,ew,rw'⟩:=r.get h2
 have hl:=r.length
 have hn:=gZ
 have fin:EP X pins σ Q w s:=⟨z,H,I,rw',q⟩
 by_cases h0:0<=i
 ·have hj:i.toNat=j:=by
   rw[seqIndex_of h0 h5] at h1
   exact Option.some.inj h1
  exact item_listR pl.isList h0 (by omega) (by rw[hj]; simpa using ew) fin hs
 ·have hj:(i+(its.toArray.size:Int)).toNat=j:=by
   rw[seqIndex_neg (by omega) h4] at h1
   rw[size_toArray,<- hl]
   exact Option.some.inj h1
  exact subscriptTail_builtinR (x:=w) pl.isList.typeIs slot_list_getitem.lookup
   (wpAny_getItem_list_neg (Q:=fun r s'=>r=w/\EP X pins σ Q r s') pl.isList (by omega) (by rw[size_toArray] <;> omega) (by omega) (by rw[hj]; simpa using ew) ⟨U,fin⟩) hs
theorem bv:IxR X (rIxT X.K):=by
 intro value slice pins s σ H x y v u Q I rx ry h hs
 obtain⟨p,xs,i,z,rfl,rfl,hq,he,q⟩:=h
 cases rx
 obtain⟨t,rfl⟩:=ry
 obtain⟨its,r,pl,hz⟩:=I.tuple hq
 obtain⟨j,h1,h2,h3,h4,h5⟩:=kT he
 obtain⟨w,ew,rw'⟩:=r.get h2
 have hl:=r.length
 have hn:=gZ
 have fin:EP X pins σ Q w s:=⟨z,H,I,rw',q⟩
 exact subscriptTail_builtinR (x:=w) pl.typeIs slot_tuple_getitem.lookup
  (getItem_tuple (j:=j) (Q:=fun r s'=>r=w/\EP X pins σ Q r s') pl (by omega) (by omega) (by rw[size_toArray,<- hl]; exact h1) (by simpa using ew) ⟨U,fin⟩) hs
theorem jI (its:List Value) (n j:Nat) (u:Value):Obj.mapSeq (·.setIfInBounds j u) { cls:=.type "list",data:=.seq its.toArray n }={ cls:=.type "list",data:=.seq (its.set j u).toArray n }:=by
 simp[Obj.mapSeq]
theorem Inv.lst {pins:List (Addr×Obj)}{σ:St}{H:Hp}{s:Shared}{p:Addr}{xs:List V} (I:Inv X pins σ H s) (h:H p=some (.lst xs)) :
  ∃ (its:List Value) (n:Nat),Vals xs its/\s.heap.get? p=some { cls:=.type "list",data:=.seq its.toArray n }/\xs.length<=sizeLine:=by
 obtain⟨z,its,n,r,e⟩:=I.hok p _ h
 exact⟨its,n,r,e,z⟩
theorem Inv.lstUpd {pins:List (Addr×Obj)}{σ:St}{H:Hp}{s:Shared}{p:Addr}{xs ys:List V}{its its':List Value}{n n':Nat}{f:Obj->Obj} (I:Inv X pins σ H s) (h:H p=some (.lst xs))
  (ho:s.heap.get? p=some { cls:=.type "list",data:=.seq its.toArray n }) (hf:f { cls:=.type "list",data:=.seq its.toArray n }={ cls:=.type "list",data:=.seq its'.toArray n' }) (r:Vals ys its') (hz:ys.length<=sizeLine) (t:Nat) :
  Inv X pins σ (upd H p (.lst ys)) { s with heap:=s.heap.update p f,toks:=t }:=by
 have e:(s.heap.update p f).get? p=some { cls:=.type "list",data:=.seq its'.toArray n' }:=by
  rw[Heap.get?_update_self f ho (by rw[hf] <;> rfl),hf]
 refine I.write (x:=p) (e:=p) (by rw[h]; trivial) (.inl rfl) (fun b u hb q=>(Heap.get?_update_other _ _ (Ne.symm hb)).trans q) ⟨_,e⟩ ?_
 exact⟨hz,its',n',r,e⟩
noncomputable def rSetL:V->V->V->Hp->(Hp->Prop)->Prop:=fun o i v H Q=>∃ p xs k j,o=.ref p/\i=.int k/\H p=some (.lst xs)/\ixN xs.length k=some j/\Q (upd H p (.lst (xs.set j v)))
theorem cS:tV X rSetL:=by
 intro pins s σ H o i v ov iv u Q I ro ri rv h
 obtain⟨p,xs,k,j,rfl,rfl,hp,hj,q⟩:=h
 cases ro
 obtain⟨t,rfl⟩:=ri
 obtain⟨its,n,r,ho,hz⟩:=I.lst hp
 obtain⟨h1,h2,h3,h4⟩:=kG hj
 have hl:=r.length
 have hn:=gZ
 have I':Inv X pins σ (upd H p (.lst (xs.set j v))) { s with heap:=s.heap.update p (Obj.mapSeq (·.setIfInBounds j u)) } :=
  I.lstUpd hp ho (jI its n j u) (r.set rv j) (by rw[List.length_set]; exact hz) s.toks
 by_cases h0:0<=k
 ·have hk:k.toNat=j:=by
   rw[seqIndex_of h0 h4] at h1
   exact Option.some.inj h1
  exact PySem.W.ki_setAt ho h0 (by omega) (by rw[size_toArray,<- hl]; exact h4) (by rw[hk]; exact⟨_,I',q⟩)
 ·have hk:(k+(its.toArray.size:Int)).toNat=j:=by
   rw[seqIndex_neg (by omega) h3] at h1
   rw[size_toArray,<- hl]
   exact Option.some.inj h1
  exact PySem.W.ki_setBack ho (by omega) (by rw[size_toArray,<- hl]; exact h3) (by omega) (by rw[hk]; exact⟨_,I',q⟩)
theorem gN (lo hi:Option Int) (n:Nat):(sliceBounds lo hi none n).1=((HT.sIx n 0 lo:Nat):Int)/\(sliceBounds lo hi none n).2.1=((HT.sIx n n hi:Nat):Int)/\(sliceBounds lo hi none n).2.2=1:=by
 refine⟨?_,?_,U⟩
 ·cases lo with
  | none=>simp[sliceBounds,HT.sIx]
  | some i=>
   simp only[sliceBounds,HT.sIx,Option.getD_none,show(1:Int) > 0 by decide,if_true]
   by_cases h:i<0
   ·simp only[h,if_true] <;> omega
   ·simp only[h,if_false] <;> omega
 ·cases hi with
  | none=>simp[sliceBounds,HT.sIx]
  | some i=>
   simp only[sliceBounds,HT.sIx,Option.getD_none,show(1:Int) > 0 by decide,if_true]
   by_cases h:i<0
   ·simp only[h,if_true] <;> omega
   ·simp only[h,if_false] <;> omega
theorem fX (its:List Value) (lo hi:Option Int):slicePick its.toArray lo hi none=((its.drop (HT.sIx its.length 0 lo)).take (HT.sIx its.length its.length hi - HT.sIx its.length 0 lo)).toArray:=by
 obtain⟨h1,h2,h3⟩:=gN lo hi its.toArray.size
 unfold slicePick
 rw[h1,h2,h3]
 simp only[sliceRange_one,pick_run,size_toArray] <;> rfl
noncomputable def rSlL (K:PySem.W.Frag):V->Option Int->Option Int->Hp->VK->Prop:=fun x lo hi H Q=>∃ a xs,x=.ref a/\SqL K H a xs/\∀ p,H p=none->Q (.ref p) (upd H p (.lst (eR xs lo hi)))
theorem j7:SlR X (rSlL X.K):=by
 intro pins s σ H x v vl vu lo hi sl Q I rx hs pl pu h
 obtain⟨a,xs,rfl,hx,q⟩:=h
 cases rx
 obtain⟨its,r,ht,hz⟩:=I.list hx
 have hlen:=r.length
 refine⟨"list",_,slot_list_getitem.lookup,ht.isList.typeIs,?_⟩
 refine wpAny_getItem_list_slice ht.isList hs pl pu .none (by simp) ?_ (by rw[size_toArray] <;> omega)
 rw[fX,<- hlen]
 refine⟨.ref s.heap.objs.size,_,I.laid (t':=s.toks) (o:=.lst (eR xs lo hi)) (fun b ob q=>Heap.get?_push_of_some _ q) (Nat.le_refl _) ?_,U,q _ (I.hok.fresh (Nat.le_refl _))⟩
 exact⟨Nat.le_trans (jl xs lo hi) hz,_,0,(r.drop (HT.sIx xs.length 0 lo)).take (HT.sIx xs.length xs.length hi - HT.sIx xs.length 0 lo),Heap.get?_push_size _ rfl⟩
noncomputable def eF:V->Bool
 | .non=>true
 | .bl _=>true
 | .int _=>true
 | .str _=>true
 | _=>false
noncomputable def eqV:V->V->Bool
 | .non,.non=>true
 | .bl a,.bl b=>a == b
 | .bl a,.int b=>(if a then 1 else 0) == b
 | .int a,.bl b=>a == (if b then 1 else 0)
 | .int a,.int b=>a == b
 | .str a,.str b=>a == b
 | _,_=>false
theorem rR {A:Around}{s:Shared}{y x:V}{u v:Value} (ry:RelV y u) (rx:RelV x v) (fy:eF y=true) (fx:eF x=true):SeqAt.EqAt A s u v (eqV y x):=by
 cases y with
 | non=>
  cases ry
  cases x with
  | non=>cases rx; exact SeqAt.EqAt.same _
  | bl b=>cases rx; exact SeqAt.EqAt.none_bool b
  | int b=>obtain⟨t,rfl⟩:=rx; exact SeqAt.EqAt.none_int b t
  | str b=>obtain⟨t,rfl⟩:=rx; exact SeqAt.EqAt.none_str b t
  | _=>exact absurd (show false=true from fx) Bool.false_ne_true
 | bl a=>
  cases ry
  cases x with
  | non=>cases rx; exact SeqAt.EqAt.bool_none a
  | bl b=>cases rx; exact SeqAt.EqAt.bool_bool a b
  | int b=>obtain⟨t,rfl⟩:=rx; exact SeqAt.EqAt.bool_int a b t
  | str b=>obtain⟨t,rfl⟩:=rx; exact SeqAt.EqAt.bool_str a b t
  | _=>exact absurd (show false=true from fx) Bool.false_ne_true
 | int a=>
  obtain⟨t',rfl⟩:=ry
  cases x with
  | non=>cases rx; exact SeqAt.EqAt.int_none a t'
  | bl b=>cases rx; exact SeqAt.EqAt.int_bool a t' b
  | int b=>obtain⟨t,rfl⟩:=rx; exact SeqAt.EqAt.int_int a t' b t
  | str b=>obtain⟨t,rfl⟩:=rx; exact SeqAt.EqAt.int_str a t' b t
  | _=>exact absurd (show false=true from fx) Bool.false_ne_true
 | str a=>
  obtain⟨t',rfl⟩:=ry
  cases x with
  | non=>cases rx; exact SeqAt.EqAt.str_none a t'
  | bl b=>cases rx; exact SeqAt.EqAt.str_bool a t' b
  | int b=>obtain⟨t,rfl⟩:=rx; exact SeqAt.EqAt.str_int a t' b t
  | str b=>obtain⟨t,rfl⟩:=rx; exact SeqAt.EqAt.str_str a t' b t
  | _=>exact absurd (show false=true from fx) Bool.false_ne_true
 | _=>exact absurd (show false=true from fy) Bool.false_ne_true
noncomputable def eqU (x:V) (u:Value):Bool:=match u with
 | .none=>eqV .non x
 | .bool b=>eqV (.bl b) x
 | .int i _=>eqV (.int i) x
 | .str z _=>eqV (.str z) x
 | _=>false
theorem n9 {x y:V}{u:Value} (r:RelV y u) (f:eF y=true):eqU x u=eqV y x:=by
 cases y with
 | non=>cases r; rfl
 | bl b=>cases r; rfl
 | int i=>obtain⟨t,rfl⟩:=r; rfl
 | str z=>obtain⟨t,rfl⟩:=r; rfl
 | _=>exact absurd (show false=true from f) Bool.false_ne_true
theorem iA {x:V}:∀ {xs:List V}{us:List Value},Vals xs us->xs.all eF=true->us.any (eqU x)=xs.any fun y=>eqV y x
 | _,_,.nil,_=>rfl
 | y::xs,u::us,.cons r t,f=>by
  rw[List.all_cons,Bool.and_eq_true] at f
  rw[List.any_cons,List.any_cons,n9 r f.1,iA t f.2]
theorem fF {A:Around}{s:Shared}{x:V}{v:Value} (rx:RelV x v) (fx:eF x=true):∀ {xs:List V}{us:List Value},Vals xs us->xs.all eF=true->∀ u ∈ us,SeqAt.EqAt A s u v (eqU x u)
 | _,_,.nil,_=>fun u hu=>by cases hu
 | y::xs,u::us,.cons r t,f=>fun u' hu=>by
  rw[List.all_cons,Bool.and_eq_true] at f
  rcases mem_cons.mp hu with rfl | hu
  ·rw[n9 r f.1]; exact rR r rx f.1 fx
  ·exact fF rx fx t f.2 u' hu
noncomputable def inV (x:V) (xs:List V):Bool:=xs.any fun y=>eqV y x
noncomputable def rIn (K:PySem.W.Frag) (neg:Bool):R2:=fun x y H Q=>∃ p xs,y=.ref p/\(SqL K H p xs∨SqT K H p xs)/\eF x=true/\xs.all eF=true/\Q (.bl (if neg then !inV x xs else inV x xs)) H
theorem ln:OpR X (compareOp .In) (rIn X.K false):=by
 intro pins s σ H x y v u Q I rx ry h
 obtain⟨p,xs,rfl,hq,fx,fs,q⟩:=h
 cases ry
 rcases hq with hq | hq
 ·obtain⟨its,r,pl,hz⟩:=I.list hq
  refine SeqAt.in_listAt (eqU x) pl.isList (fun w hw=>fF rx fx r fs w (by simpa using hw)) ⟨.bl _,H,I,U,?_⟩
  rw[show its.toArray.any (eqU x)=its.any (eqU x) by simp,iA r fs]
  exact q
 ·obtain⟨its,r,pl,hz⟩:=I.tuple hq
  refine SeqAt.in_tupleAt (eqU x) pl (fun w hw=>fF rx fx r fs w (by simpa using hw)) ⟨.bl _,H,I,U,?_⟩
  rw[show its.toArray.any (eqU x)=its.any (eqU x) by simp,iA r fs]
  exact q
theorem aA:b7 X (.builtin "len") (fun xs H Q=>∃ p ys,xs=[.ref p]/\(SqL X.K H p ys∨SqT X.K H p ys)/\Q (.int ys.length) H):=by
 intro pins s σ H xs us Q I r h
 obtain⟨p,ys,rfl,hq,q⟩:=h
 obtain⟨u,rfl,rx⟩:=cg r
 cases rx
 have hn:=gZ
 rcases hq with hq | hq
 ·obtain⟨its,r',pl,hz⟩:=I.list hq
  have hlen:=r'.length
  exact Calls.call_len_list pl.isList (by simp only[size_toArray] <;> omega) ⟨.int ys.length,H,I.tok _,⟨s.toks+1,by rw[size_toArray,hlen]⟩,q⟩
 ·obtain⟨its,r',pl,hz⟩:=I.tuple hq
  have hlen:=r'.length
  exact len_tuple pl (by simp only[size_toArray] <;> omega) ⟨.int ys.length,H,I.tok _,⟨s.toks+1,by rw[size_toArray,hlen]⟩,q⟩
theorem cc:b7 X (.type "list") (fun xs H Q=>∃ p ys,xs=[.ref p]/\(SqL X.K H p ys∨SqT X.K H p ys)/\∀ l,H l=none->Q (.ref l) (upd H l (.lst ys))):=by
 intro pins s σ H xs us Q I r h
 obtain⟨p,ys,rfl,hq,q⟩:=h
 obtain⟨u,rfl,rx⟩:=cg r
 cases rx
 have fin:∀ (its:List Value),Vals ys its->ys.length<=sizeLine->∀ (h':Heap) (c':Nat),(∀ b o',s.heap.get? b=some o'->h'.get? b=some o') ->
   h'.get? s.heap.objs.size=some { cls:=.type "list",dict:=none,data:=.seq its.toArray c',slots:=#[] }->EP X pins σ Q (.ref s.heap.objs.size) { s with heap:=h' }:=fun its r' hz h' c' kp e=>
  ⟨.ref s.heap.objs.size,_,I.laid (t':=s.toks) kp (Nat.le_refl _) (show ObjOk X.prog X.w _ h' _ (.lst ys) from⟨hz,its,c',r',e⟩),U,q _ (I.hok.fresh (Nat.le_refl _))⟩
 rcases hq with hq | hq
 ·obtain⟨its,r',pl,hz⟩:=I.list hq
  have hlen:=r'.length
  obtain⟨o,ho,hc,n,hd⟩:=pl.isList
  exact call_list_seq p (.inl rfl) ho hc hd (fun h' c' kp e=>fin its r' hz h' c' kp e) (by simp only[size_toArray] <;> omega)
 ·obtain⟨its,r',pl,hz⟩:=I.tuple hq
  have hlen:=r'.length
  obtain⟨o,ho,hc,n,hd⟩:=pl
  exact call_list_seq p (.inr rfl) ho hc hd (fun h' c' kp e=>fin its r' hz h' c' kp e) (by simp only[size_toArray] <;> omega)
theorem fY:b7 X (.type "tuple") (fun xs H Q=>∃ p ys,xs=[.ref p]/\((SqL X.K H p ys/\∀ l,H l=none->Q (.ref l) (upd H l (.tup ys)))∨(SqT X.K H p ys/\Q (.ref p) H))):=by
 intro pins s σ H xs us Q I r h
 obtain⟨p,ys,rfl,h⟩:=h
 obtain⟨u,rfl,rx⟩:=cg r
 cases rx
 rcases h with ⟨hq,q⟩ | ⟨hq,q⟩
 ·obtain⟨its,r',pl,hz⟩:=I.list hq
  have hlen:=r'.length
  refine call_tuple_list pl.isList (fun h' kp=>?_) (by simp only[size_toArray] <;> omega)
  have I1:Inv X pins σ H { s with heap:=h' }:=I.kept (t':=s.toks) kp
  have I2:Inv X pins σ (upd H h'.objs.size (.tup ys)) { s with heap:=h'.push { cls:=.type "tuple",data:=.seq its.toArray } } :=
   I1.laid (t':=s.toks) (fun b o e=>Heap.get?_push_of_some _ e) (Nat.le_refl _) (show ObjOk X.prog X.w _ _ _ (.tup ys) from⟨hz,its,r',IsTup.new _ _⟩)
  exact⟨.ref h'.objs.size,_,I2,U,q _ (I1.hok.fresh (Nat.le_refl _))⟩
 ·obtain⟨its,r',pl,hz⟩:=I.tuple hq
  exact call_tuple_same pl ⟨.ref p,H,I,U,q⟩
noncomputable def tyV (K:PySem.W.Frag) (T:String) (x:V) (H:Hp):Prop:=match x with
 | .str _=>T = "str"
 | .int _=>T = "int"
 | .ref p=>(T = "list" /\ ∃ xs,SqL K H p xs)∨(T = "tuple" /\ ∃ o,K.lookup p=some o/\o.cls=.type "tuple" /\ o.dict=none) ∨
   (T = "dict" /\ ((∃ kvs,H p=some (.dK kvs))∨∃ kvs,H p=some (.dT kvs)))∨(T = "set" /\ ∃ S n,H p=some (.set S n))
 | _=>False
theorem qH {pins:List (Addr×Obj)}{σ:St}{H:Hp}{s:Shared}{T:String}{x:V}{v:Value} (I:Inv X pins σ H s) (r:RelV x v) (ty:tyV X.K T x H) :
  s.TypeIs v T/\∀ a,v=.ref a->∃ ob,s.heap.get? a=some ob/\ob.dict=none:=by
 cases x with
 | str z=>
  obtain⟨t,rfl⟩:=r
  cases (show T = "str" from ty)
  exact⟨typeIs_str s z t,fun _ e=>nomatch e⟩
 | int i=>
  obtain⟨t,rfl⟩:=r
  cases (show T = "int" from ty)
  exact⟨typeIs_int s i t,fun _ e=>nomatch e⟩
 | ref p=>
  cases r
  rcases ty with ⟨rfl,xs,hq⟩ | ⟨rfl,o,hk,hc,hd⟩ | ⟨rfl,hk⟩ | ⟨rfl,S,n,hk⟩
  ·obtain⟨its,_,pl,_⟩:=I.list hq
   refine⟨pl.isList.typeIs,fun a e=>?_⟩
   cases e
   obtain⟨o,n,e,c,hd,_⟩:=pl
   exact⟨o,e,hd⟩
  ·refine⟨⟨o,I.kIn p o hk,hc⟩,fun a e=>?_⟩
   cases e
   exact⟨o,I.kIn _ o hk,hd⟩
  ·have z:∃ o,s.heap.get? p=some o/\o.ExactDict:=by
    rcases hk with ⟨kvs,hk⟩ | ⟨kvs,hk⟩
    ·obtain⟨_,_,_,_,o,_,_,e,ex,_⟩:=I.hok p _ hk
     exact⟨o,e,ex⟩
    ·obtain⟨_,_,_,_,o,_,_,e,ex,_⟩:=I.hok p _ hk
     exact⟨o,e,ex⟩
   obtain⟨o,e,ex⟩:=z
   refine⟨⟨o,e,ex.1⟩,fun a e2=>?_⟩
   cases e2
   exact⟨o,e,ex.2.1⟩
  ·obtain⟨o,_,_,_,e,ex,_⟩:=I.hok p _ hk
   refine⟨⟨o,e,ex.1⟩,fun a e2=>?_⟩
   cases e2
   exact⟨o,e,ex.2.1⟩
 | _=>exact False.elim ty
noncomputable def tBM (K:PySem.W.Frag) (T:String) (r:V->List V->Hp->VK->Prop) (to:TE) (t:TA):TE:=fun σ H Q=>to σ H fun x H1=>tyV K T x H1/\t σ H1 fun xs H2=>r x xs H2 Q
variable {o e:Expr}{es:List Expr}{to:TE}{t:TA}{name:Str}{apos cpos:Pos}{T id:String}{r:V->List V->Hp->VK->Prop}
theorem bP (pa:PlainAttrs T) (slot:Slot T name id) (hty:typeOf (.builtin id)=pure (.type "method_descriptor")) (hm:MtR X id r) (ho:PE X o to) (ha:PA X (e::es) t)
  (hbase:attributeBase o name X.env (eval o X.env)=eval o X.env:=by rfl)
  (hfew:((backTo cpos (starEach (e::es) X.env)).all (fun x=>!x.1) && (backToKw cpos (keywordEach [] X.env)).all (fun x=>x.1.isSome)
   && decide ((e::es).length+([]:List Keyword).length+(if ([]:List Keyword).isEmpty then 0 else 1)<30))=true:=by rfl)
  (hline:(apos.endLine == cpos.line)=true:=by rfl) (hs:starEach (e::es) X.env=(false,eval e X.env)::starEach es X.env:=by rfl) (hplain:(backTo cpos (starEach es X.env)).any (·.1)=false:=by rfl) :
  PE X (.Call (.Attribute o name apos) (e::es) [] cpos) (tBM X.K T r to t):=by
 intro pins s σ H Q I h
 refine wpAny_Call_method_late hbase hfew hline rfl (thn (ho pins s σ H _ I h) fun v s1 z_=>z_.elim fun x z_=>z_.elim fun H1 z_=>z_.elim fun I1 z_=>z_.elim fun r1 z_=>z_.elim fun ty q1=>?_)
 obtain⟨h1,h2⟩:=qH I1 r1 ty
 refine⟨T,id,pa,slot,hty,h1,h2,?_⟩
 have hA:=ha cpos pins s1 σ H1 _ I1 q1
 rw[hs] at hA ⊢
 refine Calls.callWith_builtin (by show (false || (backTo cpos (starEach es X.env)).any (·.1)) = false; rw [hplain] <;> rfl) (Calls.evalArgs_plain ?_)
 exact thn hA fun us s2 z_=>z_.elim fun vs z_=>z_.elim fun H2 z_=>z_.elim fun I2 z_=>z_.elim fun r2 q2=>hm pins s2 σ H2 x vs v us Q I2 r1 r2 q2
/- xs.append(e),list.index on a module's tuple .. are MtR facts of 06m -/
end
end L2
namespace L2
open PySem PySem.Spec PyProof.Rows
noncomputable def MtM (X:Cx) (id:String) (r:V->List V->Hp->VK->Prop):Prop :=
 ∀ (pins:List (Addr×Obj)) (s:Shared) (σ:St) (H:Hp) (x:V) (xs:List V) (v:Value) (us:List Value) (Q:VK),Inv X pins σ H s->RelV x v->Vals xs us->r x xs H Q ->
  wpAny (model X.prog X.w) X.A (call (.builtin id) (v::us)) (EP X pins σ Q) X.xe s
theorem Vals.one {x:V}{us:List Value} (h:Vals [x] us):∃ u,us=[u]/\RelV x u:=by
 cases h with
 | cons r s=>cases s; exact⟨_,U,r⟩
theorem Vals.eraseIdx:∀ {xs:List V}{us:List Value} (i:Nat),Vals xs us->Vals (xs.eraseIdx i) (us.eraseIdx i)
 | _,_,_,.nil=>.nil
 | _,_,0,.cons _ t=>t
 | _,_,i+1,.cons r t=>.cons r (Vals.eraseIdx i t)
theorem gx {α:Type}:∀ (l:List α) (i:Nat),(l.eraseIdx i).length<=l.length
 | [],_=>Nat.le_refl _
 | _::_,0=>Nat.le_succ _
 | _::r,i+1=>Nat.succ_le_succ (gx r i)
section
variable {X:Cx}{pins:List (Addr×Obj)}{σ:St}{H:Hp}{s:Shared}{l b:Addr}{xs ys zs:List V}
theorem Inv.lset {its its':List Value}{n:Nat}{f:Array Value->Array Value}{t':Nat} (I:Inv X pins σ H s) (hH:H l=some (.lst xs))
  (e:s.heap.get? l=some { cls:=.type "list",data:=.seq its.toArray n }) (hf:f its.toArray=its'.toArray) (hv:Vals ys its') (hz:ys.length<=sizeLine) :
  Inv X pins σ (upd H l (.lst ys)) { s with heap:=s.heap.update l (Obj.mapSeq f),toks:=t' }:=by
 have q:=PySem.IsL.update e f
 rw[hf] at q
 refine I.write (x:=l) (e:=l) (by rw[hH]; exact trivial) (.inl rfl) (fun b' u hb hu=>(Heap.get?_update_other s.heap (Obj.mapSeq f) (Ne.symm hb)).trans hu) ⟨_,q⟩ ?_
 exact⟨hz,its',_,hv,q⟩
theorem Inv.lstM (I:Inv X pins σ H s) (hH:H l=some (.lst xs)):xs.length<=sizeLine/\∃ (its:List Value) (n:Nat),Vals xs its/\xs.length=its.length/\s.heap.get? l=some { cls:=.type "list",data:=.seq its.toArray n }:=by
 obtain⟨z,its,n,r,e⟩:=I.hok l _ hH
 exact⟨z,its,n,r,r.length,e⟩
end
section
variable {X:Cx}
noncomputable def oY:V->List V->Hp->VK->Prop:=fun x vs H Q=>∃ l xs y,x=.ref l/\vs=[y]/\H l=some (.lst xs)/\xs.length<sizeLine/\Q .non (upd H l (.lst (xs++[y])))
theorem aR:MtM X "list.append" oY:=by
 intro pins s σ H x vs v us Q I rx rv h
 obtain⟨l,xs,y,rfl,rfl,hH,hz,q⟩:=h
 cases rx
 obtain⟨u,rfl,ru⟩:=rv.one
 obtain⟨z,its,n,r,hl,e⟩:=I.lstM hH
 refine call_meets F.slot_list_append ⟨_,e,U⟩ F.entry_list_append (F.args_list_append_2 _ _) (PySem.list_append l its.toArray n u (by rw[size_toArray]; omega)) ⟨e,?_⟩
 refine⟨.non,_,I.lset (its':=its++[u]) hH e (by simp) (r.append (.cons ru .nil)) ?_,U,q⟩
 rw[length_append,length_singleton]
 omega
noncomputable def q8:V->List V->Hp->VK->Prop:=fun x vs H Q=>∃ l xs i k y,x=.ref l/\vs=[.int i]/\H l=some (.lst xs)/\-(2 ^ 63)<=i/\i<2 ^ 63/\seqIndex? i xs.length=some k/\xs[k]?=some y/\Q y (upd H l (.lst (xs.eraseIdx k)))
theorem iW:MtM X "list.pop" q8:=by
 intro pins s σ H x vs v us Q I rx rv h
 obtain⟨l,xs,i,k,y,rfl,rfl,hH,h1,h2,hk,hy,q⟩:=h
 cases rx
 obtain⟨u,rfl,ru⟩:=rv.one
 obtain⟨t,rfl⟩:=ru
 obtain⟨z,its,n,r,hl,e⟩:=I.lstM hH
 obtain⟨w,hw,rw'⟩:=r.get hy
 refine call_meets F.slot_list_pop ⟨_,e,U⟩ F.entry_list_pop (F.args_list_pop_2 _ _)
  (MeetsSeq.list_pop_at l its.toArray n i t k w (fitsIndex_both h1 h2) (by rw[size_toArray,<- hl]; exact hk) (by rw[<- Array.getElem?_toList]; exact hw) (by rw[size_toArray]; omega)) ⟨e,?_⟩
 refine⟨y,_,I.lset (its':=its.eraseIdx k) hH e ?_ (r.eraseIdx k) ?_,rw',q⟩
 ·show its.toArray.eraseIdxIfInBounds k=(its.eraseIdx k).toArray
  rw[List.eraseIdxIfInBounds_toArray]
 ·have:=gx xs k
  omega
end
end L2
namespace Att
open PySem PySem.W PySem.Calls PyProof.Rows
theorem eQ {P:Params}{h:Heap}:∀ (ns:List Int) (vs:List Value),WellAll P h vs (ns.map WData.int)->IntsAre vs ns:=by
 intro ns
 induction ns with
 | nil=>
  intro vs w
  rw[List.map_nil] at w
  cases w
  exact .nil
 | cons n ns ih=>
  intro vs w
  rw[map_cons] at w
  cases w with
  | cons a b=>
   cases a
   exact .cons _ _ (ih _ b)
theorem ld {l : OpenLaw}{n : Nat} (hn : l.most=some n) {P : Params}{h : Heap}{args : List WData}{vals : List Value}
    (hpre : l.row.toRowW.claim.pre args=true) (hwl : WellAll P h vals args) :
    ∃ a vs ns, vals=[Value.ref a]/\args=[WData.list (ns.map WData.int)]/\h.get? a=some { cls := .type "list", data := .seq vs.toArray }/\IntsAre vs ns/\ns.length<=n := by
  have hsh : WShape.hasAll [] args [.list .int]=true := (pre_splitW hpre).1
  have hc : l.pre.holds [] { args := args }=true := (pre_splitW hpre).2
  obtain⟨d, r, rfl, h1, h2⟩ := hasAllW_cons hsh
  obtain rfl := hasAllW_nil h2
  obtain⟨xs, rfl, h3⟩ := hasW_list h1
  obtain⟨ns, rfl⟩ := items_int h3
  have hlen : ns.length<=n := by
    unfold OpenLaw.pre at hc
    have h4 : (WTm.not (.lt (.lit (.int (n : Int))) (.len (.arg 0)))).holds [] { args := [.list (ns.map .int)] }=true := by
      have h4 := (holds_andW hc).1
      rw[hn] at h4
      exact h4
    have h5 := condW_of h4 (w_not (w_lt w_lit (w_len_list (w_arg rfl))))
    rw[length_map] at h5
    refine Nat.le_of_not_lt fun q=>?_
    have q' : (n : Int)<((ns.length : Nat) : Int) := by omega
    first
      | (rw [decide_eq_true q'] at h5; exact absurd h5 (by decide))
      | (simp at h5; omega)
  cases hwl with
  | cons w1 w2=>
    cases w2
    cases w1 with
    | list ho hall=>exact⟨_, _, ns, rfl, rfl, ho, eQ ns _ hall, hlen⟩
theorem lh (l:OpenLaw) (args:List WData):l.row.toRowW.claim.post args (.bool true) args=true :=
 postW_of (r:=l.row.toRowW) (X:=(true == true))
  (show WShape.has [] (.bool true) .bool=true by first | rfl | decide | simp[WShape.has,WShape.arms,WShape.armsAll])
  (show(WTm.eq .res (.lit (.bool true))).value [] { args:=args,res:=some (.bool true),after:=args }=some (.bool (true == true)) from w_eq_bool (w_res rfl) w_lit) rfl
theorem attach_call {l:OpenLaw}{n:Nat}{q:Program}{loose:List Str}{XP:(Str->Option Value)->Heap->Prop}{YP:World->Heap->Prop}{d:DefRec}
  (hn:l.most=some n) (hdf:d.params.defaults=[])
  (call:∀ (w:World) (s₀ s₁:Shared) (mg mb:Str->Option Value) (fa:Addr) (o:Obj) (pm cd doc:Value) (a:Addr) (vs:List Value) (ns:List Int),
   Ground q loose [] XP w s₀ mg mb s₁.heap->YP w s₁.heap ->
   s₁.heap.get? fa=some o->o.data=.func (docDef d.name d.params d.body d.scope pm cd doc)->s₁.heap.CodeRec cd d.name->mg d.name=some (.ref fa) ->
   s₁.heap.get? a=some { cls:=.type "list",data:=.seq vs.toArray }->IntsAre vs ns->ns.length<=n->s₁.gens = #[] ->
   codeAny (model l.prog w) callerA (.call (.ref fa) ⟨[.ref a],[]⟩) (fun r s'=>r=.ok (.ret (.bool true))/\OldK s₁.heap s'.heap/\s'.os=s₁.os/\AllBare s'.gens) s₁) :
  WalkO q loose XP YP l.row.toRowW d [] (fun f vs=>PySem.call f vs):=by
 intro w s₀ s₁ mg mb G Y fa o pm cd doc dV kV ho hd hcd hD hmg hg args vals as hpre hlay hrd hwl hlo
 obtain rfl:dV=.none:=Dflts.none hD hdf
 obtain rfl:kV=.none:=Dflts.noKw hD
 obtain⟨a,vs,ns,rfl,rfl,hobj,hints,hlen⟩:=ld hn hpre hwl
 refine enter_call (codeAny_mono (call w s₀ s₁ mg mb fa o pm cd doc a vs ns G Y ho (fd_plain hd) hcd hmg hobj hints hlen hg) fun r s' hq=>?_)
 obtain⟨rfl,h2,h3,h4⟩:=hq
 exact⟨.inl ⟨.bool true,.bool true,[],rfl,fun _=>rfl,.bool true,lh l _,fun _=>⟨List.Pairwise.nil,fun _ hm=>(nomatch hm)⟩⟩,h2,h3,h4⟩
section
variable {prog:Program}{w:World}{A:Around}{E:Value->Shared->Prop}{s:Shared}{K:Frag}
noncomputable def ledger (h:Heap) (L d:Addr):List (Addr×Obj):=(List.range h.objs.size).filterMap fun a=>if a=L∨a=d then none else(h.get? a).map fun o=>(a,o)
end
end Att
namespace L2
open PySem PySem.Spec PyProof.Rows
theorem f8:∀ {vs:List Value}{ns:List Int},IntsAre vs ns->Vals (ns.map V.int) vs
 | _,_,.nil=>.nil
 | _,_,.cons n t h=>.cons ⟨t,U⟩ (f8 h)
noncomputable def p8 (H:Hp):Prop:=∀ b,H b=none∨∃ o xs,H b=some (.frz o (.lst xs))
theorem nT {P:Program}{w:World}{K:PySem.W.Frag}{mg mb:Str->Option Value}{CX:CXT}{k:Nat}{fa a:Addr}{fd:FuncData}{x:Str}{sp:Sp}{s₁:Shared}{vs:List Value}{ns:List Int}
  (KX:K.In s₁.heap) (hns:s₁.heap.Ns mainGlobals mg) (hb:s₁.heap.Ns builtinsNs mb) (hbb:∀ x:Str,x ≠ "__name__" -> mb x=bootBuiltins x) (hlim:s₁.heap.NoLimit) (hg:s₁.gens = #[])
  (ha:s₁.heap.get? a=some { cls:=.type "list",data:=.seq vs.toArray }) (hi:IntsAre vs ns) (hl:ns.length<=sizeLine) (hr:Room k callerA)
  (F:∀ base:Heap,K.In base->base.Ns mainGlobals mg->FnOk P w K mg base CX k fa fd [x] sp) (hbind:∀ (s:Shared) (u:Value),BindsTo s fd ⟨[u],[]⟩ [(x,u)])
  (hsp:∀ H:Hp,p8 H->SqL K H a (ns.map V.int)->sp [.ref a] H (fun v _=>v=.bl true) fun _ _ _=>False)
  (hCX:∀ H e s',CX [] H s₁ (fun _ _ _=>False) e s'->False) :
  codeAny (model P w) callerA (.call (.ref fa) ⟨[.ref a],[]⟩) (fun r s'=>r=.ok (.ret (.bool true))/\OldK s₁.heap s'.heap/\s'.os=s₁.os/\AllBare s'.gens) s₁:=by
 have rv:=f8 hi
 have lenV:=hi.length
 have core:∀ H:Hp,p8 H->SqL K H a (ns.map V.int)->HOk P w H s₁.heap->(∀ b,H b≠none->b=a)->(H a≠none->K.lookup a=none) ->
   codeAny (model P w) callerA (.call (.ref fa) ⟨[.ref a],[]⟩) (fun r s'=>r=.ok (.ret (.bool true))/\OldK s₁.heap s'.heap/\s'.os=s₁.os/\AllBare s'.gens) s₁:=by
  intro H hO hS hok hA hK
  have base_of:∀ {b:Addr}{o:Obj},s₁.heap.get? b=some o->H b=none->(hB s₁.heap H).get? b=some o:=fun e n=>nW e n
  have noA:∀ {b:Addr}{o:Obj}{es:Array DictEntry}{ep:Nat},s₁.heap.get? b=some o->o.data=.dict es ep->H b=none:=fun {b o es ep} e d=>by
   cases q:H b with
   | none=>rfl
   | some u=>
    have e':b=a:=hA b (by rw[q]; simp)
    subst e'
    rw[ha] at e; cases e
    have d':Data.seq vs.toArray _=Data.dict es ep:=d
    cases d'
  have nsK:∀ {b:Addr}{m:Str->Option Value},s₁.heap.Ns b m->(hB s₁.heap H).Ns b m:=fun {b m} ⟨o,es,ep,e,d,r⟩=>⟨o,es,ep,base_of e (noA e d),d,r⟩
  have hKb:K.In (hB s₁.heap H):=fun b o e=>base_of (KX b o e) (by
   cases q:H b with
   | none=>rfl
   | some u=>
    have e':b=a:=hA b (by rw[q]; simp)
    subst e'
    rw[hK (by rw[q]; simp)] at e; cases e)
  have hM:Mod K mg (hB s₁.heap H):=⟨hKb,nsK hns,⟨mb,nsK hb,hbb⟩,let ⟨mc,h1,h2⟩:=hlim; ⟨mc,nsK h1,h2⟩⟩
  have e0:Env0 P w K mg (hB s₁.heap H) callerA [] s₁ H:=⟨U,hM,fun b o e=>pj e,Nat.le_of_eq (lH _ _),trivial,fun b hb=>absurd (show b ∈ ([]:List Addr) from hb) (by simp),hok,.of_eq hg⟩
  refine codeAny_mono ((F _ hKb (nsK hns)).run callerA [] s₁ H ⟨[.ref a],[]⟩ [.ref a] [.ref a] _ _ hr e0 (hbind s₁ (.ref a)) (.cons rfl .nil) (hsp H hO hS)) fun r s' h=>?_
  cases r with
  | error e=>exact(hCX H e s' h).elim
  | ok fl=>
   cases fl with
   | next=>exact False.elim h
   | brk=>exact False.elim h
   | cont=>exact False.elim h
   | ret u=>
    obtain⟨v,H',os,bare,un,hok',r',q⟩:=h
    have q':v=.bl true:=q
    subst q'
    obtain rfl:u=Value.bool true:=r'
    refine⟨U,OldK.of_keep fun b o e=>?_,os,bare⟩
    cases q:H b with
    | none=>exact un.keep b o e q (by intro z; exact absurd (show b ∈ ([]:List Addr) from z) (by simp)) (by simp)
    | some u=>
     rcases hO b with z | ⟨ob,xs,z⟩
     ·rw[q] at z; cases z
     ·have z2:=un.frzs b ob _ z
      obtain⟨e1,_⟩:=hok b _ z
      obtain⟨e2,_⟩:=hok' b _ z2
      rw[e] at e1; cases e1
      exact e2
 cases hk:K.lookup a with
 | some o=>
  have e:=KX a o hk
  rw[ha] at e
  cases e
  refine core (fun _=>none) (fun _=>.inl rfl) (.inr ⟨_,vs.toArray,_,hk,U,U,U,by rw[size_toArray,lenV]; exact hl,by simpa using rv⟩) (fun b u z=>by have z':(none:Option HO)=some u:=z; cases z') (fun b z=>absurd rfl z) fun z=>absurd rfl z
 | none=>
  refine core (fun b=>if b=a then some (.frz { cls:=.type "list",data:=.seq vs.toArray } (.lst (ns.map V.int))) else none) (fun b=>?_) (.inl (.inr ⟨{ cls:=.type "list",data:=.seq vs.toArray },if_pos rfl⟩)) (fun b u z=>?_) (fun b z=>?_) fun _=>hk
  ·by_cases hb:b=a
   ·exact .inr ⟨_,_,if_pos hb⟩
   ·exact .inl (if_neg hb)
  ·by_cases hb:b=a
   ·have z':=(if_pos hb).symm.trans z
    cases z'
    subst hb
    exact⟨ha,by rw[length_map]; exact hl,vs,_,rv,ha⟩
   ·have z':=(if_neg hb).symm.trans z
    cases z'
  ·by_cases hb:b=a
   ·exact hb
   ·exact absurd (if_neg hb) z
noncomputable abbrev KOf {K:PySem.W.Frag}{h:Heap} (_:K.In h):PySem.W.Frag:=K
theorem ox {l:PySem.W.OpenLaw}{n k:Nat}{q:Program}{loose:List Str}{XP:(Str->Option Value)->Heap->Prop}{YP:World->Heap->Prop}{d:DefRec}{K:Params->PySem.W.Frag}{CX:World->CXT}{sp:World->Sp}{x:Str}
  (hn:l.most=some n) (hn2:n<=sizeLine) (hdf:d.params.defaults=[]) (hr:Room k callerA)
  (hY:∀ (w:World) (h:Heap),YP w h->(K w.params).In h)
  (F:∀ (w:World) (mg:Str->Option Value) (fa:Addr) (h:Heap),(K w.params).In h->h.Ns mainGlobals mg->mg d.name=some (.ref fa) ->
   ∃ fd:FuncData,(∀ (s:Shared) (u:Value),BindsTo s fd ⟨[u],[]⟩ [(x,u)]) /\
    ∀ base:Heap,(K w.params).In base->base.Ns mainGlobals mg->FnOk l.prog w (K w.params) mg base (CX w) k fa fd [x] (sp w))
  (hsp:∀ (w:World) (H:Hp) (a:Addr) (ns:List Int),ns.length<=n->p8 H->SqL (K w.params) H a (ns.map V.int)->sp w [.ref a] H (fun v _=>v=.bl true) fun _ _ _=>False)
  (hCX:∀ (w:World) (H:Hp) (s:Shared) (e:Value) (s':Shared),CX w [] H s (fun _ _ _=>False) e s'->False) :
  PySem.W.WalkO q loose XP YP l.row.toRowW d [] (fun f vs=>PySem.call f vs):=by
 refine Att.attach_call hn hdf fun w s₀ s₁ mg mb fa o pm cd doc a vs ns G Y ho hd hcd hmg hobj hints hlen hg=>?_
 have KX:=hY w _ Y
 obtain⟨fd,hb,hF⟩:=F w mg fa _ KX G.T.g hmg
 exact nT KX G.T.g G.T.b G.T.builtins G.T.nolimit hg hobj hints (Nat.le_trans hlen hn2) hr hF hb (fun H hO hS=>hsp w H a ns hlen hO hS) fun H e s'=>hCX w H s₁ e s'
theorem walk_ofK {l:PySem.W.OpenLaw}{n k:Nat}{q:Program}{loose:List Str}{XP:(Str->Option Value)->Heap->Prop}{YP:World->Heap->Prop}{d:DefRec}{K:Params->PySem.W.Frag}{CX:CXT}{sp:PySem.W.Frag->Sp}{x:Str}
  (hn:l.most=some n) (hn2:n<=sizeLine) (hdf:d.params.defaults=[]) (hr:Room k callerA)
  (hY:∀ (w:World) (h:Heap),YP w h->(K w.params).In h)
  (F:∀ (w:World) (mg:Str->Option Value) (fa:Addr) (h:Heap),(K w.params).In h->h.Ns mainGlobals mg->mg d.name=some (.ref fa) ->
   ∃ fd:FuncData,(∀ (s:Shared) (u:Value),BindsTo s fd ⟨[u],[]⟩ [(x,u)]) /\
    ∀ base:Heap,(K w.params).In base->base.Ns mainGlobals mg->FnOk l.prog w (K w.params) mg base CX k fa fd [x] (sp (K w.params)))
  (hsp:∀ (K:PySem.W.Frag) (H:Hp) (a:Addr) (ns:List Int),ns.length<=n->p8 H->SqL K H a (ns.map V.int)->sp K [.ref a] H (fun v _=>v=.bl true) fun _ _ _=>False)
  (hCX:∀ (H:Hp) (s:Shared) (e:Value) (s':Shared),CX [] H s (fun _ _ _=>False) e s'->False) :
  PySem.W.WalkO q loose XP YP l.row.toRowW d [] (fun f vs=>PySem.call f vs) :=
 ox (K:=K) (CX:=fun _=>CX) (sp:=fun w=>sp (K w.params)) hn hn2 hdf hr hY F (fun w H a ns h1 h2 h3=>hsp (K w.params) H a ns h1 h2 h3) fun _ H s e s'=>hCX H s e s'
noncomputable def aT (s:Stmt) (j:Nat):Stmt:=match s with
 | .ClassDef _ _ _ body _ _ _ _ _ _ _=>body.getD j (.Pass ⟨0,0,0,0⟩)
 | _=>.Pass ⟨0,0,0,0⟩
noncomputable def bF (s:Stmt):Arguments:=match s with
 | .FunctionDef _ a _ _ _ _ _ _ _ _=>a
 | _=>{ posonlyargs:=[],args:=[],vararg:=none,kwonlyargs:=[],kw_defaults:=[],kwarg:=none,defaults:=[] }
noncomputable def bB (s:Stmt):List Stmt:=match s with
 | .FunctionDef _ _ b _ _ _ _ _ _ _=>b
 | _=>[]
noncomputable def ah (s:Stmt):Scope:=match s with
 | .FunctionDef _ _ _ _ _ _ sc _ _ _=>sc
 | _=>{ kind:=.function,names:=[],isGenerator:=false,isCoroutine:=false }
noncomputable abbrev CX0:CXT:=fun _ _ _ _ _ _=>False
noncomputable abbrev E0:XK:=fun _ _ _=>False
theorem aH {X:Cx}:c6 CX0 X E0:=fun _ _ _ _ _ _ _ h=>h.elim
theorem pcl {X:Cx}{k n:Nat}{f:Addr}{fd:FuncData}{ps:List Str}{sp:Sp}{x:Str}{p pos:Pos}{e:Expr}{es:List Expr}{t:TA} (F:FnOk X.prog X.w X.K X.mg X.base CX0 k f fd ps sp) (hr:Room n X.A) (hm:X.mg x=some (.ref f)) (hk:PySem.W.keepIn X.K (.ref f)=true) (hb:Binds X.K fd ps []) (ha:PA X (e::es) t) (hg:Gl X x:=by rfl) (hj:k<=n:=by decide) (hdb:(x==("__debug__":Str))=false:=by decide) (he:starEach (e::es) X.env=(false,eval e X.env)::starEach es X.env:=by rfl) (hpl:(backTo pos (starEach es X.env)).any (·.1)=false:=by rfl):PE X (.Call (.Name x p) (e::es) [] pos) (me sp [] E0 t):=o7 F (hr.mono hj) hg hm hk hb .nil aH ha hdb he hpl
structure Fun (K:PySem.W.Frag) (x qual:Str) (st:Stmt) (f:Addr) (fd:FuncData):Prop where
 ex:∃ (oc:Value) (od:Option Addr) (kV doc pm:Value) (an:Option Addr) (cdv ct:Value) (osl:Array (Option Value)),
  fd=W.fnOf x qual (bF st) (bB st) (ah st) .none kV doc pm an cdv ct/\K.lookup f=some ⟨oc,od,.func fd,osl⟩/\W.codeIn K cdv qual=true
 kp:W.keepIn K (.ref f)=true
theorem cn {A:Around}{k:Nat} (hr:Room k A):A.units+1<cLine:=Nat.lt_of_le_of_lt (Nat.add_le_add_left (by decide:1<=64) _) hr.units
section
variable {X:Cx}
theorem pv (i:Nat) {x:Str}{pos:Pos} (hN:X.N[i]?=some x:=by rfl) (hv:Vis X.env.scope x:=by first | exact Or.inl rfl | exact Or.inr (Or.inl rfl) | exact Or.inr (Or.inr rfl)) (hd:(x == ("__debug__" : Str))=false:=by decide)
  (hcd:(x == ("__classdict__" : Str))=false:=by decide):PE X (.Name x pos) (oz i):=re hN hv hd hcd
end
theorem bT {A B:Prop} (h:B):if false=true then A else B:=by
 rw[if_neg Bool.false_ne_true]
 exact h
theorem dE {A B:Prop} (h:A):if true=true then A else B:=by
 rw[if_pos rfl]
 exact h
theorem i7 {c A B:Prop} [Decidable c] (h1:c->A) (h2:¬ c->B):if c then A else B:=by
 by_cases h:c
 ·rw[if_pos h]
  exact h1 h
 ·rw[if_neg h]
  exact h2 h
noncomputable def Same (H H':Hp):Prop:=∀ b o,H b=some o->H' b=some o
theorem Same.trans {H H1 H2:Hp} (a:Same H H1) (b:Same H1 H2):Same H H2:=fun c o h=>b c o (a c o h)
theorem Same.seq {K:PySem.W.Frag}{H H':Hp}{a:Addr}{xs:List V} (e:Same H H') (h:SqL K H a xs):SqL K H' a xs:=by
 rcases h with (h | ⟨o,h⟩) | h
 ·exact .inl (.inl (e _ _ h))
 ·exact .inl (.inr ⟨o,e _ _ h⟩)
 ·exact .inr h
section
variable {κ:Type} [DecidableEq κ]
theorem de {p:κ×V}{r:List (κ×V)}{k:κ} (e:p.1=k):aN (p::r) k=aN r k:=by
 unfold aN
 rw[List.filter_cons,if_neg (by simp[e])]
theorem df {p:κ×V}{r:List (κ×V)}{k:κ} (e:¬ p.1=k):aN (p::r) k=p::aN r k:=by
 unfold aN
 rw[List.filter_cons,if_pos (by simp[e])]
end
noncomputable abbrev Kn:=List (Addr×HO)
structure Has (H:Hp) (L:Kn):Prop where
 nd:(L.map (·.1)).Nodup
 at_:∀ x ∈ L,H x.1=some x.2
namespace Has
variable {H H':Hp}{L L' X Y R:Kn}{a p:Addr}{o o':HO}{x y:Addr×HO}
theorem nil:Has H []:=⟨List.nodup_nil,fun _ h=>nomatch h⟩
theorem get (h:Has H L) (i:Nat) (e:L[i]?=some (a,o)):H a=some o:=h.at_ (a,o) (mem_of_getElem? e)
theorem alloc (h:Has H L) (hp:H p=none) (o:HO):Has (upd H p o) ((p,o)::L):=by
 have ne:∀ x ∈ L,x.1≠p:=fun x hx e=>by
  have:=h.at_ x hx
  rw[e,hp] at this; cases this
 refine⟨?_,fun x hx=>?_⟩
 ·rw[map_cons,List.nodup_cons]
  refine⟨fun m=>?_,h.nd⟩
  obtain⟨x,hx,e⟩:=mem_map.mp m
  exact ne x hx e
 ·rcases mem_cons.mp hx with rfl | hx
  ·exact bx
  ·rw[aJ (ne x hx)]; exact h.at_ x hx
theorem sub (h:Has H L) (s:L'.Sublist L):Has H L':=⟨h.nd.sublist (s.map _),fun x hx=>h.at_ x (s.subset hx)⟩
theorem perm (h:Has H L) (s:L.Perm L'):Has H L':=⟨(s.map _).nodup_iff.mp h.nd,fun x hx=>h.at_ x (s.mem_iff.mpr hx)⟩
theorem tail (h:Has H (x::L)):Has H L:=h.sub (List.sublist_cons_self _ _)
theorem right (h:Has H (X++R)):Has H R:=h.sub (List.sublist_append_right _ _)
theorem swap2 (h:Has H (x::y::L)):Has H (y::x::L):=h.perm (List.Perm.swap _ _ _)
theorem comm (h:Has H (X++(Y++R))):Has H (Y++(X++R)):=h.perm (by rw[<- append_assoc,<- append_assoc]; exact List.perm_append_comm.append_right R)
theorem out (h:Has H (Y++(x::R))):Has H (x::(Y++R)):=h.perm List.perm_middle
theorem ne2 (h:Has H ((a,o)::R)) {b:Addr} (m:b ∈ R.map (·.1)):b≠a:=fun e=>by
 have:=List.nodup_cons.mp (show((a::R.map (·.1)).Nodup) from h.nd)
 exact this.1 (e ▸ m)
theorem put (h:Has H ((a,o)::R)) (o':HO):Has (upd H a o') ((a,o')::R):=by
 refine⟨h.nd,fun x hx=>?_⟩
 rcases mem_cons.mp hx with rfl | hx
 ·exact bx
 ·rw[aJ (h.ne2 (mem_map_of_mem hx))]; exact h.at_ x (mem_cons_of_mem _ hx)
theorem ef:∀ (L:Kn) (i:Nat),L[i]?=some (a,o)->(L.set i (a,o')).map (·.1)=L.map (·.1)
 | [],i,e=>by simp at e
 | x::L,0,e=>by simp at e; subst e; rfl
 | x::L,i+1,e=>by
  simp only[List.set_cons_succ,map_cons]
  rw[ef L i (by simpa using e)]
theorem puti (h:Has H L) (i:Nat) (e:L[i]?=some (a,o)) (o':HO):Has (upd H a o') (L.set i (a,o')):=by
 have hi:i<L.length:=(List.getElem?_eq_some_iff.mp e).1
 refine⟨by rw[ef (o':=o') L i e]; exact h.nd,fun x hx=>?_⟩
 obtain⟨j,hj⟩:=List.getElem?_of_mem hx
 by_cases hij:j=i
 ·subst hij
  rw[List.getElem?_set_self hi] at hj
  cases hj
  exact bx
 ·rw[List.getElem?_set_ne (Ne.symm hij)] at hj
  have hx':x ∈ L:=mem_of_getElem? hj
  have:x.1≠a:=fun z=>by
   have e1:(L.map (·.1))[i]?=some a:=by rw[getElem?_map,e]; rfl
   have e2:(L.map (·.1))[j]?=some a:=by rw[getElem?_map,hj,<- z]; rfl
   obtain⟨l1,q1⟩:=List.getElem?_eq_some_iff.mp e1
   obtain⟨l2,q2⟩:=List.getElem?_eq_some_iff.mp e2
   exact hij ((List.getElem_inj h.nd).mp (q2.trans q1.symm))
  rw[aJ this]
  exact h.at_ x hx'
end Has
section
variable {X:Cx}
theorem fU:b7 X (.builtin "isinstance") (fun xs H Q=>∃ x T t b,xs=[x,.ty T]/\TyOf X.K H x t/\PySem.W.kitOne X.K t (.type T)=some b/\Q (.bl b) H):=by
 intro pins s σ H xs us Q I r h
 obtain⟨x,T,t,b,rfl,ty,e,q⟩:=h
 obtain⟨u1,u2,rfl,r1,r2⟩:=qe r
 cases (show u2=Value.type T from r2)
 exact lD I r1 ty e fun tk=>⟨.bl b,H,I.tok _,U,q⟩
end
theorem SqL.alloc {K:PySem.W.Frag}{H:Hp}{a p:Addr}{xs:List V}{o:HO} (h:SqL K H a xs) (hp:H p=none):SqL K (upd H p o) a xs :=
 Same.seq (fun b u e=>by rw[aJ (bo e hp)]; exact e) h
theorem dY (xs:List V) (n:Int) (h0:0<=n):eR xs none (some n)=xs.take n.toNat:=by
 show((xs.drop 0).take ((if n<0 then(n+(xs.length:Int)).toNat else min n.toNat xs.length) - 0))=_
 rw[if_neg (by omega),List.drop_zero,Nat.sub_zero]
 by_cases hl:n.toNat<=xs.length
 ·rw[Nat.min_eq_left hl]
 ·rw[Nat.min_eq_right (by omega),List.take_of_length_le (Nat.le_refl _),List.take_of_length_le (by omega)]
theorem aB {n:Nat} (h:n<=1000000):n<sizeLine:=Nat.lt_of_le_of_lt h (by decide)
end L2
namespace L2
theorem ifF {b:Bool}{A B:Prop} (e:b=false) (h:B):if b=true then A else B:=by subst e; exact bT h
theorem ifT {b:Bool}{A B:Prop} (e:b=true) (h:A):if b=true then A else B:=by subst e; exact dE h
theorem if2 {b:Bool}{A B:Prop} (h1:b=true->A) (h2:b=false->B):if b=true then A else B:=by
 cases b
 ·exact bT (h2 rfl)
 ·exact dE (h1 rfl)
theorem ifd {c:Prop} [Decidable c] {A B:Prop} (h1:c->A) (h2:¬ c->B):if decide c=true then A else B:=by
 by_cases h:c
 ·exact ifT (decide_eq_true h) (h1 h)
 ·exact ifF (decide_eq_false h) (h2 h)
theorem rP {c:Prop} [Decidable c] {A B:Prop} (h1:¬ c->A) (h2:c->B):if (!decide c)=true then A else B:=by
 by_cases h:c
 ·exact ifF (by simp[h]) (h2 h)
 ·exact ifT (by simp[h]) (h1 h)
end L2
set_option Elab.async false
set_option linter.all false
set_option maxRecDepth 100000
namespace L2
open PySem PySem.Spec PyProof.Rows
section
variable {X:Cx}{pins:List (Addr×Obj)}{σ:St}{H:Hp}{s:Shared}{h':Heap}
theorem Inv.turnedL {t':Nat}{fp:List Addr} (I:Inv X pins σ H s) (k:∀ b o,b ∉ fp->s.heap.get? b=some o->h'.get? b=some o) (hf:∀ b ∈ fp,ju X pins H b):Inv X pins σ H { s with heap:=h',toks:=t' }:=by
 have nit:∀ b u,H b=some u->b ∉ fp:=fun b u e z=>by rw[(hf b z).1] at e; cases e
 refine I.step (g':=s.gens) (d':=s.drawn) (ch:=fp) (fun b hb=>⟨(hf b hb).2.2.2.1,(hf b hb).2.1,(hf b hb).2.2.2.2.1,(hf b hb).2.2.2.2.2⟩) (fun b o _ _ hc e _=>k b o hc e) (fun b o _ _ hc e _=>⟨o.slots,k b o hc e⟩) (fun _ _ _ _ n=>n)
  (fun b o hc e=>⟨o,k b o hc e⟩) (fun _ _ e=>e) (fun _ _ _ e=>e) (fun b ps e=>⟨#[],by rw[e]; simp⟩) (fun m hm=>?_) (fun b u e=>?_) I.bare
 ·obtain⟨o,es,ep,ho,r⟩:=hm
  exact⟨o,es,ep,k _ o (fun z=>(hf _ z).2.1 rfl) ho,r⟩
 ·refine(I.hok b u e).stay (fun c v hc q=>k c v ?_ q) (fun _ q=>q) fun _ _ q=>q
  rcases hc with z | z
  ·rw[z]; exact nit b u e
  ·exact nit c _ z
theorem Inv.track {p:Addr}{o:HO} (I:Inv X pins σ H s) (hp:X.s₀.heap.objs.size<=p) (hL:p≠X.env.locals) (hc:∀ x c,X.env.cells.lookup x=some c->c≠p) (hpin:∀ q ∈ X.pn++pins,q.1≠p) (hn:H p=none)
  (new:ObjOk X.prog X.w (upd H p o) s.heap p o):Inv X pins σ (upd H p o) s:=by
 refine⟨I.ok,I.os,I.bare,⟨I.base.keep,I.base.slot,fun b ob e n hx=>?_,I.base.there,fun b xs e=>?_,fun b ob u e=>?_,fun b ps e=>?_⟩,I.loc,I.cell,by rw[aJ (Ne.symm hL)]; exact I.free,fun x c e=>by rw[aJ (hc x c e)]; exact I.freeC x c e,fun q hq=>?_,fun b u e=>?_,I.len⟩
 ·rw[aJ (Nat.ne_of_lt (Nat.lt_of_lt_of_le (Heap.lt_size e) hp))]; exact I.base.free b ob e n hx
 ·have:=I.base.tups b xs e
  rw[aJ (bo this hn)]; exact this
 ·have:=I.base.frzs b ob u e
  rw[aJ (bo this hn)]; exact this
 ·obtain⟨more,e2⟩:=I.base.tbls b ps e
  exact⟨more,by rw[aJ (bo e2 hn)]; exact e2⟩
 ·obtain⟨a1,a2,a3,a4,a5⟩:=I.pin q hq
  exact⟨a1,by rw[aJ (hpin q hq)]; exact a2,a3,a4,a5⟩
 ·by_cases hb:b=p
  ·subst hb; rw[bx] at e; cases e; exact new
  ·rw[aJ hb] at e
   exact(I.hok b u e).stay (fun _ _ _ q=>q) (fun c q=>by rw[aJ (bo q hn)]; exact q) fun c xs q=>by rw[aJ (bo q hn)]; exact q
end
noncomputable def Ite (K:PySem.W.Frag) (a:Addr):It :=
 ⟨fun i H=>∃ xs x,SqL K H a xs/\xs[i]?=some x,
  fun i H v H'=>∃ p x,v=.ref p/\H p=none/\H'=upd H p (.tup [.int i,x])/\∀ xs,SqL K H a xs->xs[i]?=some x,
  fun i H=>∃ xs,SqL K H a xs/\xs.length<=i⟩
theorem kZ {P:Program}{w:World}{K:PySem.W.Frag}{es:List Expr} {x1} {pos:Pos} (a e it:Addr):Turn P w K (.Tuple es x1 pos) (Ite K a) [e,it] e
  (fun i h=>(∃ old,IsEnum h e it i old)/\h.IsListIter it a i) where
 mem:=by simp
 obj:=fun i h ⟨⟨old,he⟩,h1⟩ c hc=>by
  simp only[mem_cons,not_mem_nil,or_false] at hc
  rcases hc with rfl | rfl
  ·exact⟨_,he,fun v q=>by cases (show Data.fields _=Data.cell v from q)⟩
  ·obtain⟨o,e,_,d⟩:=h1
   exact⟨o,e,fun v q=>by rw[d] at q; cases q⟩
 keep:=fun i h h' ⟨⟨old,he⟩,h1⟩ k=>⟨⟨old,k e (by simp) _ he⟩,h1.at fun o q=>k it (by simp) o q⟩
 item:=by
  intro X hP hw hK hc i pins s σ H E I hf ⟨⟨old,he⟩,h1⟩ hg
  subst hP hw hK
  obtain⟨xs,x,hqa,hx⟩:=hg
  obtain⟨its,rv,p,hsz⟩:=I.list hqa
  obtain⟨ux,hux,rux⟩:=rv.get hx
  have hne:e≠it:=fun z=>by
   obtain⟨o1,e1,c1,_⟩:=h1
   rw[<- z,he] at e1; cases e1
   exact absurd (show Value.type "enumerate" = Value.type "list_iterator" from c1) (by decide)
  refine wpAny_pyNext_enum_item he h1 p.isList (x:=ux) (by simpa using hux) hne fun h' a1 a3 a5 a6 hk=>?_
  refine⟨_,U,?_⟩
  refine wpAny_letOwnedTupleGo_enum (s:={ s with heap:=h',toks:=s.toks+1 }) a1 fun h2' hz' hs'=>?_
  have lt:∀ b ∈ [e,it],b<s.heap.objs.size:=fun c hcm=>by
   simp only[mem_cons,not_mem_nil,or_false] at hcm
   rcases hcm with rfl | rfl
   ·exact Heap.lt_size he
   ·obtain⟨o,q,_⟩:=h1; exact Heap.lt_size q
  have h12:h2'.IsListIter it a (i+1):=a3.extBut hs'.extBut (Ne.symm hne)
  have pz:s.heap.objs.size≠e:=Nat.ne_of_gt (Heap.lt_size he)
  have hp2:h2'.get? s.heap.objs.size=some { cls:=.type "tuple",data:=.seq #[.int i s.toks,ux] }:=hs'.extBut _ _ pz a5
  have kk:∀ c o,c ∉ [e,it]->s.heap.get? c=some o->h2'.get? c=some o:=fun c o hcm q=>by
   simp only[mem_cons,not_mem_nil,or_false,not_or] at hcm
   exact hs'.extBut _ _ hcm.1 (hk c o hcm.1 hcm.2 q)
  have I1:Inv X pins σ H { s with heap:=h2',toks:=s.toks+1 }:=I.turnedL kk hf
  have fP:ju X pins H s.heap.objs.size:=I.fpOk (Nat.le_refl _) (I.hok.fresh (Nat.le_refl _))
  have I2:Inv X pins σ (upd H s.heap.objs.size (.tup [.int i,x])) { s with heap:=h2',toks:=s.toks+1 }:=by
   refine I1.track I.sz (fP.2.1) fP.2.2.2.2.1 fP.2.2.2.2.2 fP.1 ?_
   exact⟨(show 2<=sizeLine by decide),[.int i s.toks,ux],.cons ⟨_,U⟩ (.cons rux .nil),⟨_,hp2,U,_,U⟩⟩
  refine⟨.ref s.heap.objs.size,_,I2,U,⟨_,x,U,fP.1,U,fun zs hzs=>by rw[I.list_inj hzs hqa]; exact hx⟩,⟨⟨_,hz'⟩,h12⟩,fun c hcm=>?_⟩
  rw[aJ (Nat.ne_of_lt (lt c hcm))]
  exact(hf c hcm).1
 done:=by
  intro X hP hw hK hc i pins s σ H E I hf ⟨⟨old,he⟩,h1⟩ hg
  subst hP hw hK
  obtain⟨xs,hqa,hend⟩:=hg
  obtain⟨its,rv,p,hsz⟩:=I.list hqa
  have e1:=rv.length
  refine wpAny_pyNext_enum_end (I.ok.hd hc) he h1 p.isList (i:=i) (by simp; omega) fun h' hk=>⟨U,?_⟩
  exact I.turnedL (t':=s.toks) (fun c o hcm q=>by
   simp only[mem_cons,not_mem_nil,or_false,not_or] at hcm
   exact hk c o hcm.2 q) hf
 self:=fun _ _ _ _ _ ⟨⟨_,st⟩,_⟩ h=>wpAny_pyIter_enum st h
section
variable {X:Cx}
noncomputable def iEnum (K:PySem.W.Frag) (ta:TA):TI:=fun σ H R=>ta σ H fun vs H1=>∃ a,vs=[.ref a]/\(∃ xs,SqL K H1 a xs)/\R (Ite K a) H1
theorem o6 {es:List Expr} {x1} {tpos:Pos}{e1:Expr}{ta:TA}{p pos:Pos} (hg:Gl X "enumerate") (hm:X.mg "enumerate" = none) (ha:PA X [e1] ta) (hs:starEach [e1] X.env=[(false,eval e1 X.env)]:=by rfl) :
  PI X (.Tuple es x1 tpos) (.Call (.Name "enumerate" p) [e1] [] pos) (iEnum X.K ta):=by
 intro pins s σ H R I h
 refine Call_ (fI I hg hm (by rfl) (PyProof.Rows.callWith_type1 (thn (ha pos pins s σ H _ I h) fun us s1 z_=>z_.elim fun vs z_=>z_.elim fun H1 z_=>z_.elim fun I1 z_=>z_.elim fun r1 q1=>?_) hs rfl))
 obtain⟨a,rfl,⟨xs,hqa⟩,q⟩:=q1
 obtain⟨u1,rfl,ru1⟩:=cg r1
 cases (show u1=Value.ref a from ru1)
 obtain⟨its,rv,pa,hsz⟩:=I1.list hqa
 refine call_enumerate_list pa.isList fun h' hz h1 hsize hk=>?_
 refine wpAny_pyIter_enum (s:={ s1 with heap:=h' }) hz ?_
 refine⟨_,_,_,_,H1,U,I1.kept (t':=s1.toks) hk,kZ a (s1.heap.objs.size+1) s1.heap.objs.size,⟨⟨_,hz⟩,h1⟩,fun c hc=>?_,q⟩
 have hge:s1.heap.objs.size<=c:=by
  simp only[mem_cons,not_mem_nil,or_false] at hc
  rcases hc with h | h <;> (rw[h]; omega)
 exact I1.fpOk hge (I1.hok.fresh hge)
end
theorem cz {P:Nat->Value->Prop}{acc:List Value}{xs:List V} (hl:acc.length=xs.length) (h:∀ (j:Nat) (v:Value),acc[j]?=some v->P j v) (hP:∀ (j:Nat) v x,P j v->xs[j]?=some x->RelV x v):Vals xs acc:=by
 induction xs generalizing acc P with
 | nil=>
  cases acc with
  | nil=>exact .nil
  | cons _ _=>simp at hl
 | cons x xs ih=>
  cases acc with
  | nil=>simp at hl
  | cons u acc=>
   refine .cons (hP 0 u x (h 0 u rfl) rfl) (ih (P:=fun j=>P (j+1)) (by simpa using hl) (fun j v e=>h (j+1) v (by simpa using e)) fun j v y p e=>hP (j+1) v y p (by simpa using e))
section
variable {X:Cx}
theorem jp:b7 X (.type "range") (fun xs H Q=>∃ j:Int,xs=[.int j]/\∀ p,H p=none->Q (.ref p) (upd H p (.rng 0 j))):=by
 intro pins s σ H xs us Q I r h
 obtain⟨j,rfl,q⟩:=h
 obtain⟨u,rfl,t,rfl⟩:=cg r
 refine call_range_1 ⟨.ref s.heap.objs.size,_,I.laid (fun b o e=>Heap.get?_push_of_some _ e) (Nat.le_refl _) ?_,U,q _ (I.hok.fresh (Nat.le_refl _))⟩
 exact⟨_,_,_,Heap.get?_push_size _ rfl⟩
noncomputable def du (n:Nat):List V:=(List.range n).map fun i=>V.int (i:Nat)
theorem cO (n:Nat):(du n).length=n:=by simp[du]
theorem lF {n i:Nat} (h:i<n):(du n)[i]?=some (.int i):=by simp[du,h]
theorem fZ (hc:X.calm=true):b7 X (.type "list") (fun xs H Q=>∃ p j,xs=[.ref p]/\H p=some (.rng 0 j)/\0<=j/\j<=2 ^ 24/\∀ l,H l=none->Q (.ref l) (upd H l (.lst (du j.toNat)))):=by
 intro pins s σ H xs us Q I r h
 obtain⟨p,j,rfl,hp,h0,h1,q⟩:=h
 obtain⟨u,rfl,ru⟩:=cg r
 cases (show u=Value.ref p from ru)
 obtain⟨t,u,v,e⟩:=(show ObjOk X.prog X.w H s.heap p (.rng 0 j) from I.hok p _ hp)
 have sz:(j.toNat:Nat)<=sizeLine:=by rw[sizeLine_eq]; omega
 refine call_list_range (n:=j.toNat) (I.ok.hd hc) e (small_one (by omega) (by omega) (by omega) (by omega)) (by rw[rangeSize_one]; split <;> omega) (by omega) fun h' tk acc c hk hS hi=>?_
 refine⟨.ref s.heap.objs.size,_,I.laid hk (Nat.le_refl _) ?_,U,q _ (I.hok.fresh (Nat.le_refl _))⟩
 refine⟨by rw[cO]; exact sz,acc.toList,c,cz (P:=fun i v=>∃ t,v=.int ((0:Int)+i*1) t) (by rw[cO,Array.length_toList]; exact hi.1) (fun i v e=>hi.2 i v (by simpa using e)) (fun i v x ⟨t,e⟩ ex=>?_),by simpa using hS⟩
 subst e
 have hlt:i<j.toNat:=by
  have:=(List.getElem?_eq_some_iff.mp ex).1
  rw[cO] at this; exact this
 rw[lF hlt] at ex
 cases ex
 exact⟨t,by congr 1; omega⟩
theorem ir (hc:X.calm=true):b7 X (.type "list") (fun xs H Q=>∃ p kvs,xs=[.ref p]/\Rd H p (.dK kvs)/\∀ l,H l=none->Q (.ref l) (upd H l (.lst (kvs.map fun kv=>kV kv.1)))):=by
 intro pins s σ H xs us Q I r h
 obtain⟨p,kvs,rfl,hp,q⟩:=h
 obtain⟨u,rfl,ru⟩:=cg r
 cases (show u=Value.ref p from ru)
 obtain⟨z,hd,vs,rel,o,es,ep,g1,g2,g3,g4,g5,g6⟩:=dU I.hok hp
 refine PySem.W.kdl_call (PySem.W.kdl_dict (knd:=ap X.prog X.w) (kvs:=vs) (ep:=ep) hd) (I.ok.hd hc) ⟨o,es,g1,g2,g3,g4,g5,g6⟩ (by rw[<- rel.length]; exact z) fun h' tk acc c hk hS hi=>?_
 refine⟨.ref s.heap.objs.size,_,I.laid hk (Nat.le_refl _) ?_,U,q _ (I.hok.fresh (Nat.le_refl _))⟩
 refine⟨by rw[length_map]; exact z,acc.toList,c,cz (P:=fun i v=>∃ k x,vs[i]?=some (k,x)/\(ap X.prog X.w).is k v=true) (by rw[length_map,Array.length_toList,hi.1,rel.length]) (fun i v e=>hi.2 i v (by simpa using e)) (fun i v x ⟨k,y,e1,e2⟩ ex=>?_),by simpa using hS⟩
 have hk1:(kvs.map (·.1))[i]?=some k:=by
  have:=rel.keys
  rw[this,getElem?_map,e1]; rfl
 rw[getElem?_map] at ex hk1
 cases hkv:kvs[i]? with
 | none=>rw[hkv] at ex; cases ex
 | some kv=>
  rw[hkv] at ex hk1
  cases ex
  have:kv.1=k:=by simpa using hk1
  subst this
  rcases aQ (k:=kv.1) (v:=v) e2 with ⟨i,t,e3,e4⟩ | ⟨x,t,e3,e4⟩
  ·show RelV (kV kv.1) v
   rw[e3,e4]; exact⟨t,U⟩
  ·show RelV (kV kv.1) v
   rw[e3,e4]; exact⟨t,U⟩
end
theorem fM (k:Str):∀ D:List (Str×PyData),KTD.inKeys k (D.map fun p=>(p.1,KTD.Dat.flat p.2))=(D.any fun p=>decide (k=p.1))
 | []=>rfl
 | p::D=>by rw[map_cons,List.any_cons,KTD.inKeys,fM k D]
section
variable {X:Cx}
noncomputable abbrev p6 (K:PySem.W.Frag) (a:Addr) (D:List (Str×PyData)):Prop:=KTD.tabLook KTD.flatLooks (fun b=>K.lookup b) a D=true
theorem iF {pins:List (Addr×Obj)}{σ:St}{H:Hp}{s:Shared}{a:Addr}{D:List (Str×PyData)} (I:Inv X pins σ H s) (T:p6 X.K a D):KTD.Here s.heap s.heap a (D.map fun p=>(p.1,KTD.Dat.flat p.2)) :=
 ⟨(KTD.tab_of_look (fun _ _ x=>KTD.flat_of_looks x) (fun b o e=>I.kIn b o e) T).text,fun _ _ e=>e⟩
theorem gp:OpR X (compareOp .NotIn) (fun x y H Q=>∃ k a D,x=V.str k/\y=V.ref a/\p6 X.K a D/\Q (.bl (!(D.any fun p=>decide (k=p.1)))) H):=by
 intro pins s σ H x y v u Q I rx ry h
 obtain⟨k,a,D,rfl,rfl,T,q⟩:=h
 obtain⟨t,rfl⟩:=(show ∃ t,v=Value.str k t from rx)
 cases (show u=Value.ref a from ry)
 refine KTD.notin_text (iF I T) ⟨.bl (!KTD.inKeys k (D.map fun(p:Str×PyData)=>(p.1,KTD.Dat.flat p.2))),H,I.tok _,U,?_⟩
 rw[fM]; exact q
theorem ix_K:IxR X (fun x y H Q=>∃ k a D i,x=V.ref a/\y=V.str k/\p6 X.K a D/\D.lookup k=some (PyData.int i)/\(D.all fun p=>match p.2 with | .int _=>true | _=>false)=true/\Q (.int i) H):=by
 intro value slice pins s σ H x y v u Q I rx ry h hs
 obtain⟨k,a,D,i,rfl,rfl,T,e,hp,q⟩:=h
 cases (show v=Value.ref a from rx)
 obtain⟨t,rfl⟩:=(show ∃ t,u=Value.str k t from ry)
 have e1:∀ D:List (Str×PyData),(D.all fun p=>match p.2 with | .int _=>true | _=>false)=true->((D.map fun p=>(p.1,KTD.Dat.flat p.2)).all fun p=>KTD.plain p.2)=true:=fun D hD=>by
  rw[List.all_map]
  refine List.all_eq_true.mpr fun p hp'=>?_
  have:=List.all_eq_true.mp hD p hp'
  cases hq:p.2 <;> simp[hq] at this <;> simp[Function.comp,hq,KTD.plain]
 have e2:∀ D:List (Str×PyData),KTD.datumAt k (D.map fun p=>(p.1,KTD.Dat.flat p.2))=(D.lookup k).map KTD.Dat.flat:=fun D=>by
  induction D with
  | nil=>rfl
  | cons p D ih=>
   obtain⟨x,d⟩:=p
   rw[map_cons,KTD.datumAt,lookup_cons,ih]
   by_cases hk:k=x
   ·subst hk; simp
   ·have:(k == x)=false:=beq_eq_false_iff_ne.mpr hk
    simp[hk,this]
 have hT:=iF I T
 have hat:KTD.datumAt k (D.map fun p=>(p.1,KTD.Dat.flat p.2))=some (KTD.Dat.flat (.int i)):=by rw[e2 D,e]; rfl
 have hmem:KTD.inKeys k (D.map fun p=>(p.1,KTD.Dat.flat p.2))=true:=by rw[<- KTD.isSome_datumAt,hat]; rfl
 refine subscriptTail_builtin_flat hT.typeIs slot_dict_getitem.lookup ?_ hs
 unfold getItem
 try with_reducible refine wpAny_holding ?_
 refine wpAny_bind (wpAny_sequenceKey hT.typeIs (by decide) ?_)
 refine wpAny_bind (wpAny_callSpecial?_slot (name:=Str.ofString "__getitem__") hT.typeIs slot_dict_getitem
  (wpAny_call_entry slot_dict_getitem hT.typeIs entry_dict_getitem ?_ (args_dict_getitem _ _)))
 show wpAny _ _ (dictGet a (.str k t) >>= _) _ _ s
 refine wpAny_bind (KTD.dictGet_text hT (fun d v ha hv=>wpAny_pure ⟨v,U,wpAny_pure ⟨KTD.notRef_of_plain (KTD.plain_at (e1 D hp) ha) hv,?_⟩⟩) fun hn=>absurd hn (KTD.at_of_mem hmem))
 rw[hat] at ha
 cases ha
 obtain⟨t',rfl⟩:∃ t,v=Value.int i t:=by
  exact PyProof.V.Flat.int_inv (show PyProof.V.Flat v (PyData.int i) from hv)
 exact⟨.int i,H,I.tok _,⟨_,U⟩,q⟩
end
structure FunG (K:PySem.W.Frag) (x qual:Str) (st:Stmt) (dV:Value) (f:Addr) (fd:FuncData):Prop where
 ex:∃ (oc:Value) (od:Option Addr) (kV doc pm:Value) (an:Option Addr) (cdv ct:Value) (osl:Array (Option Value)),
  fd=W.fnOf x qual (bF st) (bB st) (ah st) dV kV doc pm an cdv ct/\K.lookup f=some ⟨oc,od,.func fd,osl⟩/\W.codeIn K cdv qual=true
 kp:W.keepIn K (.ref f)=true
section
variable {P:Program}{w:World}{K:PySem.W.Frag}{mg:Str->Option Value}{base:Heap}
theorem FunG.ok {x qual:Str}{st:Stmt}{dV:Value}{f:Addr}{fd:FuncData}{N ps:List Str}{k:Nat}{sp:Sp} (F:FunG K x qual st dV f fd) (S:FnScope N ps (ah st)) (len:∀ vs H Q E,sp vs H Q E->vs.length=ps.length)
  (hbody:∀ (cdv:Value) (A:Around) (outer:List Env) (s:Shared) (H:Hp) (vs:List V) (Q:VK) (E:XK),Room k (A.deeper (envOfC qual (ah st) s.heap.objs.size f cdv))->sp vs H Q E ->
   ∃ t,PSs (lN CX0 P w K mg base N qual (ah st) f cdv A outer s H E).nox (bB st) t/\t { nx:=fun _ H'=>Q .non H',rt:=Q } (start N vs) H):FnOk P w K mg base CX0 (k+1) f fd ps sp:=by
 obtain⟨oc,od,kV,doc,pm,an,cdv,ct,osl,rfl,lk,hcd⟩:=F.ex
 refine fn_of lk hcd S len fun A outer s H vs Q E hr hsp=>?_
 obtain⟨t,h,q⟩:=hbody cdv A outer s H vs Q E hr hsp
 exact⟨t,h.nox,q⟩
theorem FunG.binds {x qual:Str}{st:Stmt}{dV:Value}{f:Addr}{fd:FuncData}{ps:List Str} (F:FunG K x qual st dV f fd)
  (h:∀ (kV doc pm:Value) (an:Option Addr) (cdv ct:Value) (us:List Value),us.length=ps.length->bindArgs (W.fnOf x qual (bF st) (bB st) (ah st) dV kV doc pm an cdv ct) ⟨us,[]⟩=pure (ps.zip us)):Binds K fd ps []:=by
 obtain⟨oc,od,kV,doc,pm,an,cdv,ct,osl,rfl,lk,hcd⟩:=F.ex
 exact .all (h kV doc pm an cdv ct)
theorem funG_mk {x qual:Str}{st:Stmt}{f:Addr}{oc:Value}{od an:Option Addr}{osl:Array (Option Value)}{dV kV doc pm cdv ct:Value} (l:K.lookup f=some ⟨oc,od,.func (W.fnOf x qual (bF st) (bB st) (ah st) dV kV doc pm an cdv ct),osl⟩)
  (c:W.codeIn K cdv qual=true) (k:W.keepIn K (.ref f)=true):FunG K x qual st dV f (W.fnOf x qual (bF st) (bB st) (ah st) dV kV doc pm an cdv ct):=⟨⟨oc,od,kV,doc,pm,an,cdv,ct,osl,U,l,c⟩,k⟩
end
end L2
namespace L2
end L2
namespace L2
open PySem PySem.Spec PyProof.Rows
section
variable {X:Cx}{CX:CXT}{k:Nat}{f C:Addr}{fd:FuncData}{ps ks:List Str}{sp:Sp}{E:XK}{x m:Str}{p pos apos kpos:Pos}{e o:Expr}{es:List Expr}{kws:List Keyword}{te ta:TE}{t tk:TA}
 {g:List Value->List Value->List Value}{gV:List V->List V->List V}
end
end L2
namespace L2
theorem ifJ {b:Bool}{A B:Prop} (hA:b=true->B->A) (g:B):if b=true then A else B:=by
 cases b
 ·exact bT g
 ·exact dE (hA rfl g)
end L2
set_option Elab.async false
set_option linter.all false
set_option maxRecDepth 100000
namespace L2
open PySem PySem.Spec PyProof.Rows
section
variable {prog:Program}{w:World}{K:Type} [DecidableEq K] {knd:HeapKind prog w K}{A:Around}{E:Value->Shared->Prop}{s:Shared}{d a:Addr}{k:K}{xs:List (K×Addr×Value)}
theorem cZ {α:Type}:∀ {xs:List (K×α)}{k:K},k ∉ xs.map (·.1)->xs.filter (fun x=>decide (x.1≠k))=xs
 | [],_,_=>rfl
 | x::xs,k,h=>by
  rw[map_cons,mem_cons,not_or] at h
  rw[List.filter_cons,if_pos (by simpa using fun e=>h.1 e.symm),cZ h.2]
theorem dQ {α:Type}:∀ {xs:List (K×α)}{j:Nat}{k:K}{p:α},(xs.map (·.1)).Nodup->xs[j]?=some (k,p)->xs.eraseIdx j=xs.filter (fun x=>decide (x.1≠k))
 | [],_,_,_,_,h=>by simp at h
 | x::xs,0,k,p,hn,h=>by
  rw[map_cons,List.nodup_cons] at hn
  simp only[List.getElem?_cons_zero,Option.some.injEq] at h
  subst h
  rw[List.eraseIdx_cons_zero,List.filter_cons,if_neg (by simp),cZ hn.1]
 | x::xs,j+1,k,p,hn,h=>by
  rw[map_cons,List.nodup_cons] at hn
  simp only[List.getElem?_cons_succ] at h
  have hmem:k ∈ xs.map (·.1):=mem_map.mpr ⟨(k,p),mem_of_getElem? h,U⟩
  have hne:¬ x.1=k:=fun e=>hn.1 (e ▸ hmem)
  rw[List.eraseIdx_cons_succ,dQ hn.2 h,List.filter_cons,if_pos (by simpa using hne)]
theorem dR {α β:Type} (f:α->β):∀ (xs:List α) (j:Nat),(xs.map f).eraseIdx j=(xs.eraseIdx j).map f
 | [],_=>rfl
 | _::_,0=>rfl
 | x::xs,j+1=>by rw[map_cons,List.eraseIdx_cons_succ,List.eraseIdx_cons_succ,map_cons,dR f xs j]
theorem dI {Q:Option DictEntry->Shared->Prop}{p:Addr×Value} (hu:knd.room A) (hkey:knd.is s.heap k a) (hm:s.heap.DictOfH knd d xs) (hp:atKey xs k=some p)
  (hQ:∀ h',h'.DictOfH knd d (xs.filter fun x=>decide (x.1≠k))->Heap.SameBut d s.heap h'->Q (some ⟨knd.hash k,.ref p.1,p.2⟩) { s with heap:=h',toks:=s.toks+knd.draws k })
  (hsz:xs.length<=sizeLine):wpAny (model prog w) A (Builtin.Dict.takeOut d (.ref a)) Q E s:=by
 obtain⟨o,es,ep,ho,hc,hd,he,his,hn⟩:=hm
 have hes:es.size<=sizeLine:=by have e:=size_of_entries he; omega
 unfold Builtin.Dict.takeOut
 try with_reducible refine wpAny_holding ?_
 refine wpAny_bind (knd.pyHash hu hkey (wpAny_bind (wpAny_dictFind_heap (s:={ s with toks:=s.toks+knd.draws k }) hu hkey ho hd he his hn ?_ ?_)))
 ·intro hno
  rw[atKey_none_of_get hno] at hp
  cases hp
 ·intro j q hj
  rw[atKey_of_get hn hj] at hp
  cases hp
  refine wpAny_bind (wpAny_dictEntries (s:={ s with toks:=s.toks+knd.draws k }) ho hd ?_)
  rw[entry_at he j,hj]
  show wpAny _ _ (updateDictKeys d (·.eraseIdxIfInBounds j) (keyPart (.ref a)) >>= _) _ _ _
  refine wpAny_bind (wpAny_updateDictKeys (hz:=hes) (s:={ s with toks:=s.toks+knd.draws k }) ho hd (wpAny_pure (hQ _ ⟨_,_,ep+1,Heap.get?_update_self _ ho (Obj.isFreed_of_dict (Obj.data_mapDictKeys hd _)),
   hc.mapDictKeys _,Obj.data_mapDictKeys hd _,?_,?_,?_⟩ (Heap.SameBut.update ..))))
  ·rw[<- dQ hn hj,<- dR,<- he]
   obtain⟨l⟩:=es
   simp
  ·intro x hx
   exact knd.keeps (his x (List.mem_filter.mp hx).1) ho hd (Heap.SameBut.update ..)
  ·exact hn.sublist ((List.filter_sublist).map _)
theorem dg :
  MeetsIn prog w (Builtin.«dict.__delitem__» ⟨[.ref d,.ref a],[]⟩) (fun A R s=>knd.room A.in1/\∃ k xs p,knd.is s.heap k a/\s.heap.DictOfH knd d xs/\xs.length<=sizeLine/\atKey xs k=some p /\
   ∀ h',h'.DictOfH knd d (xs.filter fun x=>decide (x.1≠k))->Heap.SameBut d s.heap h'->R (.ok (.ret .none)) { s with heap:=h',toks:=s.toks+knd.draws k }) :=
 .of_wp fun A R s z_=>z_.elim fun hu z_=>z_.elim fun k z_=>z_.elim fun xs z_=>z_.elim fun p z_=>z_.elim fun hkey z_=>z_.elim fun hm z_=>z_.elim fun hsz z_=>z_.elim fun hp h=>by
  unfold Builtin.«dict.__delitem__»
  refine wpAny_bind ?_
  unfold Builtin.Dict.dictSlotArgs
  refine wpAny_bind (wpAny_notOrdered_dict hm.typeIs ?_)
  show wpAny _ _ (pure (Value.ref d,Value.ref a)) _ _ s
  refine wpAny_pure ?_
  show wpAny _ _ (Builtin.Dict.takeOut d (.ref a) >>= _) _ _ s
  refine wpAny_bind (dI (hsz:=hsz) hu hkey hm hp fun h' hm' hs'=>?_)
  exact wpAny_bind (wpAny_letGo (wpAny_pure ⟨.none,U,h h' hm' hs'⟩))
theorem eO :
  MeetsIn prog w (Builtin.«dict.pop» ⟨[.ref d,.ref a],[]⟩) (fun A R s=>knd.room A.in1/\∃ k xs p,knd.is s.heap k a/\s.heap.DictOfH knd d xs/\xs.length<=sizeLine/\atKey xs k=some p /\
   ∀ h',h'.DictOfH knd d (xs.filter fun x=>decide (x.1≠k))->Heap.SameBut d s.heap h'->R (.ok (.ret p.2)) { s with heap:=h',toks:=s.toks+knd.draws k }) :=
 .of_wp fun A R s z_=>z_.elim fun hu z_=>z_.elim fun k z_=>z_.elim fun xs z_=>z_.elim fun p z_=>z_.elim fun hkey z_=>z_.elim fun hm z_=>z_.elim fun hsz z_=>z_.elim fun hp h=>by
  unfold Builtin.«dict.pop»
  refine wpAny_bind ?_
  unfold Builtin.Dict.keyAndDefault
  refine wpAny_bind (wpAny_notOrdered_dict hm.typeIs ?_)
  show wpAny _ _ (pure (d,Value.ref a,none)) _ _ s
  refine wpAny_pure ?_
  obtain⟨o,es,ep,ho,hc,hd,he,his,hn⟩:=id hm
  have hne:es.isEmpty=false:=by
   cases xs with
   | nil=>simp[atKey] at hp
   | cons x xs=>
    have e:=size_of_entries he
    rw[Array.isEmpty_eq_false_iff]
    intro z
    rw[z] at e
    simp at e
  refine wpAny_bind ?_
  refine wpAny_dictEntries ho hd (wpAny_bind (wpAny_pure ?_))
  rw[hne]
  simp only[Bool.false_eq_true,if_false]
  refine wpAny_bind (dI (hsz:=hsz) hu hkey hm hp fun h' hm' hs'=>?_)
  simp only[Option.isNone_some,Bool.false_eq_true,if_false]
  exact wpAny_bind (wpAny_letGo (wpAny_pure ⟨p.2,U,h h' hm' hs'⟩))
end
theorem KT.drop {H:Hp}{kvs:List (List Key×V)}{xs:List (List Key×Addr×Value)} (r:KT H kvs xs) (k:List Key):KT H (aN kvs k) (xs.filter fun x=>decide (x.1≠k)):=by
 unfold aN
 induction r with
 | nil=>exact .nil
 | @cons p q ps qs hq t ih=>
  rw[List.filter_cons,List.filter_cons]
  have e:p.1=q.1:=hq.1
  by_cases c:q.1=k
  ·rw[if_neg (by simpa using e.trans c),if_neg (by simpa using c)]; exact ih
  ·rw[if_pos (by simpa using fun z=>c (e.symm.trans z)),if_pos (by simpa using c)]; exact .cons hq ih
section
variable {X:Cx}{pins:List (Addr×Obj)}{σ:St}{H:Hp}{s:Shared}{a b:Addr}{kvs:List (List Key×V)}{k:List Key}{u:Value}{A:Around}{E:Value->Shared->Prop}
theorem jR {v:V}{Q:Unit->Shared->Prop} (hu:A.units+1<cLine) (I:Inv X pins σ H s) (e:H a=some (.dT kvs)) (eb:H b=some (.tup (k.map kV))) (l:aD kvs k=some v)
  (h:∀ s',Inv X pins σ (upd H a (.dT (aN kvs k))) s'->Q () s'):wpAny (model X.prog X.w) A (delItem (.ref a) (.ref b)) Q E s:=by
 obtain⟨z,hd,xs,rel,dd⟩:=kM I.hok e
 obtain⟨w',hw,rw'⟩:=RelO.some_of (v:=v) (o:=(atKey xs k).map (·.2)) (by rw[<- l]; exact rel.val k)
 obtain⟨p,hp,hp2⟩:=Option.map_eq_some_iff.mp hw
 have hz:xs.length<=sizeLine:=by rw[<- Paired.length rel]; exact z
 refine wpAny_delItem_slot dd.typeIs (by decide) PySem.F.slot_dict_delitem
  (call_meetsIn PySem.F.slot_dict_delitem dd.typeIs PySem.F.entry_dict_delitem (PySem.F.args_dict_delitem_2 _ _) dg ⟨tupleKind_room_in1 hu,k,xs,p,cB I.hok eb,dd,hz,hp,fun h' dd' hs=>h _ ?_⟩)
 obtain⟨q,es,ep,hq,h2,h3,h4,_,h5⟩:=dd'
 refine dX I (by rw[e]; exact True.intro) hs ⟨q,hq⟩ ⟨Nat.le_trans (jh kvs k) z,hd,_,(rel.drop k).keeps fun c ys ec=>?_,q,es,ep,hq,h2,h3,h4,h5⟩
 rw[aJ (iV ec e (fun z=>nomatch z))]
 exact ec
theorem rW {v:V}{Q:Value->Shared->Prop} (hu:A.units+1<cLine) (I:Inv X pins σ H s) (e:H a=some (.dT kvs)) (eb:H b=some (.tup (k.map kV))) (l:aD kvs k=some v)
  (h:∀ w' s',Inv X pins σ (upd H a (.dT (aN kvs k))) s'->RelV v w'->Q w' s'):wpAny (model X.prog X.w) A (call (.builtin "dict.pop") [.ref a,.ref b]) Q E s:=by
 obtain⟨z,hd,xs,rel,dd⟩:=kM I.hok e
 obtain⟨w',hw,rw'⟩:=RelO.some_of (v:=v) (o:=(atKey xs k).map (·.2)) (by rw[<- l]; exact rel.val k)
 obtain⟨p,hp,hp2⟩:=Option.map_eq_some_iff.mp hw
 have hz:xs.length<=sizeLine:=by rw[<- Paired.length rel]; exact z
 refine call_meetsIn PySem.F.slot_dict_pop dd.typeIs PySem.F.entry_dict_pop (PySem.F.args_dict_pop_2 _ _) eO ⟨tupleKind_room_in1 hu,k,xs,p,cB I.hok eb,dd,hz,hp,fun h' dd' hs=>h _ _ ?_ (by rw[hp2]; exact rw')⟩
 obtain⟨q,es,ep,hq,h2,h3,h4,_,h5⟩:=dd'
 refine dX I (by rw[e]; exact True.intro) hs ⟨q,hq⟩ ⟨Nat.le_trans (jh kvs k) z,hd,_,(rel.drop k).keeps fun c ys ec=>?_,q,es,ep,hq,h2,h3,h4,h5⟩
 rw[aJ (iV ec e (fun z=>nomatch z))]
 exact ec
end
section
variable {X:Cx}{o i e:Expr}{td ty:TE}{tpos pos apos cpos:Pos}
noncomputable def q0 (td ty:TE):TS:=fun D σ H=>td σ H fun x H1=>ty σ H1 fun y H2=>∃ a b kvs k v,x=.ref a/\y=.ref b/\H2 a=some (.dT kvs)/\H2 b=some (.tup (k.map kV))/\aD kvs k=some v/\D.nx σ (upd H2 a (.dT (aN kvs k)))
theorem iJ (hu:X.A.units+1<cLine) (ho:PE X o td) (hi:PE X i ty):PS X (.Delete [.Subscript o i tpos] pos) (q0 td ty):=by
 intro pins s σ H D I h
 refine wpAny_Delete (wpAny_deleteEach_cons (wpAny_delete_Subscript (thn (ho pins s σ H _ I h) fun u s1 z_=>z_.elim fun x z_=>z_.elim fun H1 z_=>z_.elim fun I1 z_=>z_.elim fun rx q1=>thn (hi pins s1 σ H1 _ I1 q1) fun iv s2 z_=>z_.elim fun y z_=>z_.elim fun H2 z_=>z_.elim fun I2 z_=>z_.elim fun ry z_=>z_.elim fun a z_=>z_.elim fun b z_=>z_.elim fun kvs z_=>z_.elim fun k z_=>z_.elim fun v z_=>z_.elim fun ex z_=>z_.elim fun ey z_=>z_.elim fun e z_=>z_.elim fun eb z_=>z_.elim fun l q2=>?_)))
 subst ex ey
 obtain rfl:u=Value.ref a:=rx
 obtain rfl:iv=Value.ref b:=ry
 exact jR hu I2 e eb l fun s3 I3=>wpAny_deleteEach_nil ⟨σ,_,I3,q2⟩
noncomputable def qK (td ty:TE):TE:=fun σ H Q=>td σ H fun x H1=>∃ a,x=.ref a/\IsD H1 a/\ty σ H1 fun y H2=>∃ b kvs k v,y=.ref b/\H2 a=some (.dT kvs)/\H2 b=some (.tup (k.map kV))/\aD kvs k=some v/\Q v (upd H2 a (.dT (aN kvs k)))
theorem iN (hu:X.A.units+1<cLine) (ho:PE X o td) (he:PE X e ty) (m:M1 X o "pop" apos e cpos):PE X (.Call (.Attribute o "pop" apos) [e] [] cpos) (qK td ty):=by
 intro pins s σ H Q I h
 refine wpAny_Call_method m.base m.few m.line PySem.F.plainAttrs_dict PySem.F.slot_dict_pop PySem.F.type_dict_pop (thn (ho pins s σ H _ I h) fun u s1 z_=>z_.elim fun x z_=>z_.elim fun H1 z_=>z_.elim fun I1 z_=>z_.elim fun rx z_=>z_.elim fun a z_=>z_.elim fun ex z_=>z_.elim fun d q1=>?_)
 subst ex
 obtain rfl:u=Value.ref a:=rx
 obtain⟨t1,t2,_⟩:=nU I1 d
 refine⟨t1,t2,?_⟩
 rw[m.trees]
 refine Calls.callWith_builtin rfl (Calls.evalArgs_plain (Calls.spliced_cons (thn (he pins s1 σ H1 _ I1 q1) fun iv s2 z_=>z_.elim fun y z_=>z_.elim fun H2 z_=>z_.elim fun I2 z_=>z_.elim fun ry z_=>z_.elim fun b z_=>z_.elim fun kvs z_=>z_.elim fun k z_=>z_.elim fun v z_=>z_.elim fun ey z_=>z_.elim fun ea z_=>z_.elim fun eb z_=>z_.elim fun l q2=>Calls.spliced_nil ?_)))
 subst ey
 obtain rfl:iv=Value.ref b:=ry
 exact rW hu I2 ea eb l fun w' s3 I3 rw'=>⟨v,_,I3,rw',q2⟩
theorem pc:OpR X (binaryOp .Add) (fun x y H Q=>∃ a b xs ys,x=.ref a/\y=.ref b/\SqL X.K H a xs/\SqL X.K H b ys/\xs.length+ys.length<=sizeLine/\∀ l,H l=none->Q (.ref l) (upd H l (.lst (xs++ys)))):=by
 intro pins s σ H x y u v Q I rx ry h
 obtain⟨a,b,xs,ys,rfl,rfl,ha,hb,hz,q⟩:=h
 cases (show u=Value.ref a from rx)
 cases (show v=Value.ref b from ry)
 obtain⟨ia,ra,⟨⟨cls,dd,data,sl⟩,n,ho,hc,_,hd⟩,_⟩:=I.list ha
 obtain⟨ib,rb,⟨⟨cls2,dd2,data2,sl2⟩,n2,ho2,hc2,_,hd2⟩,_⟩:=I.list hb
 simp only at hc hd hc2 hd2
 subst hc hd hc2 hd2
 have e:ia.toArray++ib.toArray=(ia++ib).toArray:=by simp
 have e1:=ra.length
 have e2:=rb.length
 refine concat_meets ⟨_,ho,U⟩ ⟨_,ho2,U⟩ noFill_list_add seq_list_add PySem.F.slot_list_add PySem.F.entry_list_add (PySem.F.args_list_add_2 _ _) (list_addW a b ia.toArray ib.toArray n n2 dd dd2 sl sl2 (by simp; omega)) ⟨ho,ho2,?_⟩
 rw[e]
 refine⟨.ref s.heap.objs.size,_,I.laid (a:=s.heap.objs.size) (o:=.lst (xs++ys)) (t':=s.toks) (fun _ _ q=>Heap.get?_push_of_some _ q) (Nat.le_refl _) ⟨by simpa using hz,ia++ib,0,ra.append rb,Heap.get?_push_size _ rfl⟩,U,q _ (I.hok.fresh (Nat.le_refl _))⟩
theorem dB {h:Heap}:∀ {ns:List Int}{vs:List Value},Vals (ns.map V.int) vs->ReadsAll h vs (ns.map PyData.int) []
 | [],_,r=>by cases r; exact .nil
 | n::ns,_,r=>by
  cases r with
  | cons r1 r2=>
   obtain⟨t,rfl⟩:=r1
   exact .cons (as:=[]) (.int _ t) (dB r2)
theorem ge {pins:List (Addr×Obj)}{s:Shared}{σ:St}{H:Hp}{a:Addr}{ns:List Int} (I:Inv X pins σ H s) (h:H a=some (.tup (ns.map V.int))):Reads s.heap (.ref a) (.tuple (ns.map PyData.int)) []:=by
 obtain⟨_,its,r,o,h1,h2,n,h3⟩:=(show ObjOk X.prog X.w H s.heap a (.tup (ns.map V.int)) from I.hok a _ h)
 exact reads_tuple_at h1 h2 h3 (by simpa using dB r)
theorem fk (ns:List Int):SeqAt.shaped (.tuple (ns.map PyData.int))=true:=by
 simp[SeqAt.shaped,PyData.canLay0,PyData.depth,PySem.W.ke_canLayAll0,PySem.W.ke_depthAll]
theorem mN (ns ms:List Int):PySem.Spec.same (.tuple (ns.map PyData.int)) (.tuple (ms.map PyData.int))=decide (ns=ms):=by
 simp only[PySem.Spec.same]; exact PySem.W.ke_sameAll ns ms
noncomputable def rTup (neg:Bool):R2:=fun x y H Q=>∃ (a b:Addr) (ns ms:List Int),x=.ref a/\y=.ref b/\H a=some (.tup (ns.map V.int))/\H b=some (.tup (ms.map V.int))/\Q (.bl (if neg then !decide (ns=ms) else decide (ns=ms))) H
theorem j4 (ns:List Int):(Shape.tuples .int).has (.tuple (ns.map PyData.int))=true:=by
 simp only[Shape.has]
 induction ns with
 | nil=>rfl
 | cons n ns ih=>simp[Shape.hasAll,Shape.has] at ih ⊢; try exact ih
theorem nF (hu:X.A.units+64<cLine):OpR X (compareOp .Eq) (rTup false):=by
 intro pins s σ H x y u v Q I rx ry h
 obtain⟨a,b,ns,ms,rfl,rfl,ha,hb,q⟩:=h
 cases (show u=Value.ref a from rx)
 cases (show v=Value.ref b from ry)
 exact eq_dataH_same (ge I ha) (ge I hb) (fk _) (fk _) hu (SeqAt.noMix_of_shape (.tuples .int) rfl _ _ (j4 ns) (j4 ms)) (by rw[mN]; exact aM I q (by simp))
end
theorem n6 {K:PySem.W.Frag}{a:Addr}{xs:List V}{g:TG}{tb:TS}{D:Ends}{σ:St}{H:Hp} (Pv:Nat->St->Hp->Prop) (h0:Pv 0 σ H) (hl:∀ i σ H,i<=xs.length->Pv i σ H->SqL K H a xs)
  (hs:∀ i x σ H p,xs[i]?=some x->Pv i σ H->H p=none->g (.ref p) σ (upd H p (.tup [.int i,x])) fun σ2 H2=>tb { D with nx:=Pv (i+1),ct:=Pv (i+1),bk:=D.nx } σ2 H2) (hd:∀ σ H,Pv xs.length σ H->D.nx σ H) :
  ∃ W:Nat->Nat->St->Hp->Prop,(∃ m,W 0 m σ H)/\∀ i m σ H,W i m σ H ->
   ((Ite K a).stop i H/\D.nx σ H)∨((Ite K a).go i H/\∃ N:St->Hp->Prop,(∀ σ' H',N σ' H'->∃ m',m'<m/\W (i+1) m' σ' H')/\∀ x H',(Ite K a).yld i H x H'->g x σ H' fun σ2 H2=>tb { D with nx:=N,ct:=N,bk:=D.nx } σ2 H2):=by
 refine⟨fun i m σ H=>m=xs.length - i/\i<=xs.length/\Pv i σ H,⟨xs.length,by simp,Nat.zero_le _,h0⟩,?_⟩
 rintro i m σ H ⟨rfl,hi,p⟩
 have hq:=hl i σ H hi p
 by_cases hlt:i<xs.length
 ·refine .inr ⟨⟨xs,xs[i],hq,getElem?_eq_getElem hlt⟩,Pv (i+1),fun σ' H' p'=>⟨xs.length - (i+1),by omega,U,hlt,p'⟩,fun x H' y=>?_⟩
  obtain⟨b,z,rfl,hb,rfl,hz⟩:=y
  exact hs i z σ H b (hz xs hq) p hb
 ·have e:i=xs.length:=by omega
  subst e
  exact .inl ⟨⟨xs,hq,Nat.le_refl _⟩,hd σ H p⟩
noncomputable abbrev fW:=Option Key
noncomputable def nG:fW->Value->Bool
 | none,.none=>true
 | none,_=>false
 | some k,v=>fK k v
noncomputable def okeyH (w:World):fW->Int
 | none=>reduceHash 0xFCA86420
 | some k=>tH w k
theorem bC {v:Value} (h:nG none v=true):v=.none:=by cases v <;> first | rfl | cases h
section
variable {prog:Program}{w:World}{A:Around}{E:Value->Shared->Prop}{s:Shared}
theorem dH {Q:Int->Shared->Prop} (h:Q (reduceHash 0xFCA86420) { s with toks:=s.toks+1 }):wpAny (model prog w) A (pyHash .none) Q E s :=
 PySem.W.pyHash_slot (T := "NoneType") rfl F.slot_NoneType_hash F.entry_NoneType_hash (F.args_NoneType_hash_1 _) (beq_builtin_none _) (.inl rfl) (wpAny_bind (wpAny_pure (wpAny_bind (wpAny_mkInt (wpAny_pure ⟨_,_,U,h⟩)))))
end
theorem om (a b:Key):decide ((some a:fW)=some b)=decide (a=b):=by
 by_cases e:a=b
 ·subst e; simp
 ·rw[decide_eq_false e,decide_eq_false (fun q=>e (Option.some.inj q))]
noncomputable def eS (prog:Program) (w:World):PySem.KeyKind prog w fW where
 is:=nG
 hash:=okeyH w
 inj:=fun v a b ha hb=>by
  cases a with
  | none=>
   cases b with
   | none=>rfl
   | some b=>rw[bC ha] at hb; rcases aQ (k:=b) hb with ⟨_,_,_,e⟩ | ⟨_,_,_,e⟩ <;> cases e
  | some a=>
   cases b with
   | none=>rw[bC hb] at ha; rcases aQ (k:=a) ha with ⟨_,_,_,e⟩ | ⟨_,_,_,e⟩ <;> cases e
   | some b=>exact congrArg some ((ap prog w).inj v a b ha hb)
 byValue:=fun k v h=>by
  cases k with
  | none=>rw[bC h]; rfl
  | some k=>exact(ap prog w).byValue k v h
 pyHash:=fun {A E s k v Q} hv h=>by
  cases k with
  | none=>rw[bC hv]; exact dH h
  | some k=>exact(ap prog w).pyHash hv h
 eqBool:=fun {A E s a b u v Q} hu hv h=>by
  cases a with
  | none=>
   have e1:=bC hu
   subst e1
   cases b with
   | none=>
    have e2:=bC hv
    subst e2
    exact SeqAt.EqAt.same _ _ _ _ _ h
   | some b=>
    rw[decide_eq_false (fun q=>nomatch q)] at h
    rcases aQ (k:=b) hv with ⟨j,t,_,rfl⟩ | ⟨y,t,_,rfl⟩
    ·exact SeqAt.EqAt.none_int _ _ _ _ _ _ h
    ·exact SeqAt.EqAt.none_str _ _ _ _ _ _ h
  | some a=>
   cases b with
   | none=>
    have e2:=bC hv
    subst e2
    rw[decide_eq_false (fun q=>nomatch q)] at h
    rcases aQ (k:=a) hu with ⟨j,t,_,rfl⟩ | ⟨y,t,_,rfl⟩
    ·exact SeqAt.EqAt.int_none _ _ _ _ _ _ h
    ·exact SeqAt.EqAt.str_none _ _ _ _ _ _ h
   | some b=>rw[om] at h; exact(ap prog w).eqBool (a:=a) (b:=b) hu hv h
 «strs»:=fun k x t v h=>by
  cases k with
  | none=>cases h
  | some k=>exact(ap prog w).strs k x t v h
theorem jO {P:Program}{w:World}{ks:List Key}{us:List Value} (h:ItemsAre (ap P w) ks us):ItemsAre (eS P w) (ks.map some) us:=by
 induction h with
 | nil=>exact .nil
 | cons a b ih=>exact .cons a ih
theorem io {P:Program}{w:World}{h:Heap}{a:Addr}{xs:List (List Key×Addr×Value)} (d:h.DictOfH (tupleKind (ap P w)) a xs) :
  h.DictOfH (tupleKind (eS P w)) a (xs.map fun x=>(x.1.map some,x.2)):=by
 obtain⟨o,es,ep,h1,h2,h3,h4,h5,h6⟩:=d
 refine⟨o,es,ep,h1,h2,h3,?_,?_,?_⟩
 ·rw[h4,map_map]
  refine List.map_congr_left fun x _=>?_
  show entryOfKey _ x=entryOfKey _ (x.1.map some,x.2)
  unfold entryOfKey
  have e:(tupleKind (ap P w)).hash x.1=(tupleKind (eS P w)).hash (x.1.map some):=by
   show reduceHash _=reduceHash _
   rw[map_map]
   rfl
  rw[e]
 ·intro x hx
  obtain⟨y,hy,rfl⟩:=mem_map.mp hx
  obtain⟨o,its,n,g1,g2,g3,g4⟩:=h5 y hy
  exact⟨o,its,n,g1,g2,g3,jO g4⟩
 ·rw[map_map]
  have:(fun x:List Key×Addr×Value=>(x.1.map some,x.2).1)=(List.map some) ∘ fun x=>x.1:=rfl
  show List.Nodup (xs.map ((fun x=>x.1) ∘ fun x=>(x.1.map some,x.2)))
  have e:((fun x:List fW×Addr×Value=>x.1) ∘ fun x:List Key×Addr×Value=>(x.1.map some,x.2))=(List.map (some:Key->fW)) ∘ fun x=>x.1:=rfl
  rw[e,<- map_map]
  have inj:Function.Injective (some:Key->fW):=fun _ _ h=>Option.some.inj h
  refine List.Pairwise.map _ (fun a b hab hc=>hab ?_) h6
  exact List.map_inj_right (fun _ _ h=>Option.some.inj h) |>.mp hc
noncomputable def kU (H:Hp) (a:Addr) (y:V) (r:Option V):Prop :=
 DGet H a y r∨∃ (kvs:List (List Key×V)) (n:Int) (b:Addr),Rd H a (.dT kvs)/\y=.ref b/\H b=some (.tup [.int n,.non])/\r=none
section
variable {X:Cx}{pins:List (Addr×Obj)}{σ:St}{H:Hp}{s:Shared}{a:Addr}{y v:V}{u r:Value}{o:Option V}{A:Around}{E:Value->Shared->Prop}
theorem pF {P:Program}{w:World}{h:Heap}{n:Int}{b:Addr} (ok:HOk P w H h) (e:H b=some (.tup [.int n,.non])):(tupleKind (eS P w)).is h [some (Sum.inl n),none] b:=by
 obtain⟨_,its,r,o,h1,h2,m,h3⟩:=(show ObjOk P w H h b (.tup [.int n,.non]) from ok b _ e)
 refine⟨o,its.toArray,m,h1,h2,h3,?_⟩
 cases r with
 | cons r1 r2=>
  cases r2 with
  | cons r2 r3=>
   cases r3
   obtain⟨t,rfl⟩:=(show ∃ t,_=Value.int n t from r1)
   obtain rfl:=(show _=Value.none from r2)
   refine .cons ?_ (.cons rfl .nil)
   exact gy n t
theorem jq (xs:List (List Key×Addr×Value)) (n:Int):atKey (xs.map fun x=>(x.1.map (some:Key->fW),x.2)) [some (Sum.inl n),none]=none:=by
 unfold atKey
 rw[Option.map_eq_none_iff,List.find?_eq_none]
 intro x hx
 obtain⟨y,hy,rfl⟩:=mem_map.mp hx
 intro h
 have h:=of_decide_eq_true h
 have:(none:fW) ∈ y.1.map (some:Key->fW):=by
  rw[show y.1.map (some:Key->fW)=[some (Sum.inl n),none] from h]
  exact .tail _ (.head _)
 obtain⟨z,_,hz⟩:=mem_map.mp this
 cases hz
theorem oq {Q:Value->Shared->Prop} (hu:A.units+1<cLine) (I:Inv X pins σ H s) (g:kU H a y o) (ry:RelV y u) (h:∀ s',Inv X pins σ H s'->Q (.bool (!o.isSome)) s') :
  wpAny (model X.prog X.w) A (compareOp .NotIn u (.ref a)) Q E s:=by
 rcases g with g | ⟨kvs,n,b,e,ey,eb,rfl⟩
 ·exact kS hu I g ry h
 ·subst ey
  cases (show u=Value.ref b from ry)
  obtain⟨z,hd,xs,rel,dd⟩:=dS I.hok e
  refine wpAny_notIn_heap (tupleKind_room_in1 hu) (pF I.hok eb) hd (io dd) ?_
  rw[jq]
  exact h _ (I.tok _)
end
noncomputable def ma (ty td:TE):TE:=fun σ H Q=>ty σ H fun y H1=>td σ H1 fun x H2=>∃ a o,x=.ref a/\kU H2 a y o/\Q (.bl (!o.isSome)) H2
theorem jG {X:Cx}{i o:Expr}{ty td:TE} (hu:X.A.units+1<cLine) (hi:PE X i ty) (ho:PE X o td):PC X .NotIn i o (ma ty td):=by
 intro pins s σ H Q I h
 refine thn (hi pins s σ H _ I h) fun iv s1 z_=>z_.elim fun y z_=>z_.elim fun H1 z_=>z_.elim fun I1 z_=>z_.elim fun ry q1=>thn (ho pins s1 σ H1 _ I1 q1) fun u s2 z_=>z_.elim fun x z_=>z_.elim fun H2 z_=>z_.elim fun I2 z_=>z_.elim fun rx z_=>z_.elim fun a z_=>z_.elim fun ov z_=>z_.elim fun ex z_=>z_.elim fun g q2=>?_
 subst ex
 obtain rfl:u=Value.ref a:=rx
 exact oq hu I2 g ry fun s3 I3=>⟨.bl (!ov.isSome),H2,I3,U,q2⟩
theorem qE {α:Type} (f:α->Int):∀ (L:List α) (y:α),(L.map f).Nodup->y ∈ L->(L.filter fun x=>f x == f y).length=1
 | [],y,_,h=>nomatch h
 | x::L,y,n,h=>by
  rw[map_cons,List.nodup_cons] at n
  rw[List.filter_cons]
  rcases mem_cons.mp h with rfl | h
  ·rw[if_pos (by simp),length_cons,List.filter_eq_nil_iff.mpr (fun a ha e=>n.1 (mem_map.mpr ⟨a,ha,by simpa using e⟩))]
   rfl
  ·rw[if_neg (fun e=>n.1 (mem_map.mpr ⟨y,h,(show f y=f x by rw[(show f x=f y by simpa using e)])⟩)),qE f L y n.2 h]
section
variable {prog:Program}{w:World}{A:Around}{E:Value->Shared->Prop}{s:Shared}{K:Type} [DecidableEq K] {knd:PySem.KeyKind prog w K}
theorem kX {nm:String}{d o:Addr}{xs:List (List K×Addr×Value)}{Q:Unit->Shared->Prop} (hne:d≠o) (hs:(o == sysModules)=false) (dd:s.heap.DictOfH (tupleKind knd) d []) (od:s.heap.DictOfH (tupleKind knd) o xs)
  (nd:(xs.map fun x=>(tupleKind knd).hash x.1).Nodup) (hz:xs.length<=sizeLine) (h:∀ h',h'.DictOfH (tupleKind knd) d xs->Heap.SameBut d s.heap h'->Q () { s with heap:=h' }) :
  wpAny (model prog w) A (Builtin.Dict.mergeDict nm d o) Q E s:=by
 obtain⟨o1,es1,ep1,g1,x1,d1,l1,_,_⟩:=id dd
 obtain⟨o2,es2,ep2,g2,x2,d2,l2,i2,n2⟩:=id od
 unfold Builtin.Dict.mergeDict
 rw[if_neg (by simpa using hne)]
 refine wpAny_bind ?_
 unfold Builtin.Dict.showsAll
 rw[if_neg (by rw[hs]; exact Bool.false_ne_true)]
 refine wpAny_pure (wpAny_bind (wpAny_dictEntries g2 d2 ?_))
 dsimp only
 have z1:es1 = #[]:=by apply Array.ext'; rw[l1]; rfl
 subst z1
 cases xs with
 | nil=>
  have z2:es2 = #[]:=by apply Array.ext'; rw[l2]; rfl
  subst z2
  rw[if_neg (by simp)]
  refine wpAny_bind (wpAny_dictEpoch g2 d2 ?_)
  refine wpAny_bind (wpAny_dictEntries g2 d2 ?_)
  refine wpAny_bind (wpAny_of_eq (a:=PUnit.unit) (by simp[Std.Legacy.Range.forIn_eq_forIn_range']) ?_)
  exact wpAny_pure (h _ dd (Heap.SameBut.refl _ _))
 | cons x xs=>
  have hfew:(decide (es2.size<=8) && es2.all fun e=>(keyPart e.key).isSome)=false:=by
   rw[Bool.and_eq_false_iff]; right
   rw[<- Array.all_toList,l2]
   rfl
  rw[hfew,if_pos (show(!false)=true from rfl)]
  refine wpAny_bind (wpAny_dictEntries g1 d1 ?_)
  rw[if_pos (show(#[]:Array DictEntry).isEmpty=true from rfl)]
  refine wpAny_bind ?_
  unfold Builtin.Dict.entriesForEmpty
  refine wpAny_bind (wpAny_dictEntries g2 d2 ?_)
  refine wpAny_bind ?_
  rw[<- Array.forIn_toList]
  refine wpAny_forIn_list _ (fun rest b s'=>s'=s/\∀ e ∈ rest,e ∈ es2.toList) _ ?_ ?_ _ _ ⟨U,fun e he=>he⟩
  ·rintro e rest b s' ⟨rfl,hr⟩
   have he:=hr e (mem_cons_self ..)
   rw[l2] at he
   obtain⟨y,hy,rfl⟩:=mem_map.mp he
   obtain⟨o3,its,n3,q1,q2,q3,q4⟩:=(show IsTupleKey knd s'.heap y.1 y.2.1 from i2 y hy)
   refine wpAny_bind ?_
   show wpAny _ _ (Builtin.Dict.quietEq (.ref y.2.1)) _ _ _
   unfold Builtin.Dict.quietEq
   refine wpAny_bind (wpAny_specialOf (T := "tuple") ⟨o3,q1,q2⟩ F.slot_tuple_eq.lookup (wpAny_pure ?_))
   rw[if_pos (by decide +kernel)]
   have hone:(es2.filter fun x=>x.hash == (entryOfKey (tupleKind knd) y).hash).size=1:=by
    rw[<- Array.length_toList,Array.toList_filter,l2,List.filter_map,length_map]
    exact qE (fun x:List K×Addr×Value=>(tupleKind knd).hash x.1) _ y nd hy
   rw[if_neg (by rw[hone]; decide)]
   exact wpAny_pure ⟨U,fun e he=>hr e (mem_cons_of_mem _ he)⟩
  ·rintro b s' ⟨rfl,_⟩
   refine wpAny_pure ?_
   have hes:es2.isEmpty=false:=by
    cases hh:es2.isEmpty with
    | false=>rfl
    | true=>
     rw[Array.isEmpty_iff] at hh
     rw[hh] at l2; cases l2
   rw[hes,if_pos (show(!false)=true from rfl)]
   refine wpAny_bind (wpAny_updateDictKeysTo g1 d1 ?_ ?_)
   ·refine wpAny_pure (h _ ⟨_,es2,ep1+1,Heap.get?_update_self _ g1 (Obj.isFreed_of_dict (Obj.data_mapDictKeys d1 _)),x1.mapDictKeys _,Obj.data_mapDictKeys d1 _,l2,fun y hy=>?_,n2⟩ (Heap.SameBut.update _ _ _))
    obtain⟨o3,its,n3,q1,q2,q3,q4⟩:=(show IsTupleKey knd s'.heap y.1 y.2.1 from i2 y hy)
    have ne:y.2.1≠d:=fun e=>by rw[e,g1] at q1; cases q1; rw[x1.1] at q2; exact absurd q2 (by decide +kernel)
    exact⟨o3,its,n3,((Heap.SameBut.update s'.heap d _).2 _ ne).trans q1,q2,q3,q4⟩
   ·show es2.size<=_
    rw[<- Array.length_toList,l2,length_map]
    omega
theorem lV {o:Addr}{xs:List (List K×Addr×Value)}{Q:Value->Shared->Prop} (hs:(o == sysModules)=false) (od:s.heap.DictOfH (tupleKind knd) o xs)
  (nd:(xs.map fun x=>(tupleKind knd).hash x.1).Nodup) (hz:xs.length<=sizeLine) (h:∀ h',h'.DictOfH (tupleKind knd) s.heap.objs.size xs->Heap.SameBut s.heap.objs.size (s.heap.push { cls:=.type "dict",data:=.dict #[] }) h'->Q (.ref s.heap.objs.size) { s with heap:=h' }) :
  wpAny (model prog w) A (call (.type "dict") [.ref o]) Q E s:=by
 refine callType_codes F.kt_called_dict (F.kt_typeCall_dict_1 _) F.entry_dict_init (kt_code_dict_new (Q₁:=fun obj s₁=>obj=.ref s.heap.objs.size/\s₁={ s with heap:=s.heap.push { cls:=.type "dict",data:=.dict #[] } }) _ ⟨U,U⟩) ?_
 rintro obj s₁ ⟨rfl,rfl⟩
 have hne:s.heap.objs.size≠o:=by
  obtain⟨o2,es2,ep2,g2,_⟩:=od
  exact Nat.ne_of_gt (Heap.lt_size g2)
 have keep:∀ b ob,s.heap.get? b=some ob->(s.heap.push { cls:=.type "dict",data:=.dict #[] }).get? b=some ob:=fun b ob e=>Heap.get?_push_of_some _ e
 have dd:(s.heap.push { cls:=.type "dict",data:=.dict #[] }).DictOfH (tupleKind knd) s.heap.objs.size []:=⟨_,#[],0,Heap.get?_push_size _ rfl,⟨U,U,U⟩,U,U,fun _ h=>(nomatch h),List.nodup_nil⟩
 have od':(s.heap.push { cls:=.type "dict",data:=.dict #[] }).DictOfH (tupleKind knd) o xs:=by
  obtain⟨o2,es2,ep2,g2,x2,d2,l2,i2,n2⟩:=od
  refine⟨o2,es2,ep2,keep _ _ g2,x2,d2,l2,fun y hy=>?_,n2⟩
  obtain⟨o3,its,n3,q1,q⟩:=(show IsTupleKey knd s.heap y.1 y.2.1 from i2 y hy)
  exact⟨o3,its,n3,keep _ _ q1,q⟩
 have td:Shared.TypeIs { s with heap:=s.heap.push { cls:=.type "dict",data:=.dict #[] } } (.ref s.heap.objs.size) "dict":=⟨_,Heap.get?_push_size _ rfl,U⟩
 have to:Shared.TypeIs { s with heap:=s.heap.push { cls:=.type "dict",data:=.dict #[] } } (.ref o) "dict":=by
  obtain⟨o2,es2,ep2,g2,x2,_⟩:=od'
  exact⟨o2,g2,x2.1⟩
 refine⟨td,F.args_dict_init_2 _ _,?_⟩
 unfold Builtin.«dict.__init__»
 refine wpAny_bind ?_
 unfold Builtin.Dict.selfAndRest
 refine wpAny_bind (wpAny_notOrdered_dict td ?_)
 show wpAny _ _ (Builtin.Dict.addrOf (.ref s.heap.objs.size) >>= _) _ _ _
 refine wpAny_bind (wpAny_of_eq (a:=s.heap.objs.size) rfl (wpAny_pure ?_))
 show wpAny _ _ (Builtin.Dict.updateFrom "dict.__init__" s.heap.objs.size (.ref o) [] .none) _ _ _
 unfold Builtin.Dict.updateFrom
 refine wpAny_bind (wpAny_typeOf to ?_)
 rw[if_neg (by decide +kernel)]
 refine wpAny_bind ?_
 unfold Builtin.Dict.merge
 refine wpAny_bind ?_
 unfold Builtin.Dict.readDirectly
 refine wpAny_bind (wpAny_isInstance to isSubtype_dict_dict ?_)
 rw[if_neg (by decide)]
 refine wpAny_bind (wpAny_specialOf to F.slot_dict_iter.lookup (wpAny_pure ?_))
 rw[if_pos (by decide +kernel)]
 refine wpAny_bind (wpAny_of_eq (a:=o) rfl ?_)
 refine kX (knd:=knd) hne hs dd od' nd hz fun h' dd' sb=>?_
 refine wpAny_bind (wpAny_of_eq (a:=()) rfl ?_)
 exact wpAny_pure ⟨U,h h' dd' sb⟩
end
theorem dl {α β:Type} (f:α->β):∀ {l:List α},l.Nodup->(∀ a ∈ l,∀ b ∈ l,f a=f b->a=b)->(l.map f).Nodup
 | [],_,_=>List.nodup_nil
 | x::l,n,h=>by
  rw[List.nodup_cons] at n
  rw[map_cons,List.nodup_cons]
  refine⟨fun m=>?_,dl f n.2 (fun a ha b hb=>h a (mem_cons_of_mem _ ha) b (mem_cons_of_mem _ hb))⟩
  obtain⟨y,hy,e⟩:=mem_map.mp m
  exact n.1 (h y (mem_cons_of_mem _ hy) x (mem_cons_self ..) e ▸ hy)
noncomputable abbrev i8 (P:Program) (w:World) (k:List Key):Int:=(tupleKind (ap P w)).hash k
section
variable {X:Cx}
theorem dG:b7 X (.type "dict") (fun xs H Q=>∃ p kvs,xs=[.ref p]/\Rd H p (.dK kvs)/\∀ l,H l=none->Q (.ref l) (upd H l (.dK kvs))):=by
 intro pins s σ H xs us Q I r h
 obtain⟨p,kvs,rfl,hp,q⟩:=h
 obtain⟨u,rfl,ru⟩:=cg r
 cases (show u=Value.ref p from ru)
 exact or I hp fun l s' hl I'=>⟨.ref l,_,I',U,q l hl⟩
theorem jS:b7 X (.type "dict") (fun xs H Q=>∃ p kvs,xs=[.ref p]/\Rd H p (.dT kvs)/\(∀ k1 ∈ kvs.map (·.1),∀ k2 ∈ kvs.map (·.1),i8 X.prog X.w k1=i8 X.prog X.w k2->k1=k2)/\∀ l,H l=none->Q (.ref l) (upd H l (.dT kvs))):=by
 intro pins s σ H xs us Q I r h
 obtain⟨p,kvs,rfl,hp,hi,q⟩:=h
 obtain⟨u,rfl,ru⟩:=cg r
 cases (show u=Value.ref p from ru)
 obtain⟨z,hd,xs,rel,dd⟩:=dS I.hok hp
 have ek:xs.map (·.1)=kvs.map (·.1):=by
  clear dd z hi hp q
  induction rel with
  | nil=>rfl
  | cons a b ih=>rw[map_cons,map_cons,ih,a.1]
 have el:xs.length=kvs.length:=by have:=congrArg List.length ek; rwa [length_map,length_map] at this
 have nd:(xs.map fun x=>(tupleKind (ap X.prog X.w)).hash x.1).Nodup:=by
  obtain⟨_,_,_,_,_,_,_,_,n2⟩:=id dd
  have e:(xs.map fun x=>(tupleKind (ap X.prog X.w)).hash x.1)=(xs.map (·.1)).map (i8 X.prog X.w):=by rw[map_map]; rfl
  rw[e]
  rw[ek] at n2 ⊢
  exact dl _ n2 hi
 refine lV (knd:=ap X.prog X.w) hd dd nd (by omega) fun h' dd' sb=>?_
 obtain⟨o,es,ep,g1,g2,g3,g4,g5,g6⟩:=dd'
 refine⟨.ref s.heap.objs.size,_,I.laid (a:=s.heap.objs.size) (o:=.dT kvs) (t':=s.toks) (fun b q hq=>?_) (Nat.le_refl _) ?_,U,q _ (I.hok.fresh (Nat.le_refl _))⟩
 ·exact(sb.2 b (Nat.ne_of_lt (Heap.lt_size hq))).trans (Heap.get?_push_of_some _ hq)
 ·refine⟨z,beq_eq_false_iff_ne.mpr (Ne.symm (Nat.ne_of_lt I.big)),xs,?_,o,es,ep,g1,g2,g3,g4,g6⟩
  refine rel.keeps fun b ys hb=>?_
  rw[aJ (fun e=>by rw[e,I.hok.fresh (Nat.le_refl _)] at hb; cases hb)]
  exact hb
end
section
variable {X:Cx}
theorem gl {pins:List (Addr×Obj)}{s:Shared}{σ:St}{H:Hp}{a:Addr}{ns:List Int} (I:Inv X pins σ H s) (h:SqL X.K H a (ns.map V.int)):Reads s.heap (.ref a) (.list (ns.map PyData.int)) [a]:=by
 obtain⟨its,r,⟨o,n,e,c,d,dd⟩,hz⟩:=I.list h
 exact reads_list_at e c dd (by simpa using dB r)
theorem fm (ns:List Int):SeqAt.shaped (.list (ns.map PyData.int))=true:=by
 simp[SeqAt.shaped,PyData.canLay0,PyData.depth,PySem.W.ke_canLayAll0,PySem.W.ke_depthAll]
theorem mO (ns ms:List Int):PySem.Spec.same (.list (ns.map PyData.int)) (.list (ms.map PyData.int))=decide (ns=ms):=by
 simp only[PySem.Spec.same]; exact PySem.W.ke_sameAll ns ms
theorem kC (ns:List Int):(Shape.list .int).has (.list (ns.map PyData.int))=true:=by
 simp only[Shape.has]
 induction ns with
 | nil=>rfl
 | cons n ns ih=>simp[Shape.hasAll,Shape.has] at ih ⊢; try exact ih
noncomputable def rLst (K:PySem.W.Frag) (neg:Bool):R2:=fun x y H Q=>∃ (a b:Addr) (ns ms:List Int),x=.ref a/\y=.ref b/\SqL K H a (ns.map V.int)/\SqL K H b (ms.map V.int)/\Q (.bl (if neg then !decide (ns=ms) else decide (ns=ms))) H
theorem rm (hu:X.A.units+64<cLine):OpR X (compareOp .Eq) (rLst X.K false):=by
 intro pins s σ H x y u v Q I rx ry h
 obtain⟨a,b,ns,ms,rfl,rfl,ha,hb,q⟩:=h
 cases (show u=Value.ref a from rx)
 cases (show v=Value.ref b from ry)
 exact eq_dataH_same (gl I ha) (gl I hb) (fm _) (fm _) hu (SeqAt.noMix_of_shape (.list .int) rfl _ _ (kC ns) (kC ms)) (by rw[mO]; exact aM I q (by simp))
noncomputable def tAsg2 (te:TE) (g1 g2:TG):TS:=fun D σ H=>te σ H fun x H1=>g1 x σ H1 fun σ2 H2=>g2 x σ2 H2 D.nx
theorem oZ {t1 t2 e:Expr}{te:TE}{g1 g2:TG}{pos:Pos} (he:PE X e te) (h1:PG X t1 g1) (h2:PG X t2 g2) (hs:swapsWithSole [t1,t2] e pos.line X.env=pure false:=by rfl) (hw:swappedStores [t1,t2] e X.env=pure none:=by rfl)
  (ha:(assignEach [t1,t2] X.env).map (·.2)=[assign t1 X.env,assign t2 X.env]:=by rfl):PS X (.Assign [t1,t2] e pos) (tAsg2 te g1 g2):=by
 intro pins s σ H D I h
 refine wpAny_Assign_stores (thn (he pins s σ H _ I h) fun v s1 z_=>z_.elim fun x z_=>z_.elim fun H1 z_=>z_.elim fun I1 z_=>z_.elim fun r1 q1=>?_) hs hw
 rw[ha]
 unfold assignAll
 refine wpAny_bind (wpAny_holding (thn (h1 pins s1 σ H1 x v _ I1 r1 q1) fun _ s2 z_=>z_.elim fun σ2 z_=>z_.elim fun H2 z_=>z_.elim fun I2 q2=>?_))
 unfold assignAll
 exact thn (h2 pins s2 σ2 H2 x v _ I2 r1 q2) fun _ s3 q=>q
end
mutual
noncomputable def DV (K:PySem.W.Frag) (H:Hp):PyData->V->Prop
 | .none,v=>v=.non
 | .bool b,v=>v=.bl b
 | .int i,v=>v=.int i
 | .str x,v=>v=.str x
 | .list ds,v=>∃ (a:Addr) (xs:List V),v=.ref a/\SqL K H a xs/\DVs K H ds xs
 | .tuple ds,v=>∃ (a:Addr) (xs:List V),v=.ref a/\SqT K H a xs/\DVs K H ds xs
 | .dict _,_=>False
noncomputable def DVs (K:PySem.W.Frag) (H:Hp):List PyData->List V->Prop
 | [],xs=>xs=[]
 | d::ds,xs=>∃ v r,xs=v::r/\DV K H d v/\DVs K H ds r
end
section
variable {X:Cx}{pins:List (Addr×Obj)}{s:Shared}{σ:St}{H:Hp}
mutual
theorem DV.reads (I:Inv X pins σ H s):∀ (d:PyData) (v:V) (u:Value),DV X.K H d v->RelV v u->∃ as,Reads s.heap u d as
 | .none,v,u,h,r=>by
  unfold DV at h; subst h; cases (show u=Value.none from r); exact⟨[],.none⟩
 | .bool b,v,u,h,r=>by
  unfold DV at h; subst h; cases (show u=Value.bool b from r); exact⟨[],.bool b⟩
 | .int i,v,u,h,r=>by
  unfold DV at h; subst h; obtain⟨t,e⟩:=(show ∃ t,u=Value.int i t from r); subst e; exact⟨[],.int i t⟩
 | .str x,v,u,h,r=>by
  unfold DV at h; subst h; obtain⟨t,e⟩:=(show ∃ t,u=Value.str x t from r); subst e; exact⟨[],.str x t⟩
 | .list ds,v,u,h,r=>by
  unfold DV at h
  obtain⟨a,xs,rfl,hs,hd⟩:=h
  cases (show u=Value.ref a from r)
  obtain⟨its,r2,⟨o,n,e,c,d,dd⟩,hz⟩:=I.list hs
  obtain⟨as,ra⟩:=DVs.reads I ds xs its hd r2
  exact⟨a::as,.list e c dd (by simpa using ra)⟩
 | .tuple ds,v,u,h,r=>by
  unfold DV at h
  obtain⟨a,xs,rfl,hs,hd⟩:=h
  cases (show u=Value.ref a from r)
  obtain⟨its,r2,⟨o,e,c,n,dd⟩,hz⟩:=I.tuple hs
  obtain⟨as,ra⟩:=DVs.reads I ds xs its hd r2
  exact⟨as,.tuple e c dd (by simpa using ra)⟩
 | .dict _,v,u,h,r=>by unfold DV at h; exact h.elim
theorem DVs.reads (I:Inv X pins σ H s):∀ (ds:List PyData) (xs:List V) (us:List Value),DVs X.K H ds xs->Vals xs us->∃ as,ReadsAll s.heap us ds as
 | [],xs,us,h,r=>by
  unfold DVs at h; subst h; cases r; exact⟨[],.nil⟩
 | d::ds,xs,us,h,r=>by
  unfold DVs at h
  obtain⟨v,r',rfl,h1,h2⟩:=h
  cases r with
  | cons ru rs=>
   obtain⟨as,ra⟩:=DV.reads I d v _ h1 ru
   obtain⟨bs,rb⟩:=DVs.reads I ds r' _ h2 rs
   exact⟨as++bs,.cons ra rb⟩
end
noncomputable def rDat (K:PySem.W.Frag) (neg:Bool):R2:=fun x y H Q=>∃ (d e:PyData),DV K H d x/\DV K H e y/\SeqAt.shaped d=true/\SeqAt.shaped e=true/\Q (.bl (if neg then !PyData.eqv d e else PyData.eqv d e)) H
theorem rk {X:Cx} (hu:X.A.units+64<cLine):OpR X (compareOp .NotEq) (rDat X.K true):=by
 intro pins s σ H x y u v Q I rx ry h
 obtain⟨d,e,hd,he,sd,se,q⟩:=h
 obtain⟨as,ra⟩:=DV.reads I d x u hd rx
 obtain⟨bs,rb⟩:=DV.reads I e y v he ry
 exact ne_dataH ra rb sd se hu (aM I q (by simp))
end
theorem dy {α:Type} (f:α->PyData):∀ (l:List α),(∀ x ∈ l,(f x).canLay0=true)->PyData.canLayAll0 (l.map f)=true
 | [],_=>rfl
 | x::l,h=>by
  rw[map_cons,PyData.canLayAll0,h x mem_cons_self,dy f l fun y hy=>h y (mem_cons_of_mem _ hy)]; rfl
theorem dW {α:Type} (f:α->PyData) (n:Nat):∀ (l:List α),(∀ x ∈ l,(f x).depth<=n)->PyData.depthAll (l.map f)<=n
 | [],_=>Nat.zero_le _
 | x::l,h=>by
  rw[map_cons,PyData.depthAll]
  exact Nat.max_le.mpr ⟨h x mem_cons_self,dW f n l fun y hy=>h y (mem_cons_of_mem _ hy)⟩
theorem DVs.map {α:Type}{K:PySem.W.Frag}{H:Hp} (f:α->PyData) (g:α->V):∀ (l:List α),(∀ x ∈ l,DV K H (f x) (g x))->DVs K H (l.map f) (l.map g)
 | [],_=>by show DVs K H [] []; unfold DVs; rfl
 | x::l,h=>by
  show DVs K H (f x::l.map f) (g x::l.map g)
  unfold DVs
  exact⟨_,_,U,h x mem_cons_self,DVs.map f g l fun y hy=>h y (mem_cons_of_mem _ hy)⟩
theorem lc {d:PyData} (h1:d.canLay0=true) (h2:d.depth<=64):SeqAt.shaped d=true:=by unfold SeqAt.shaped; rw[h1,decide_eq_true h2]; rfl
noncomputable def CXr (P:Program) (w:World):CXT:=fun outer H s E e s'=>∃ (a:Addr) (C a0:Value) (H':Hp) (B:Heap),e=.ref a/\Heap.FlyingW B outer a C a0 s'.heap/\s'.os=s.os/\AllBare s'.gens/\Un (frs outer) [] H H' s.heap s'.heap /\
 (∀ b o,s.heap.get? b=some o->H b=none->b ∉ frs outer->B.get? b=some o)/\(∀ b o,s.heap.get? b=some o->b ∉ frs outer->∃ o',B.get? b=some o')/\HOk P w H' B/\E C (some a) H'
noncomputable abbrev TJ:=Str->St->Hp->VK->Prop
end L2
set_option Elab.async false
set_option linter.all false
set_option maxRecDepth 100000
namespace L2
open PySem PySem.Spec PyProof.Rows PySem.Calls
noncomputable def ExcAt (x D:Addr) (h:Heap):Prop:=∃ o vs,h.get? x=some o/\o.cls=.ref D/\o.data=.fields vs
structure ExcCls (K:PySem.W.Frag) (D:Addr):Prop where
 ga:W.findIn K (.ref D) "__getattribute__" = some (some (.builtin "BaseException.__getattribute__"))
 gh:W.findIn K (.ref D) "__getattr__" = some none
 be:PySem.W.mroIn K D (.type "BaseException")=some true
 hd:W.hasDictIn K D=true
 at_:W.findIn K (.ref D) "__class__" = some (some (.builtin "object.__class__"))
 gt:PySem.W.specialIn K (.builtin "object.__class__") "__get__" = some (some (.builtin "getset_descriptor.__get__"))
 tk:PySem.W.takesIn K (.builtin "object.__class__")=some true
 ob:PySem.W.mroIn K D (.type "object")=some true
section
variable {K:PySem.W.Frag}{x D:Addr}
open PySem.W Builtin Builtin.ObjectAttr in
open PySem.W Builtin Builtin.ObjectAttr Builtin.Getset_descriptor in
open PySem.W Builtin Builtin.ObjectAttr in
open PySem.W Builtin Builtin.ObjectAttr in
open PySem.W Builtin Builtin.ObjectAttr in
end
end L2
set_option Elab.async false
set_option linter.all false
set_option maxRecDepth 100000
namespace L2
open PySem PySem.Spec PyProof.Rows
structure Flt (P:Program) (w:World) (outer:List Env) (H:Hp) (s:Shared) (H':Hp) (B h:Heap):Prop where
 stays:B.StaysIn h
 frames:h.FunFrames B outer
 slot:∀ b o,s.heap.get? b=some o->H b=none->b ∈ frs outer->∃ sl,h.get? b=some { o with slots:=sl }
 free:∀ b o,s.heap.get? b=some o->H b=none->H' b=none
 tups:∀ b xs,H b=some (.tup xs)->H' b=some (.tup xs)
 frzs:∀ b o u,H b=some (.frz o u)->H' b=some (.frz o u)
 tbls:∀ b ps,H b=some (.tbl ps)->∃ more,H' b=some (.tbl (ps++more))
 kb:∀ b o,s.heap.get? b=some o->H b=none->b ∉ frs outer->B.get? b=some o
 tb:∀ b o,s.heap.get? b=some o->b ∉ frs outer->∃ o',B.get? b=some o'
 hok:HOk P w H' B
structure RoomQ (k:Nat) (A:Around):Prop where
 dp:A.depth+3*k+5<recursionLimit
 un:A.units+16*k+200<cLine
structure FnOkQ (P:Program) (w:World) (K:PySem.W.Frag) (mg:Str->Option Value) (base:Heap) (k:Nat) (f:Addr) (fd:FuncData) (ps:List Str) (sp:Sp):Prop where
 len:∀ vs H Q E,sp vs H Q E->vs.length=ps.length
 run:∀ (A:Around) (outer:List Env) (s:Shared) (H:Hp) (args:Args) (us:List Value) (vs:List V) (Q:VK) (E:XK),RoomQ k A->Env0 P w K mg base A outer s H->BindsTo s fd args (ps.zip us)->Vals vs us->sp vs H Q E ->
  codeAny (model P w) A (.call (.ref f) args) (CR CX0 outer P w H s Q E) s
structure Deed (P:Program) (w:World) (K:PySem.W.Frag) (mg:Str->Option Value) (base:Heap) (k:Nat) (s:Shared) (H:Hp) (outer:List Env) (g:Addr) (sp:Hp->VK->XK->Prop):Prop where
 fn:PySem.W.FnAt g s.heap
 un:H g=none
 nf:g ∉ frs outer
 run:∀ (A':Around) (outer':List Env) (s':Shared) (H':Hp) (Q:VK) (E:XK),Room k A'->Env0 P w K mg base A' outer' s' H' ->
  (∀ b o,s.heap.get? b=some o->H b=none->b ∉ frs outer->s'.heap.get? b=some o/\H' b=none)->(∀ b o u,H b=some (.frz o u)->H' b=some (.frz o u))->sp H' Q E->codeAny (model P w) A' (.call (.ref g) ⟨[],[]⟩) (CR (CXr P w) outer' P w H' s' Q E) s'
structure LamAt (h:Heap) (H:Hp) (fs:List Addr) (N:List Str) (σ:St) (qual:Str) (params:Arguments) (body:Expr) (scope:Scope) (cl:List (Str×Addr)) (g c':Addr):Prop where
 fn:∃ pm ctv,h.get? g=some (PySem.W.kla_obj "<lambda>" qual params body scope cl pm c' ctv)
 gn:H g=none/\g ∉ fs
 code:∃ o vs t,H c'=some (.frz o (.own 0))/\o.data=.fields vs/\vs[1]?=some (.str qual t)
 cells:∀ x c,cl.lookup x=some c->(∃ v,h.IsCell c v)/\H c=none/\c ∉ fs
 vals:∀ (i:Nat) (x:Str) (v:V),N[i]?=some x->σ[i]?=some (some v)->∃ u c,RelV v u/\cl.lookup x=some c/\h.IsCell c (some u)
structure RefOk (P:Program) (w:World) (K:PySem.W.Frag) (mg:Str->Option Value) (base:Heap) (k kd:Nat) (f:Addr) (rs:(Hp->VK->XK->Prop)->Hp->VK->Prop):Prop where
 run:∀ (A:Around) (outer:List Env) (s:Shared) (H:Hp) (g:Addr) (spD:Hp->VK->XK->Prop) (Q:VK),Room k A->Env0 P w K mg base A outer s H->Deed P w K mg base kd s H outer g spD->rs spD H Q ->
  codeAny (model P w) A (.call (.ref f) ⟨[.ref g],[]⟩) (CR CX0 outer P w H s Q E0) s
noncomputable def fV (i:Int):Prop:=i.natAbs.log2<1920
noncomputable def Asc (n:Nat) (y:Str):Prop:=y.length<=n/\∀ c ∈ y.cps.toList,c<128
noncomputable def tCut (t:TS):TS:=fun D σ H=>∃ Pn:St->Hp->Prop,t { D with nx:=Pn } σ H/\∀ σ' H',Pn σ' H'->D.nx σ' H'
theorem dD {X:Cx}{st:Stmt}{t:TS} (h:PS X st t):PS X st (tCut t):=by
 intro pins s σ H D I ⟨Pn,ht,hn⟩
 refine thn (h pins s σ H { D with nx:=Pn } I ht) fun f s1 q=>?_
 cases f with
 | next=>obtain⟨σ',H',I',q⟩:=q; exact⟨σ',H',I',hn _ _ q⟩
 | ret v=>exact q
 | brk=>exact q
 | cont=>exact q
structure Tb (L:Kn) (Pt:Addr) (qual:Str):Prop where
 ex:∃ ps:Array Value,(Pt,HO.tbl ps) ∈ L/\TriplesOk ps.toList/\∀ pos,codeAmong pos ps.toList=none∨∃ (c':Addr) (oc:Obj) (vs:Array Value) (t:Tok),codeAmong pos ps.toList=some (.ref c')/\(c',HO.frz oc (.own 0)) ∈ L/\oc.data=.fields vs/\vs[1]?=some (.str qual t)
noncomputable abbrev NK:=List Key×List Key
section
variable {prog:Program}{w:World}
noncomputable def IsNest (prog:Program) (w:World) (h:Heap) (k:NK) (a:Addr):Prop:=∃ o n b c,h.get? a=some o/\o.cls=.type "tuple" /\ o.data=.seq #[.ref b,.ref c] n/\(tupleKind (ap prog w)).is h k.1 b/\(tupleKind (ap prog w)).is h k.2 c
theorem IsNest.typeIs {s:Shared}{k:NK}{a:Addr} (x:IsNest prog w s.heap k a):s.TypeIs (.ref a) "tuple":=let ⟨o,_,_,_,ho,hc,_⟩:=x; ⟨o,ho,hc⟩
theorem IsNest.inj {h:Heap}{a:Addr}{x y:NK} (hx:IsNest prog w h x a) (hy:IsNest prog w h y a):x=y:=by
 obtain⟨o,n,b,c,ho,_,hd,h1,h2⟩:=hx
 obtain⟨o',n',b',c',ho',_,hd',h1',h2'⟩:=hy
 obtain rfl:o=o':=Option.some.inj (ho.symm.trans ho')
 rw[hd] at hd'
 injection hd' with e _
 have:(#[Value.ref b,Value.ref c]:Array Value).toList=[Value.ref b',Value.ref c']:=by rw[e]
 cases this
 exact Prod.ext ((tupleKind _).inj h1 h1') ((tupleKind _).inj h2 h2')
theorem IsNest.keeps {h h':Heap}{k:NK}{a d:Addr}{o:Obj} {es ep} (x:IsNest prog w h k a) (ho:h.get? d=some o) (hd:o.data=.dict es ep) (hs:Heap.SameBut d h h'):IsNest prog w h' k a:=by
 obtain⟨o',n,b,c,ho',hc,hd',h1,h2⟩:=x
 have hne:a≠d:=by
  rintro rfl
  obtain rfl:o'=o:=Option.some.inj (ho'.symm.trans ho)
  rw[hd] at hd'; exact nomatch hd'
 exact⟨o',n,b,c,(hs.2 a hne).trans ho',hc,hd',(tupleKind _).keeps h1 ho hd hs,(tupleKind _).keeps h2 ho hd hs⟩
noncomputable def fC (prog:Program) (w:World) (k:NK):Int:=reduceHash (Builtin.Tuple.tupleHashOf [(tupleKind (ap prog w)).hash k.1,(tupleKind (ap prog w)).hash k.2])
variable {A:Around}{E:Value->Shared->Prop}{s:Shared}
theorem lU {k:NK}{a:Addr}{Q:Int->Shared->Prop} (hu:A.units+1<cLine) (hk:IsNest prog w s.heap k a) (h:Q (fC prog w k) { s with toks:=s.toks+(k.1.length+1+(k.2.length+1)+1) }) :
  wpAny (model prog w) A (pyHash (.ref a)) Q E s:=by
 have hT:=hk.typeIs
 obtain⟨o,n,b,c,ho,_,hd,h1,h2⟩:=hk
 unfold pyHash
 first | unfold pyHashByItsType | skip
 first | refine wpAny_bind (wpAny_cRoomFor_or (.inr (by omega)) ?_) | skip
 refine wpAny_bind (wpAny_specialOf hT F.slot_tuple_hash.lookup ?_)
 show wpAny _ _ (if (some (Value.builtin "tuple.__hash__") == some Value.none)=true then _ else _) Q E s
 rw[if_neg (by rw[beq_builtin_none]; exact Bool.false_ne_true)]
 refine wpAny_bind (wpAny_specialOf hT F.slot_tuple_hash.lookup ?_)
 show wpAny _ _ (callSpecialIfBoundUnlessNone? (.ref a) "__hash__" _ >>= _) Q E s
 refine wpAny_bind (wpAny_callSpecialIfBoundUnlessNone?_slot hT F.slot_tuple_hash (wpAny_call_entry F.slot_tuple_hash hT F.entry_tuple_hash ?_ (F.args_tuple_hash_1 _)))
 show wpAny _ _ (Builtin.Tuple.tupleItemsOf (.ref a) >>= _) _ _ s
 refine wpAny_bind (wpAny_tupleItemsOf ho hd ?_)
 refine wpAny_bind ?_
 rw[<- Array.forIn_toList]
 refine wpAny_forIn_list _
  (fun rest (bb:Array Int) s'=>(rest=[.ref b,.ref c]/\bb = #[]/\s'=s)∨(rest=[.ref c]/\bb.toList=[(tupleKind (ap prog w)).hash k.1]/\s'={ s with toks:=s.toks+(k.1.length+1) })∨(rest=[]/\bb.toList=[(tupleKind (ap prog w)).hash k.1,(tupleKind (ap prog w)).hash k.2]/\s'={ s with toks:=s.toks+(k.1.length+1)+(k.2.length+1) }))
  _ ?_ ?_ _ _ (.inl ⟨U,U,U⟩)
 ·rintro x rest bb s' (⟨e,hb,rfl⟩ | ⟨e,hb,rfl⟩ | ⟨e,_⟩)
  ·cases e
   refine wpAny_bind ((tupleKind (ap prog w)).pyHash (tupleKind_room_in1 hu) h1 ?_)
   have fin:(bb.push ((tupleKind (ap prog w)).hash k.1)).toList=[(tupleKind (ap prog w)).hash k.1]:=by rw[hb]; rfl
   first
    | exact wpAny_pure (.inr (.inl ⟨U,fin,U⟩))
    | exact wpAny_bind (wpAny_pure (wpAny_pure (.inr (.inl ⟨U,fin,U⟩))))
  ·cases e
   refine wpAny_bind ((tupleKind (ap prog w)).pyHash (s:={ s with toks:=s.toks+(k.1.length+1) }) (tupleKind_room_in1 hu) h2 ?_)
   have fin:(bb.push ((tupleKind (ap prog w)).hash k.2)).toList=[(tupleKind (ap prog w)).hash k.1,(tupleKind (ap prog w)).hash k.2]:=by rw[Array.toList_push,hb]; rfl
   first
    | exact wpAny_pure (.inr (.inr ⟨U,fin,U⟩))
    | exact wpAny_bind (wpAny_pure (wpAny_pure (.inr (.inr ⟨U,fin,U⟩))))
  ·cases e
 ·rintro bb s' (⟨e,_⟩ | ⟨e,_⟩ | ⟨_,hb,rfl⟩)
  ·cases e
  ·cases e
  show wpAny _ _ (retInt (Builtin.Tuple.tupleHashOf bb.toList)) _ _ _
  rw[hb]
  refine wpAny_ret_mkInt ?_
  obtain⟨z,ez⟩:∃ z,Builtin.Tuple.tupleHashOf [(tupleKind (ap prog w)).hash k.1,(tupleKind (ap prog w)).hash k.2]=z:=⟨_,U⟩
  unfold fC reduceHash at h
  rw[ez] at h ⊢
  show wpAny _ _ (if (decide (-(2:Int) ^ 63<=z) && decide (z<2 ^ 63))=true then _ else _) Q E _
  by_cases hr:(decide (-(2:Int) ^ 63<=z) && decide (z<2 ^ 63))=true
  ·rw[if_pos hr]
   rw[if_pos hr] at h
   exact wpAny_pure (by simpa [Nat.add_assoc] using h)
  ·rw[if_neg hr]
   rw[if_neg hr] at h
   exact wpAny_bind (wpAny_rule (wpAny_pure (by simpa [Nat.add_assoc] using h)))
theorem gY {x y:NK}{a b:Addr}{P:Fin->Shared->Prop} (hu:A.units<cLine) (hx:IsNest prog w s.heap x a) (hy:IsNest prog w s.heap y b) (h:P (.done (.ret (.bool (decide (x=y))))) s) :
  wpAny (model prog w) A (Builtin.«tuple.__eq__» ⟨[.ref a,.ref b],[]⟩) P E s:=by
 have hTb:=hy.typeIs
 obtain⟨oa,na,a1,a2,hoa,_,hda,x1,x2⟩:=hx
 obtain⟨ob,nb,b1,b2,hob,_,hdb,y1,y2⟩:=hy
 show wpAny _ _ (isInstance (.ref b) (.type "tuple") >>= _) _ _ s
 refine wpAny_bind (wpAny_isInstance hTb isSubtype_tuple_tuple ?_)
 simp only[Bool.not_true,Bool.false_eq_true,if_false]
 refine wpAny_bind (wpAny_tupleItemsOf hoa hda ?_)
 refine wpAny_bind (wpAny_tupleItemsOf hob hdb ?_)
 refine wpAny_bind ?_
 refine wpAny_forIn_list _
  (fun rest r s'=>r.1=none/\s'=s/\((rest=[(.ref a1,.ref b1),(.ref a2,.ref b2)])∨(rest=[(.ref a2,.ref b2)]/\x.1=y.1)∨(rest=[]/\x=y)))
  _ ?_ ?_ _ _ ⟨U,U,.inl rfl⟩
 ·rintro⟨u,v⟩ rest r s' ⟨hr,rfl,e | ⟨e,e1⟩ | ⟨e,_⟩⟩
  ·cases e
   refine wpAny_bind ((tupleKind (ap prog w)).eqBool hu x1 y1 ?_)
   by_cases hk:x.1=y.1
   ·rw[decide_eq_true hk]
    simp only[Bool.not_true,Bool.false_eq_true,if_false]
    exact wpAny_pure ⟨U,U,.inr (.inl ⟨trivial,hk⟩)⟩
   ·rw[decide_eq_false hk]
    simp only[Bool.not_false,if_true]
    rw[decide_eq_false (fun z=>hk (by rw[z]))] at h
    exact wpAny_bind (wpAny_pure (wpAny_pure (wpAny_pure h)))
  ·cases e
   refine wpAny_bind ((tupleKind (ap prog w)).eqBool hu x2 y2 ?_)
   by_cases hk:x.2=y.2
   ·rw[decide_eq_true hk]
    simp only[Bool.not_true,Bool.false_eq_true,if_false]
    exact wpAny_pure ⟨U,U,.inr (.inr ⟨trivial,Prod.ext e1 hk⟩)⟩
   ·rw[decide_eq_false hk]
    simp only[Bool.not_false,if_true]
    rw[decide_eq_false (fun z=>hk (by rw[z]))] at h
    exact wpAny_bind (wpAny_pure (wpAny_pure (wpAny_pure h)))
  ·cases e
 ·rintro⟨r1,r2⟩ s' ⟨hr,rfl,e | ⟨e,_⟩ | ⟨_,e⟩⟩
  ·cases e
  ·cases e
  simp only at hr
  subst hr
  refine wpAny_pure ?_
  rw[decide_eq_true e] at h
  exact h
theorem qF {x y:NK}{a b:Addr}{Q:Bool->Shared->Prop} (hu:A.units+1<cLine) (hx:IsNest prog w s.heap x a) (hy:IsNest prog w s.heap y b) (h:Q (decide (x=y)) s) :
  wpAny (model prog w) A (eqBool (.ref a) (.ref b)) Q E s:=by
 unfold eqBool
 try with_reducible refine wpAny_holding ?_
 show wpAny _ _ (if (Value.ref a == Value.ref b)=true then _ else _) Q E s
 by_cases hab:(Value.ref a == Value.ref b)=true
 ·rw[if_pos hab]
  have e:a=b:=by have:=eq_of_beq hab; injection this
  subst e
  obtain rfl:=hx.inj hy
  exact wpAny_bind (wpAny_rule (wpAny_pure (by simpa using h)))
 ·rw[if_neg hab]
  exact wpAny_bind (wpAny_richCompare_same_room (op:=.Eq) hx.typeIs hy.typeIs F.slot_tuple_eq
   (wpAny_call_entry F.slot_tuple_eq hx.typeIs F.entry_tuple_eq (gY (show A.in1.units<cLine from hu) hx hy ⟨_,U,(fun e=>nomatch e),wpAny_truthy_bool h⟩) (F.args_tuple_eq_2 _ _)) (by omega))
theorem f6 {ks:List Key}{a:Addr}{Q:Bool->Shared->Prop} (hk:(tupleKind (ap prog w)).is s.heap ks a) (h:Q true s):wpAny (model prog w) A (eqIsQuiet 7 (.ref a)) Q E s:=by
 have hT:=IsTupleKey.typeIs hk
 obtain⟨o,items,n,ho,_,hd,hi⟩:=hk
 unfold eqIsQuiet
 refine wpAny_bind (wpAny_specialOf hT F.slot_tuple_eq.lookup ?_)
 show wpAny _ _ (isInstance (.ref a) (.type "tuple") >>= _) _ _ s
 refine wpAny_bind (wpAny_isInstance hT isSubtype_tuple_tuple ?_)
 simp only[Bool.not_true,Bool.false_eq_true,if_false]
 refine wpAny_bind (wpAny_seqItems ho hd ?_)
 refine wpAny_bind ?_
 show wpAny _ _ (forIn items _ _) _ _ s
 rw[<- Array.forIn_toList]
 refine wpAny_forIn_list _ (fun rest r s'=>r.1=none/\s'=s/\∀ v ∈ rest,carriedByValue v=true) _ ?_ ?_ _ _ ⟨U,U,hi.byValue⟩
 ·rintro v rest r s' ⟨hr,rfl,hall⟩
  rw[eqIsQuiet_byValue _ (hall v mem_cons_self)]
  refine wpAny_bind (wpAny_pure ?_)
  simp only[Bool.not_true,Bool.false_eq_true,if_false]
  exact wpAny_pure ⟨U,U,fun u hu'=>hall u (mem_cons_of_mem _ hu')⟩
 ·rintro⟨r1,r2⟩ s' ⟨hr,rfl,_⟩
  simp only at hr
  subst hr
  exact wpAny_pure h
theorem kW {k:NK}{a:Addr}{Q:Bool->Shared->Prop} (hk:IsNest prog w s.heap k a) (h:Q true s):wpAny (model prog w) A (eqIsQuiet 8 (.ref a)) Q E s:=by
 have hT:=hk.typeIs
 obtain⟨o,n,b,c,ho,_,hd,h1,h2⟩:=hk
 unfold eqIsQuiet
 refine wpAny_bind (wpAny_specialOf hT F.slot_tuple_eq.lookup ?_)
 show wpAny _ _ (isInstance (.ref a) (.type "tuple") >>= _) _ _ s
 refine wpAny_bind (wpAny_isInstance hT isSubtype_tuple_tuple ?_)
 simp only[Bool.not_true,Bool.false_eq_true,if_false]
 refine wpAny_bind (wpAny_seqItems ho hd ?_)
 refine wpAny_bind ?_
 show wpAny _ _ (forIn #[Value.ref b,Value.ref c] _ _) _ _ s
 rw[<- Array.forIn_toList]
 refine wpAny_forIn_list _ (fun rest r s'=>r.1=none/\s'=s/\∀ v ∈ rest,v=.ref b∨v=.ref c) _ ?_ ?_ _ _ ⟨U,U,fun v hv=>by simpa using hv⟩
 ·rintro v rest r s' ⟨hr,rfl,hall⟩
  have nx:∀ v' ∈ rest,v'=Value.ref b∨v'=Value.ref c:=fun u hu'=>hall u (mem_cons_of_mem _ hu')
  rcases hall v mem_cons_self with rfl | rfl
  ·refine wpAny_bind (f6 h1 ?_)
   simp only[Bool.not_true,Bool.false_eq_true,if_false]
   exact wpAny_pure ⟨U,U,nx⟩
  ·refine wpAny_bind (f6 h2 ?_)
   simp only[Bool.not_true,Bool.false_eq_true,if_false]
   exact wpAny_pure ⟨U,U,nx⟩
 ·rintro⟨r1,r2⟩ s' ⟨hr,rfl,_⟩
  simp only at hr
  subst hr
  exact wpAny_pure h
end
noncomputable def fB (prog:Program) (w:World):HeapKind prog w NK where
 is:=IsNest prog w
 hash:=fC prog w
 draws:=fun k=>k.1.length+1+(k.2.length+1)+1
 room:=fun A=>A.units+1<cLine
 inj:=fun hx hy=>hx.inj hy
 keeps:=fun x ho hd hs=>x.keeps ho hd hs
 pyHash:=fun hu hk h=>lU hu hk h
 eqBool:=fun hu hx hy h=>qF hu hx hy h
 quiet:=fun hk h=>kW hk h
noncomputable abbrev NE:=Addr×NK×Int
noncomputable def p9 (z:NE) (x:NK×Addr×Value):Prop:=x.1=z.2.1/\x.2.1=z.1/\∃ t,x.2.2=Value.int z.2.2 t
noncomputable def NDict (P:Program) (w:World) (a:Addr) (ks:List NE) (h:Heap):Prop:=(a == sysModules)=false/\∃ xs,Paired p9 ks xs /\
 ∃ o es ep,h.get? a=some o/\o.ExactDict/\o.data=.dict es ep/\es.toList=xs.map (entryOfKey (fB P w))/\(xs.map (·.1)).Nodup
theorem NDict.ok {P:Program}{w:World}{a:Addr}{ks:List NE}{h:Heap}{H:Hp} (x:NDict P w a ks h):ObjOk P w H h a (.ext (NDict P w a ks)):=by
 refine⟨x,?_,fun h1 h2 y k=>?_⟩
 ·obtain⟨_,_,_,o,_,_,e,_⟩:=x
  exact⟨o,e⟩
 ·obtain⟨hs,xs,r,o,es,ep,e,q⟩:=y
  exact⟨hs,xs,r,o,es,ep,k o e,q⟩
noncomputable def NAt (H:Hp) (b:Addr) (k:NK):Prop:=∃ c d,H b=some (.tup [.ref c,.ref d])/\H c=some (.tup (k.1.map kV))/\H d=some (.tup (k.2.map kV))
theorem eV {P:Program}{w:World}{H:Hp}{h:Heap}{b:Addr}{k:NK} (ok:HOk P w H h) (e:NAt H b k):(fB P w).is h k b:=by
 obtain⟨c,d,e1,e2,e3⟩:=e
 obtain⟨_,its,r,o,h1,h2,n,h3⟩:=(show ObjOk P w H h b (.tup [.ref c,.ref d]) from ok b _ e1)
 cases r with
 | cons r1 r=>
  cases r with
  | cons r2 r=>
   cases r
   cases r1
   cases r2
   exact⟨o,n,c,d,h1,h2,h3,cB ok e2,cB ok e3⟩
theorem fD {P:Program}{w:World}{H:Hp}{h:Heap}{a:Addr}{ks:List NE} (ok:HOk P w H h) (e:H a=some (.ext (NDict P w a ks))) (hk:∀ z ∈ ks,NAt H z.1 z.2.1) :
  (a == sysModules)=false/\∃ xs,Paired p9 ks xs/\h.DictOfH (fB P w) a xs:=by
 obtain⟨⟨hs,xs,r,o,es,ep,e1,e2,e3,e4,e5⟩,_,_⟩:=(show ObjOk P w H h a (.ext (NDict P w a ks)) from ok a _ e)
 refine⟨hs,xs,r,o,es,ep,e1,e2,e3,e4,?_,e5⟩
 clear e1 e2 e3 e4 e5 e hs
 rename_i q1 q2
 clear q1 q2
 induction r with
 | nil=>intro x hx; cases hx
 | @cons p q ps qs hq t ih=>
  intro x hx
  rcases mem_cons.mp hx with rfl | hx
  ·obtain⟨f1,f2,_⟩:=hq
   rw[f1,f2]
   exact eV ok (hk p mem_cons_self)
  ·exact ih (fun z hz=>hk z (mem_cons_of_mem _ hz)) x hx
theorem gu {k:NK}{ks:List NE}{xs:List (NK×Addr×Value)} (r:Paired p9 ks xs) (h:∀ z ∈ ks,z.2.1≠k):atKey xs k=none:=by
 induction r with
 | nil=>rfl
 | @cons p q ps qs hq t ih=>
  have e:¬ q.1=k:=by rw[hq.1]; exact h p mem_cons_self
  have b:atKey (q::qs) k=atKey qs k:=by simp[atKey,find?_cons,e]
  rw[b]; exact ih fun z hz=>h z (mem_cons_of_mem _ hz)
theorem gr {z:NE}{ks:List NE}{xs:List (NK×Addr×Value)} (r:Paired p9 ks xs) (h:z ∈ ks) (nd:(xs.map (·.1)).Nodup):∃ p t,atKey xs z.2.1=some p/\p.2=Value.int z.2.2 t:=by
 induction r with
 | nil=>cases h
 | @cons p q ps qs hq t ih=>
  obtain⟨f1,f2,t0,f3⟩:=hq
  rw[map_cons,List.nodup_cons] at nd
  by_cases e:q.1=z.2.1
  ·rcases mem_cons.mp h with rfl | hz
   ·exact⟨q.2,t0,by simp[atKey,find?_cons,e],f3⟩
   ·exfalso
    obtain⟨p2,t2,g1,g2⟩:=ih hz nd.2
    rw[<- e] at g1
    unfold atKey at g1
    cases hf:qs.find? (fun x=>decide (x.1=q.1)) with
    | none=>rw[hf] at g1; cases g1
    | some x=>
     have:=List.find?_some hf
     exact nd.1 (mem_map.mpr ⟨x,List.mem_of_find?_eq_some hf,by simpa using this⟩)
  ·have hz:z ∈ ps:=by
    rcases mem_cons.mp h with rfl | hz
    ·exact absurd f1 e
    ·exact hz
   obtain⟨p2,t2,g1,g2⟩:=ih hz nd.2
   exact⟨p2,t2,by rw[<- g1]; simp[atKey,find?_cons,e],g2⟩
section
variable {X:Cx}{o i e value:Expr}{pos pos' tpos:Pos}{td ty tv:TE}
noncomputable def qM (P:Program) (w:World):TE:=fun _ H Q=>∀ p,H p=none->Q (.ref p) (upd H p (.ext (NDict P w p [])))
theorem nA {P:Program}{w:World} (hP:X.prog=P) (hw:X.w=w):PE X (.Dict [] [] pos) (qM P w):=fun pins s σ H Q I h=>by
 subst hP hw
 exact wpAny_Dict_empty ⟨.ref s.heap.objs.size,_,I.laid (a:=s.heap.objs.size) (t':=s.toks) (fun _ _ q=>Heap.get?_push_of_some _ q) (Nat.le_refl _)
  (NDict.ok ⟨beq_eq_false_iff_ne.mpr (Ne.symm (Nat.ne_of_lt I.big)),[],.nil,_,#[],0,Heap.get?_push_size _ rfl,⟨U,U,U⟩,U,U,List.nodup_nil⟩),U,h _ (I.hok.fresh (Nat.le_refl _))⟩
noncomputable def qO (P:Program) (w:World) (td ty:TE):TE:=fun σ H Q=>td σ H fun x H1=>ty σ H1 fun y H2=>∃ a ks z b,x=.ref a/\y=.ref b/\H2 a=some (.ext (NDict P w a ks))/\(∀ z ∈ ks,NAt H2 z.1 z.2.1)/\z ∈ ks/\NAt H2 b z.2.1/\Q (.int z.2.2) H2
theorem iP {P:Program}{w:World} (hP:X.prog=P) (hw:X.w=w) (hu:X.A.units+64<cLine) (ho:PE X o td) (hi:PE X i ty) (hs:sr i):PE X (.Subscript o i pos) (qO P w td ty):=by
 subst hP hw
 intro pins s σ H Q I h
 refine j6 PySem.F.slot_dict_getitem.lookup hs (thn (ho pins s σ H _ I h) fun u s1 z_=>z_.elim fun x z_=>z_.elim fun H1 z_=>z_.elim fun I1 z_=>z_.elim fun rx q1=>thn (hi pins s1 σ H1 _ I1 q1) fun iv s2 z_=>z_.elim fun y z_=>z_.elim fun H2 z_=>z_.elim fun I2 z_=>z_.elim fun ry z_=>z_.elim fun a z_=>z_.elim fun ks z_=>z_.elim fun z z_=>z_.elim fun b z_=>z_.elim fun ex z_=>z_.elim fun ey z_=>z_.elim fun ea z_=>z_.elim fun hk z_=>z_.elim fun hz z_=>z_.elim fun hb q2=>?_)
 subst ex ey
 obtain rfl:u=Value.ref a:=rx
 obtain rfl:iv=Value.ref b:=ry
 obtain⟨hd,xs,rel,dd⟩:=fD I2.hok ea hk
 have nd:=let ⟨_,_,_,_,_,_,_,_,n⟩:=dd; n
 obtain⟨p,t,g1,g2⟩:=gr rel hz nd
 refine⟨dd.typeIs,wpAny_getItem_heap (show X.A.in1.units+1<cLine from(show X.A.units+1+1<cLine by omega)) (eV I2.hok hb) dd g1 ?_⟩
 rw[g2]
 exact⟨.int z.2.2,H2,I2.tok _,⟨t,U⟩,q2⟩
noncomputable def tDInN (P:Program) (w:World) (ty td:TE):TE:=fun σ H Q=>ty σ H fun y H1=>td σ H1 fun x H2=>∃ a ks k b,x=.ref a/\y=.ref b/\H2 a=some (.ext (NDict P w a ks))/\(∀ z ∈ ks,NAt H2 z.1 z.2.1)/\NAt H2 b k/\Q (.bl (ks.any fun z=>decide (z.2.1=k))) H2
theorem o8 {P:Program}{w:World} (hP:X.prog=P) (hw:X.w=w) (hu:X.A.units+64<cLine) (hi:PE X i ty) (ho:PE X o td):PC X .In i o (tDInN P w ty td):=by
 subst hP hw
 intro pins s σ H Q I h
 refine thn (hi pins s σ H _ I h) fun iv s1 z_=>z_.elim fun y z_=>z_.elim fun H1 z_=>z_.elim fun I1 z_=>z_.elim fun ry q1=>thn (ho pins s1 σ H1 _ I1 q1) fun u s2 z_=>z_.elim fun x z_=>z_.elim fun H2 z_=>z_.elim fun I2 z_=>z_.elim fun rx z_=>z_.elim fun a z_=>z_.elim fun ks z_=>z_.elim fun k z_=>z_.elim fun b z_=>z_.elim fun ex z_=>z_.elim fun ey z_=>z_.elim fun ea z_=>z_.elim fun hk z_=>z_.elim fun hb q2=>?_
 subst ex ey
 obtain rfl:u=Value.ref a:=rx
 obtain rfl:iv=Value.ref b:=ry
 obtain⟨hd,xs,rel,dd⟩:=fD I2.hok ea hk
 have nd:=let ⟨_,_,_,_,_,_,_,_,n⟩:=dd; n
 refine wpAny_in_heap (show X.A.in1.units+1<cLine from(show X.A.units+1+1<cLine by omega)) (eV I2.hok hb) hd dd ?_
 have e:(atKey xs k).isSome=ks.any fun z=>decide (z.2.1=k):=by
  by_cases c:∃ z ∈ ks,z.2.1=k
  ·obtain⟨z,hz,rfl⟩:=c
   obtain⟨p,t,g1,_⟩:=gr rel hz nd
   rw[g1]
   exact(List.any_eq_true.mpr ⟨z,hz,decide_eq_true rfl⟩).symm
  ·rw[gu rel fun z hz e=>c ⟨z,hz,e⟩]
   refine(List.any_eq_false.mpr fun z hz=>?_).symm
   rw[decide_eq_true_eq]
   exact fun e=>c ⟨z,hz,e⟩
 rw[e]
 exact⟨.bl _,H2,I2.tok _,U,q2⟩
noncomputable def qZ (P:Program) (w:World) (td ty tv:TE):TS:=fun D σ H=>tv σ H fun v H1=>td σ H1 fun x H2=>ty σ H2 fun y H3=>∃ a ks k b n,v=.int n/\x=.ref a/\y=.ref b/\H3 a=some (.ext (NDict P w a ks))/\(∀ z ∈ ks,NAt H3 z.1 z.2.1)/\NAt H3 b k/\(∀ z ∈ ks,z.2.1≠k)/\ks.length<=sizeLine/\D.nx σ (upd H3 a (.ext (NDict P w a (ks++[(b,k,n)]))))
theorem ni {P:Program}{w:World} (hP:X.prog=P) (hw:X.w=w) (hu:X.A.units+64<cLine) (ho:PE X o td) (hi:PE X i ty) (hv:PE X value tv) (hs:swapsWith value (some (.Subscript o i pos')) pos.line X.env=pure false) :
  PS X (.Assign [.Subscript o i pos'] value pos) (qZ P w td ty tv):=by
 subst hP hw
 intro pins s σ H D I h
 refine wpAny_Assign_Subscript (thn (hv pins s σ H _ I h) fun r s1 z_=>z_.elim fun v z_=>z_.elim fun H1 z_=>z_.elim fun I1 z_=>z_.elim fun rv q1=>thn (ho pins s1 σ H1 _ I1 q1) fun u s2 z_=>z_.elim fun x z_=>z_.elim fun H2 z_=>z_.elim fun I2 z_=>z_.elim fun rx q2=>thn (hi pins s2 σ H2 _ I2 q2) fun iv s3 z_=>z_.elim fun y z_=>z_.elim fun H3 z_=>z_.elim fun I3 z_=>z_.elim fun ry z_=>z_.elim fun a z_=>z_.elim fun ks z_=>z_.elim fun k z_=>z_.elim fun b z_=>z_.elim fun n z_=>z_.elim fun ev z_=>z_.elim fun ex z_=>z_.elim fun ey z_=>z_.elim fun ea z_=>z_.elim fun hk z_=>z_.elim fun hb z_=>z_.elim fun hn z_=>z_.elim fun hl q3=>?_) hs
 subst ev ex ey
 obtain rfl:u=Value.ref a:=rx
 obtain rfl:iv=Value.ref b:=ry
 obtain⟨t,rfl⟩:∃ t,r=Value.int n t:=rv
 obtain⟨hd,xs,rel,dd⟩:=fD I3.hok ea hk
 refine wpAny_setItem_heap (hsz:=by rw[<- Paired.length rel]; exact hl) (show X.A.in1.units+1<cLine from(show X.A.units+1+1<cLine by omega)) (eV I3.hok hb) dd fun h' dd' hs=>?_
 rw[storedH_new (gu rel hn)] at dd'
 obtain⟨q,es,ep,hq,h2,h3,h4,_,h5⟩:=dd'
 exact⟨σ,_,dX I3 (by rw[ea]; exact True.intro) hs ⟨q,hq⟩ (NDict.ok ⟨hd,_,Paired.snoc rel ⟨rfl,rfl,t,rfl⟩,q,es,ep,hq,h2,h3,h4,h5⟩),q3⟩
end
section
variable {prog:Program}{w:World}{K:Type} [DecidableEq K] {knd:HeapKind prog w K}{d:Addr}
theorem jH (hd:(d == sysModules)=false) :
  MeetsIn prog w (Builtin.«dict.__len__» ⟨[.ref d],[]⟩) (fun _ R s=>∃ xs,s.heap.DictOfH knd d xs/\R (.ok (.ret (.int xs.length s.toks))) { s with toks:=s.toks+1 }) :=
 .of_wp fun A R s z_=>z_.elim fun xs z_=>z_.elim fun hm h=>by
  obtain⟨o,es,ep,ho,hc,hdat,he,_,hn⟩:=hm
  show wpAny _ _ (dictSize d >>= _) _ _ s
  unfold dictSize
  refine wpAny_bind (wpAny_bind (wpAny_dictEntries ho hdat (wpAny_pure ?_)))
  show wpAny _ _ (Builtin.Dict.pendingCount d >>= _) _ _ s
  refine wpAny_bind (wpAny_pendingCount_other hd ?_)
  refine wpAny_ret_mkInt ?_
  have:es.size=xs.length:=by have:=congrArg List.length he; rw[length_map] at this; simpa using this
  rw[Nat.add_zero,this]; exact h
end
section
variable {X:Cx}
theorem gF:b7 X (.builtin "len") (fun xs H Q=>∃ a kvs,xs=[V.ref a]/\H a=some (.dT kvs)/\Q (.int kvs.length) H):=by
 intro pins s σ H xs us Q I r h
 obtain⟨a,kvs,rfl,ha,q⟩:=h
 obtain⟨u,rfl,ru⟩:=cg r
 cases ru
 obtain⟨z,hd,xs,rel,dd⟩:=kM I.hok ha
 have hl:xs.length=kvs.length:=(Paired.length rel).symm
 have hfit:(xs.length:Int)<2 ^ 63:=by rw[hl]; rw[sizeLine_eq] at z; omega
 refine Calls.call_function_entry kind_len plain_len entry_len (args_len1 _) ?_
 unfold Builtin.«len»
 refine wpAny_bind (m:=oneArg "len" _) (wpAny_pure ?_)
 refine wpAny_bind (m:=callSpecial? (.ref a) (Str.ofString "__len__")) (wpAny_callSpecial?_slot (name:=Str.ofString "__len__") dd.typeIs PySem.F.slot_dict_len
  (call_meetsIn PySem.F.slot_dict_len dd.typeIs PySem.F.entry_dict_len (PySem.F.args_dict_len_1 _) (jH (knd:=tupleKind (ap X.prog X.w)) hd) ⟨xs,dd,?_⟩))
 show wpAny _ _ _ _ _ { s with toks:=s.toks+1 }
 refine wpAny_bind (wpAny_holding (wpAny_pure ?_))
 refine wpAny_bind (wpAny_letGo ?_)
 show wpAny _ _ (if ((xs.length:Nat):Int)<0 then _ else _) _ _ _
 rw[if_neg (by omega)]
 show wpAny _ _ (if ((xs.length:Nat):Int) ≥ 2 ^ 63 then _ else _) _ _ _
 rw[if_neg (by omega)]
 refine wpAny_bind (wpAny_mkInt (wpAny_pure ⟨_,U,.int kvs.length,H,I.tok _,?_,q⟩))
 rw[hl]
 exact⟨_,U⟩
end
noncomputable def SqB (b:Bool) (K:PySem.W.Frag) (H:Hp) (a:Addr) (xs:List V):Prop:=match b with | true=>SqL K H a xs | false=>SqT K H a xs
noncomputable def ItB (b:Bool) (K:PySem.W.Frag) (a:Addr):It:=match b with | true=>Itl K a | false=>Itt K a
end L2
set_option Elab.async false
set_option linter.all false
set_option maxRecDepth 100000
namespace L2
open PySem PySem.Spec PyProof.Rows
end L2
set_option Elab.async false
set_option linter.all false
set_option maxRecDepth 100000
namespace L2.So
open PySem PyProof.Rows
section
variable {M:Model}{A:Around}{E:Value->Shared->Prop}{s:Shared}{κ:SortKind}{g:Keyed->Int}{U:Keyed->Prop}
noncomputable def Cmp (M:Model) (A:Around) (s:Shared) (κ:SortKind) (g:Keyed->Int) (U:Keyed->Prop):Prop :=
 ∀ x y,U x->U y->∀ Q:Bool->Prop,Q (decide (g x<g y))->wpAny M A (keyLt' κ x.1 y.1) (fun b s'=>s'=s/\Q b) (fun _ _=>False) s
noncomputable def G (g:Keyed->Int) (xs:Array Keyed) (i:Nat):Int:=(xs[i]?.map g).getD 0
theorem bG {xs ys:Array Keyed}{i j:Nat} (h:xs[i]?=ys[j]?):G g xs i=G g ys j:=by unfold G; rw[h]
noncomputable def Asc (g:Keyed->Int) (xs:Array Keyed) (lo hi:Nat):Prop:=∀ i j,lo<=i->i<j->j<hi->G g xs i<G g xs j
noncomputable def All (U:Keyed->Prop) (xs:Array Keyed):Prop:=∀ (i:Nat) p,xs[i]?=some p->U p
noncomputable def Dis (g:Keyed->Int) (xs:Array Keyed):Prop:=∀ i j,i<j->j<xs.size->G g xs i≠G g xs j
structure Stt (κ:SortKind) (g:Keyed->Int) (U:Keyed->Prop) (st:SortSt):Prop where
 k:kindOf st=κ
 f:failedOf st=none
 u:All U (arrOf st)
 d:Dis g (arrOf st)
theorem w_lt (hC:Cmp M A s κ g U) {st:SortSt}{x y:Keyed}{Q:Option Bool->SortSt->Prop} (hk:kindOf st=κ) (hx:U x) (hy:U y) (h:Q (some (decide (g x<g y))) st):wpS M A E s (lt' x y) Q st:=by
 rw[lt'_eq]
 refine wpS_bind (wpS_get ?_)
 rw[hk]
 refine wpS_bind (wpS_lift (wpAny_attempt (wpAny_mono (hC x y hx hy (fun b=>b=decide (g x<g y)) rfl) (fun b s' hb=>⟨hb.1,?_⟩) fun _ _ e=>e.elim)))
 obtain⟨_,rfl⟩:=hb
 exact wpS_pure h
theorem bi {arr:Array Keyed}{i:Nat}{p:Keyed}{Q:Keyed->SortSt->Prop}{st:SortSt} (e:arr[i]?=some p) (h:Q p st):wpS M A E s (elem' arr i) Q st:=by
 rw[elem'_eq,e]
 exact wpS_pure h
theorem at_ {xs:Array Keyed}{i:Nat} (h:i<xs.size):∃ p,xs[i]?=some p/\G g xs i=g p:=⟨xs[i],getElem?_pos xs i h,by unfold G; rw[getElem?_pos xs i h]; rfl⟩
theorem d5 (hC:Cmp M A s κ g U) {st:SortSt}{i j:Nat}{Q:Option Bool->SortSt->Prop} (hs:Stt κ g U st) (hi:i<(arrOf st).size) (hj:j<(arrOf st).size) (h:Q (some (decide (G g (arrOf st) i<G g (arrOf st) j))) st):wpS M A E s (ltAt' i j) Q st:=by
 obtain⟨p,e1,e2⟩:=at_ (g:=g) hi
 obtain⟨q,e3,e4⟩:=at_ (g:=g) hj
 rw[e2,e4] at h
 rw[ltAt'_eq]
 refine wpS_bind (wpS_get ?_)
 exact wpS_bind (bi e1 (wpS_bind (bi e3 (w_lt hC hs.k (hs.u i p e1) (hs.u j q e3) h))))
theorem Dis.ne {xs:Array Keyed} (h:Dis g xs) {i j:Nat} (hi:i<xs.size) (hj:j<xs.size) (n:i≠j):G g xs i≠G g xs j:=by
 rcases Nat.lt_or_gt_of_ne n with h1 | h1
 ·exact h i j h1 hj
 ·exact(h j i h1 hi).symm
theorem Asc.snoc {xs:Array Keyed}{lo n:Nat} (h:Asc g xs lo (lo+n)) (h1:1<=n) (hlt:G g xs (lo+n - 1)<G g xs (lo+n)):Asc g xs lo (lo+n+1):=by
 intro i j hi hij hj
 by_cases e:j=lo+n
 ·subst e
  by_cases e2:i=lo+n - 1
  ·subst e2; exact hlt
  ·exact Int.lt_trans (h i (lo+n - 1) hi (by omega) (by omega)) hlt
 ·exact h i j hi hij (by omega)
noncomputable def Desc (g:Keyed->Int) (xs:Array Keyed) (lo hi:Nat):Prop:=∀ i j,lo<=i->i<j->j<hi->G g xs j<G g xs i
theorem Desc.snoc {xs:Array Keyed}{lo n:Nat} (h:Desc g xs lo (lo+n)) (h1:1<=n) (hlt:G g xs (lo+n)<G g xs (lo+n - 1)):Desc g xs lo (lo+n+1):=by
 intro i j hi hij hj
 by_cases e:j=lo+n
 ·subst e
  by_cases e2:i=lo+n - 1
  ·subst e2; exact hlt
  ·exact Int.lt_trans hlt (h i (lo+n - 1) hi (by omega) (by omega))
 ·exact h i j hi hij (by omega)
structure Swp (st st':SortSt) (lo hi:Nat):Prop where
 k:kindOf st'=kindOf st
 p:pendingOf st'=pendingOf st
 m:gallopOf st'=gallopOf st
 f:failedOf st'=failedOf st
 e:(arrOf st').Perm (arrOf st)
 o:∀ k,k<lo∨hi<=k->(arrOf st')[k]?=(arrOf st)[k]?
theorem All.perm {xs ys:Array Keyed} (h:All U xs) (e:ys.Perm xs):All U ys:=by
 intro i p hp
 have hm:p ∈ ys.toList:=by rw[Array.mem_toList_iff]; exact Array.mem_of_getElem? hp
 have hm2:=(Array.perm_iff_toList_perm.mp e).mem_iff.mp hm
 rw[Array.mem_toList_iff] at hm2
 obtain⟨j,hj⟩:=Array.getElem?_of_mem hm2
 exact h j p hj
theorem dis_iff {xs:Array Keyed}:Dis g xs↔(xs.toList.map g).Nodup:=by
 unfold Dis List.Nodup
 rw[List.pairwise_iff_getElem]
 simp only[length_map,Array.length_toList,List.getElem_map,Array.getElem_toList]
 constructor
 ·intro h i j hi hj hij
  have:=h i j hij hj
  unfold G at this
  rw[getElem?_pos xs i hi,getElem?_pos xs j hj] at this
  exact this
 ·intro h i j hij hj
  unfold G
  rw[getElem?_pos xs i (by omega),getElem?_pos xs j hj]
  exact h i j (by omega) hj hij
theorem Dis.perm {xs ys:Array Keyed} (h:Dis g xs) (e:ys.Perm xs):Dis g ys:=by
 rw[dis_iff] at h ⊢
 exact(((Array.perm_iff_toList_perm.mp e).map g).nodup_iff).mpr h
theorem Swp.refl (st:SortSt) (lo hi:Nat):Swp st st lo hi:=⟨rfl,rfl,rfl,rfl,Array.Perm.refl _,fun _ _=>rfl⟩
theorem Swp.stt {st st':SortSt}{lo hi:Nat} (h:Swp st st' lo hi) (hs:Stt κ g U st):Stt κ g U st':=⟨h.k.trans hs.k,h.f.trans hs.f,hs.u.perm h.e,hs.d.perm h.e⟩
theorem Swp.size {st st':SortSt}{lo hi:Nat} (h:Swp st st' lo hi):(arrOf st').size=(arrOf st).size:=h.e.size_eq
theorem Swp.trans {a b c:SortSt}{lo hi:Nat} (h:Swp a b lo hi) (h':Swp b c lo hi):Swp a c lo hi:=⟨h'.k.trans h.k,h'.p.trans h.p,h'.m.trans h.m,h'.f.trans h.f,h'.e.trans h.e,fun k hk=>(h'.o k hk).trans (h.o k hk)⟩
theorem Swp.mono {a b:SortSt}{lo hi lo' hi':Nat} (h:Swp a b lo hi) (h1:lo'<=lo) (h2:hi<=hi'):Swp a b lo' hi':=⟨h.k,h.p,h.m,h.f,h.e,fun k hk=>h.o k (by omega)⟩
theorem oC {st:SortSt}{lo hi:Nat} (h:hi<=(arrOf st).size):Swp st (setArr st (mirror (arrOf st) lo hi ((hi - lo) / 2))) lo hi :=
 ⟨rfl,rfl,rfl,rfl,mirror_perm _ _ _ _,fun k hk=>(getElem?_mirror_all h k).trans (if_neg (by omega))⟩
theorem oX {xs:Array Keyed}{lo hi:Nat} (h:hi<=xs.size) (hd:Desc g xs lo hi):Asc g (mirror xs lo hi ((hi - lo) / 2)) lo hi:=by
 intro i j hi' hij hj
 have e1:(mirror xs lo hi ((hi - lo) / 2))[i]?=xs[lo+hi - 1 - i]?:=(getElem?_mirror_all h i).trans (if_pos (by omega))
 have e2:(mirror xs lo hi ((hi - lo) / 2))[j]?=xs[lo+hi - 1 - j]?:=(getElem?_mirror_all h j).trans (if_pos (by omega))
 rw[bG e1,bG e2]
 exact hd _ _ (by omega) (by omega) (by omega)
theorem qa (hC:Cmp M A s κ g U) {st:SortSt}{lo m:Nat}{Q:Option Nat->SortSt->Prop} (hs:Stt κ g U st) (h1:1<=m) (hz:lo+m<=(arrOf st).size)
  (h:∀ n st',1<=n->n<=m->Swp st st' lo (lo+m)->Asc g (arrOf st') lo (lo+n)->Q (some n) st'):wpS M A E s (countRun' lo m) Q st:=by
 rw[countRun'_eq]
 refine wpS_bind (wpS_mono (wpS_forRange (I:=fun i c st'=>st'=st/\∃ n,c=(none,n)/\n=i/\Asc g (arrOf st) lo (lo+n))
  (Q:=fun c st'=>st'=st/\∃ n,c=(none,n)/\1<=n/\n<=m/\Asc g (arrOf st) lo (lo+n)/\(n<m->G g (arrOf st) (lo+n)<G g (arrOf st) (lo+n - 1))) ?s1 ?f1 ⟨rfl,1,rfl,rfl,fun i j _ _ _=>by omega⟩) ?p1)
 case f1=>
  rintro c st' ⟨rfl,n,rfl,rfl,ha⟩
  exact⟨rfl,_,rfl,by omega,by omega,ha,fun q=>by omega⟩
 case s1=>
  rintro i c st' hi1 hi2 ⟨rfl,n,rfl,rfl,ha⟩
  dsimp only
  refine wpS_bind (d5 hC hs (by omega) (by omega) ?_)
  dsimp only
  by_cases hlt:G g (arrOf st') (lo+n)<G g (arrOf st') (lo+n - 1)
  ·rw[if_pos (decide_eq_true hlt)]
   exact wpS_pure ⟨rfl,n,rfl,hi1,by omega,ha,fun _=>hlt⟩
  ·rw[if_neg (by simpa using hlt)]
   refine wpS_pure ⟨rfl,n+1,rfl,rfl,?_⟩
   have:=hs.d.ne (i:=lo+n) (j:=lo+n - 1) (by omega) (by omega) (by omega)
   exact ha.snoc hi1 (by omega)
 case p1=>
  rintro c st' ⟨rfl,n,rfl,hn1,hn2,ha,hb⟩
  dsimp only
  by_cases e1:n=m
  ·rw[if_pos (by simpa using e1)]
   exact wpS_pure (h n st' hn1 hn2 (Swp.refl _ _ _) ha)
  rw[if_neg (by simpa using e1)]
  have hb:=hb (by omega)
  by_cases e2:n > 1
  ·rw[if_pos e2]
   refine wpS_bind (d5 hC hs (by omega) (by omega) ?_)
   dsimp only
   rw[if_pos (decide_eq_true (ha lo (lo+n - 1) (Nat.le_refl _) (by omega) (by omega)))]
   exact wpS_pure (h n st' hn1 hn2 (Swp.refl _ _ _) ha)
  rw[if_neg e2]
  obtain rfl:n=1:=by omega
  refine wpS_bind (wpS_lift (wpAny_rule ⟨rfl,?_⟩))
  refine wpS_bind (wpS_mono (wpS_forRange (I:=fun i c st2=>st2=st'/\∃ n,c=(none,n,0)/\n=i/\Desc g (arrOf st') lo (lo+n))
   (Q:=fun c st2=>st2=st'/\∃ n,c=(none,n,0)/\2<=n/\n<=m/\Desc g (arrOf st') lo (lo+n)) ?s2 ?f2 ⟨rfl,2,rfl,rfl,?i2⟩) ?p2)
  case i2=>
   intro i j h1 h2 h3
   obtain rfl:i=lo:=by omega
   obtain rfl:j=i+1:=by omega
   exact hb
  case f2=>
   rintro c st2 ⟨rfl,n,rfl,rfl,hd⟩
   exact⟨rfl,_,rfl,by omega,by omega,hd⟩
  case s2=>
   rintro i c st2 hi1 hi2 ⟨rfl,n,rfl,rfl,hd⟩
   dsimp only
   refine wpS_bind (d5 hC hs (by omega) (by omega) ?_)
   dsimp only
   by_cases hlt:G g (arrOf st2) (lo+n)<G g (arrOf st2) (lo+n - 1)
   ·rw[if_pos (decide_eq_true hlt),if_neg (by decide)]
    exact wpS_pure ⟨rfl,n+1,rfl,rfl,hd.snoc (by omega) hlt⟩
   ·rw[if_neg (by simpa using hlt)]
    refine wpS_bind (d5 hC hs (by omega) (by omega) ?_)
    dsimp only
    have:=hs.d.ne (i:=lo+n) (j:=lo+n - 1) (by omega) (by omega) (by omega)
    rw[if_pos (decide_eq_true (by omega))]
    exact wpS_pure ⟨rfl,n,rfl,by omega,by omega,hd⟩
  case p2=>
   rintro c st2 ⟨rfl,n,rfl,hn1,hn2,hd⟩
   dsimp only
   rw[if_neg (by decide),reverseSlice'_eq]
   refine wpS_bind (wpS_modify ?_)
   have w1:=(oC (st:=st2) (lo:=lo) (hi:=lo+n) (by omega)).mono (Nat.le_refl lo) (show lo+n<=lo+m by omega)
   have a1:=oX (xs:=arrOf st2) (lo:=lo) (hi:=lo+n) (by omega) hd
   obtain⟨st3,e3⟩:∃ st3,setArr st2 (mirror (arrOf st2) lo (lo+n) ((lo+n - lo) / 2))=st3:=⟨_,rfl⟩
   have a1:Asc g (arrOf st3) lo (lo+n):=by rw[<- e3]; exact a1
   rw[e3] at w1 ⊢
   have hs3:=w1.stt hs
   have z3:=w1.size
   refine wpS_bind (wpS_mono (wpS_forRange (I:=fun i c st'=>st'=st3/\∃ n,c=(none,n)/\n=i/\Asc g (arrOf st3) lo (lo+n))
    (Q:=fun c st'=>st'=st3/\∃ n,c=(none,n)/\1<=n/\n<=m/\Asc g (arrOf st3) lo (lo+n)) ?s3 ?f3 ⟨rfl,n,rfl,rfl,a1⟩) ?p3)
   case f3=>
    rintro c st' ⟨rfl,n,rfl,rfl,ha⟩
    exact⟨rfl,_,rfl,by omega,by omega,ha⟩
   case s3=>
    rintro i c st' hi1 hi2 ⟨rfl,n,rfl,rfl,ha⟩
    dsimp only
    refine wpS_bind (d5 hC hs3 (by omega) (by omega) ?_)
    dsimp only
    by_cases hlt:G g (arrOf st') (lo+n)<G g (arrOf st') (lo+n - 1)
    ·rw[if_pos (decide_eq_true hlt)]
     exact wpS_pure ⟨rfl,n,rfl,by omega,by omega,ha⟩
    ·rw[if_neg (by simpa using hlt)]
     refine wpS_pure ⟨rfl,n+1,rfl,rfl,?_⟩
     have:=hs3.d.ne (i:=lo+n) (j:=lo+n - 1) (by omega) (by omega) (by omega)
     exact ha.snoc (by omega) (by omega)
   case p3=>
    rintro c st' ⟨rfl,n,rfl,hn1,hn2,ha⟩
    exact wpS_pure (h n st' hn1 hn2 w1 ha)
theorem oE {st:SortSt}{lo hi src d:Nat} (h1:lo<=src - d) (h2:src<hi) (h3:src<(arrOf st).size) (h4:d<=src):Swp st (setArr st (bubble (arrOf st) src d)) lo hi :=
 ⟨rfl,rfl,rfl,rfl,bubble_perm _ _ _,fun k hk=>by
  show(bubble (arrOf st) src d)[k]?=_
  rw[getElem?_bubble h3 d h4 k,if_neg (by omega),if_neg (by omega)]⟩
theorem qc (hC:Cmp M A s κ g U) {st:SortSt}{lo n ok:Nat}{Q:Bool->SortSt->Prop} (hs:Stt κ g U st) (hok:1<=ok) (hn:ok<=n) (hz:lo+n<=(arrOf st).size) (ha:Asc g (arrOf st) lo (lo+ok))
  (h:∀ st',Swp st st' lo (lo+n)->Asc g (arrOf st') lo (lo+n)->Q true st'):wpS M A E s (binarySort' lo n ok) Q st:=by
 rw[binarySort'_eq]
 refine wpS_bind (wpS_mono (wpS_forRange (I:=fun i c st'=>c=(none,())/\Swp st st' lo (lo+n)/\Asc g (arrOf st') lo (lo+i))
  (Q:=fun c st'=>c=(none,())/\Swp st st' lo (lo+n)/\Asc g (arrOf st') lo (lo+n)) ?s1 ?f1 ⟨rfl,Swp.refl _ _ _,?i1⟩) ?p1)
 case i1=>rw[Nat.max_eq_left hok]; exact ha
 case f1=>
  rintro c st' ⟨rfl,hw,ha⟩
  refine⟨rfl,hw,?_⟩
  rw[show max (max ok 1) n=n by omega] at ha
  exact ha
 case p1=>
  rintro c st' ⟨rfl,hw,ha⟩
  exact wpS_pure (h st' hw ha)
 case s1=>
  rintro k c st' hk1 hk2 ⟨rfl,hw,ha⟩
  have hs':=hw.stt hs
  have z:=hw.size
  refine wpS_bind (wpS_mono (wpS_forRange (I:=fun x c st2=>st2=st'/\∃ l r,c=(none,l,r)/\l<=r/\r<=k/\r - l<=k - x/\(∀ i,i<l->G g (arrOf st') (lo+i)<G g (arrOf st') (lo+k))/\(∀ i,r<=i->i<k->G g (arrOf st') (lo+k)<G g (arrOf st') (lo+i)))
   (Q:=fun c st2=>st2=st'/\∃ l r,c=(none,l,r)/\l<=k/\(∀ i,i<l->G g (arrOf st') (lo+i)<G g (arrOf st') (lo+k))/\(∀ i,l<=i->i<k->G g (arrOf st') (lo+k)<G g (arrOf st') (lo+i))) ?s2 ?f2 ⟨rfl,0,k,rfl,by omega,by omega,by omega,fun i hi=>by omega,fun i h1 h2=>by omega⟩) ?p2)
  case f2=>
   rintro c st2 ⟨rfl,l,r,rfl,h1,h2,h3,h4,h5⟩
   obtain rfl:l=r:=by omega
   exact⟨rfl,l,l,rfl,h2,h4,h5⟩
  case s2=>
   rintro x c st2 _ hx ⟨rfl,l,r,rfl,h1,h2,h3,h4,h5⟩
   dsimp only
   by_cases hge:l ≥ r
   ·rw[if_pos hge]
    obtain rfl:l=r:=by omega
    exact wpS_pure ⟨rfl,l,l,rfl,h2,h4,h5⟩
   ·rw[if_neg hge]
    refine wpS_bind (d5 hC hs' (by omega) (by omega) ?_)
    dsimp only
    by_cases hlt:G g (arrOf st2) (lo+k)<G g (arrOf st2) (lo+(l+r) / 2)
    ·rw[if_pos (decide_eq_true hlt)]
     refine wpS_pure ⟨rfl,l,(l+r) / 2,rfl,by omega,by omega,by omega,h4,fun i h6 h7=>?_⟩
     by_cases e:i=(l+r) / 2
     ·subst e; exact hlt
     ·exact Int.lt_trans hlt (ha _ _ (by omega) (by omega) (by omega))
    ·rw[if_neg (by simpa using hlt)]
     refine wpS_pure ⟨rfl,(l+r) / 2+1,r,rfl,by omega,by omega,by omega,fun i h6=>?_,h5⟩
     have:=hs'.d.ne (i:=lo+k) (j:=lo+(l+r) / 2) (by omega) (by omega) (by omega)
     by_cases e:i=(l+r) / 2
     ·subst e; omega
     ·have:=ha (lo+i) (lo+(l+r) / 2) (by omega) (by omega) (by omega)
      omega
  case p2=>
   rintro c st2 ⟨rfl,l,r,rfl,hl,h4,h5⟩
   show wpS _ _ _ _ (do moveDown' (lo+k) (lo+l); pure (ForInStep.yield (none,()))) _ _
   rw[moveDown'_eq]
   have hb:=oE (st:=st2) (lo:=lo) (hi:=lo+n) (src:=lo+k) (d:=lo+k - (lo+l)) (by omega) (by omega) (by omega) (by omega)
   refine wpS_bind (wpS_modify (wpS_pure ⟨rfl,hw.trans hb,?_⟩))
   have gb:=getElem?_bubble (xs:=arrOf st2) (src:=lo+k) (by omega) (lo+k - (lo+l)) (by omega)
   rw[show lo+k - (lo+k - (lo+l))=lo+l by omega] at gb
   intro i j hi hij hj
   show G g (bubble (arrOf st2) (lo+k) (lo+k - (lo+l))) i<G g (bubble (arrOf st2) (lo+k) (lo+k - (lo+l))) j
   have gi:=gb i
   have gj:=gb j
   by_cases i1:i=lo+l
   ·rw[if_pos i1] at gi
    rw[if_neg (by omega),if_pos (by omega)] at gj
    rw[bG gi,bG gj,show j - 1=lo+(j - 1 - lo) by omega]
    exact h5 _ (by omega) (by omega)
   ·rw[if_neg i1] at gi
    by_cases i2:lo+l<i/\i<=lo+k
    ·rw[if_pos i2] at gi
     rw[if_neg (by omega),if_pos (by omega)] at gj
     rw[bG gi,bG gj]
     exact ha _ _ (by omega) (by omega) (by omega)
    ·rw[if_neg i2] at gi
     rw[bG gi]
     by_cases j1:j=lo+l
     ·rw[if_pos j1] at gj
      rw[bG gj,show i=lo+(i - lo) by omega]
      exact h4 _ (by omega)
     ·rw[if_neg j1] at gj
      by_cases j2:lo+l<j/\j<=lo+k
      ·rw[if_pos j2] at gj
       rw[bG gj]
       exact ha _ _ (by omega) (by omega) (by omega)
      ·rw[if_neg j2] at gj
       rw[bG gj]
       exact ha _ _ (by omega) (by omega) (by omega)
noncomputable def ja:Bool->Keyed->Array Keyed->Nat->Nat->Nat->StateT SortSt Sem (Option Nat):=sortPriv% PySem.Builtin.gallop
noncomputable def lQ (left:Bool) (key:Keyed) (arr:Array Keyed) (base i:Nat):StateT SortSt Sem (Option Bool):=do
 let x <- elem' arr (base+i)
 if left then lt' x key else return (<- lt' key x).map (!·)
noncomputable def rQ (left:Bool) (key:Keyed) (arr:Array Keyed) (base n lo0 hi0:Nat):StateT SortSt Sem (Option Nat):=do
 let mut lo:=lo0
 let mut hi:=hi0
 for _ in [0:n] do
  if lo ≥ hi then break
  let m:=lo+(hi - lo) / 2
  let some b3 <- lQ left key arr base m | return none
  if b3 then lo:=m+1 else hi:=m
 return some hi
theorem pH (left:Bool) (key:Keyed) (arr:Array Keyed) (base n hint:Nat):ja left key arr base n hint=(do
 let mut la:=0
 let mut of:=1
 let mut lo:=0
 let mut hi:=0
 let some b0 <- lQ left key arr base hint | return none
 if b0 then
  let mx:=n - hint
  for _ in [0:n] do
   if of ≥ mx then break
   let some b1 <- lQ left key arr base (hint+of) | return none
   if !b1 then break
   la:=of
   of:=2*of+1
  lo:=hint+la+1
  hi:=hint+min of mx
 else
  let mx:=hint+1
  for _ in [0:n] do
   if of ≥ mx then break
   let some b2 <- lQ left key arr base (hint - of) | return none
   if b2 then break
   la:=of
   of:=2*of+1
  lo:=hint+1 - min of mx
  hi:=hint - la
 rQ left key arr base n lo hi):=rfl
noncomputable def bey (g:Keyed->Int) (left:Bool) (key:Keyed) (arr:Array Keyed) (base i:Nat):Bool:=if left then decide (G g arr (base+i)<g key) else !decide (g key<G g arr (base+i))
theorem jZ (hC:Cmp M A s κ g U) {st:SortSt}{left:Bool}{key:Keyed}{arr:Array Keyed}{base i:Nat}{Q:Option Bool->SortSt->Prop} (hk:kindOf st=κ) (hu:U key) (ha:All U arr) (hi:base+i<arr.size)
  (h:Q (some (bey g left key arr base i)) st):wpS M A E s (lQ left key arr base i) Q st:=by
 obtain⟨p,e1,e2⟩:=at_ (g:=g) hi
 unfold bey at h
 rw[e2] at h
 unfold lQ
 refine wpS_bind (bi e1 ?_)
 cases left with
 | true=>exact w_lt hC hk (ha _ _ e1) hu h
 | false=>exact wpS_bind (w_lt hC hk hu (ha _ _ e1) (wpS_pure h))
theorem f7 (hC:Cmp M A s κ g U) {st:SortSt}{left:Bool}{key:Keyed}{arr:Array Keyed}{base n hint:Nat}{Q:Option Nat->SortSt->Prop} (hk:kindOf st=κ) (hu:U key) (ha:All U arr) (hz:base+n<=arr.size) (hh:hint<n)
  (hm:∀ i j,i<=j->j<n->bey g left key arr base j=true->bey g left key arr base i=true)
  (h:∀ k,k<=n->(∀ i,i<k->bey g left key arr base i=true)->(∀ i,k<=i->i<n->bey g left key arr base i=false)->Q (some k) st):wpS M A E s (ja left key arr base n hint) Q st:=by
 have hm':∀ i j,i<=j->j<n->bey g left key arr base i=false->bey g left key arr base j=false:=fun i j h1 h2 h3=>by
  cases e:bey g left key arr base j with
  | false=>rfl
  | true=>rw[hm i j h1 h2 e] at h3; cases h3
 have last:∀ lo hi,lo<=hi->hi<=n->(∀ i,i<lo->bey g left key arr base i=true)->(∀ i,hi<=i->i<n->bey g left key arr base i=false) ->
   wpS M A E s (rQ left key arr base n lo hi) Q st:=by
  intro lo hi h1 h2 h3 h4
  unfold rQ
  refine wpS_bind (wpS_mono (wpS_forRange (I:=fun x c st'=>st'=st/\∃ lo hi,c=(none,lo,hi)/\lo<=hi/\hi<=n/\hi - lo<=n - x/\(∀ i,i<lo->bey g left key arr base i=true)/\(∀ i,hi<=i->i<n->bey g left key arr base i=false))
   (Q:=fun c st'=>st'=st/\∃ lo hi,c=(none,lo,hi)/\hi<=n/\(∀ i,i<hi->bey g left key arr base i=true)/\(∀ i,hi<=i->i<n->bey g left key arr base i=false)) ?s2 ?f2 ⟨rfl,lo,hi,rfl,h1,h2,by omega,h3,h4⟩) ?p2)
  case f2=>
   rintro c st' ⟨rfl,lo,hi,rfl,h1,h2,h3,h4,h5⟩
   obtain rfl:lo=hi:=by omega
   exact⟨rfl,lo,lo,rfl,h2,h4,h5⟩
  case s2=>
   rintro x c st' _ hx ⟨rfl,lo,hi,rfl,h1,h2,h3,h4,h5⟩
   dsimp only
   by_cases hge:lo ≥ hi
   ·rw[if_pos hge]
    obtain rfl:lo=hi:=by omega
    exact wpS_pure ⟨rfl,lo,lo,rfl,h2,h4,h5⟩
   ·rw[if_neg hge]
    refine wpS_bind (jZ hC hk hu ha (by omega) ?_)
    dsimp only
    cases e:bey g left key arr base (lo+(hi - lo) / 2) with
    | true=>
     rw[if_pos rfl]
     exact wpS_pure ⟨rfl,lo+(hi - lo) / 2+1,hi,rfl,by omega,by omega,by omega,fun i hi'=>hm i _ (by omega) (by omega) e,h5⟩
    | false=>
     rw[if_neg (by simp)]
     exact wpS_pure ⟨rfl,lo,lo+(hi - lo) / 2,rfl,by omega,by omega,by omega,h4,fun i h6 h7=>hm' _ i h6 h7 e⟩
  case p2=>
   rintro c st' ⟨rfl,lo,hi,rfl,h2,h4,h5⟩
   exact wpS_pure (h hi h2 h4 h5)
 rw[pH]
 refine wpS_bind (jZ hC hk hu ha (by omega) ?_)
 dsimp only
 cases e:bey g left key arr base hint with
 | true=>
  rw[if_pos rfl]
  refine wpS_bind (wpS_mono (wpS_forRange (I:=fun x c st'=>st'=st/\∃ la of,c=(none,la,of)/\x+1<=of/\la<of/\hint+la<n/\bey g left key arr base (hint+la)=true)
   (Q:=fun c st'=>st'=st/\∃ la of,c=(none,la,of)/\la<of/\hint+la<n/\bey g left key arr base (hint+la)=true/\(n - hint<=of∨bey g left key arr base (hint+of)=false)) ?s2 ?f2 ⟨rfl,0,1,rfl,by omega,by omega,by omega,e⟩) ?p2)
  case f2=>
   rintro c st' ⟨rfl,la,of,rfl,h1,h2,h3,h4⟩
   exact⟨rfl,la,of,rfl,h2,h3,h4,.inl (by omega)⟩
  case s2=>
   rintro x c st' _ hx ⟨rfl,la,of,rfl,h1,h2,h3,h4⟩
   dsimp only
   by_cases hge:of ≥ n - hint
   ·rw[if_pos hge]
    exact wpS_pure ⟨rfl,la,of,rfl,h2,h3,h4,.inl hge⟩
   ·rw[if_neg hge]
    refine wpS_bind (jZ hC hk hu ha (by omega) ?_)
    dsimp only
    cases e:bey g left key arr base (hint+of) with
    | false=>
     rw[if_pos (show(!false)=true from rfl)]
     exact wpS_pure ⟨rfl,la,of,rfl,h2,h3,h4,.inr e⟩
    | true=>
     rw[if_neg (by simp)]
     exact wpS_pure ⟨rfl,of,2*of+1,rfl,by omega,by omega,by omega,e⟩
  case p2=>
   rintro c st' ⟨rfl,la,of,rfl,h2,h3,h4,h5⟩
   refine last (hint+la+1) (hint+min of (n - hint)) (by omega) (by omega) (fun i hi=>hm i _ (by omega) h3 h4) (fun i h6 h7=>?_)
   rcases h5 with h5 | h5
   ·omega
   ·exact hm' _ i (by omega) h7 h5
 | false=>
  rw[if_neg (by simp)]
  refine wpS_bind (wpS_mono (wpS_forRange (I:=fun x c st'=>st'=st/\∃ la of,c=(none,la,of)/\x+1<=of/\la<of/\la<=hint/\bey g left key arr base (hint - la)=false)
   (Q:=fun c st'=>st'=st/\∃ la of,c=(none,la,of)/\la<of/\la<=hint/\bey g left key arr base (hint - la)=false/\(hint+1<=of∨(of<=hint/\bey g left key arr base (hint - of)=true))) ?s3 ?f3 ⟨rfl,0,1,rfl,by omega,by omega,by omega,e⟩) ?p3)
  case f3=>
   rintro c st' ⟨rfl,la,of,rfl,h1,h2,h3,h4⟩
   exact⟨rfl,la,of,rfl,h2,h3,h4,.inl (by omega)⟩
  case s3=>
   rintro x c st' _ hx ⟨rfl,la,of,rfl,h1,h2,h3,h4⟩
   dsimp only
   by_cases hge:of ≥ hint+1
   ·rw[if_pos hge]
    exact wpS_pure ⟨rfl,la,of,rfl,h2,h3,h4,.inl hge⟩
   ·rw[if_neg hge]
    refine wpS_bind (jZ hC hk hu ha (by omega) ?_)
    dsimp only
    cases e:bey g left key arr base (hint - of) with
    | true=>
     rw[if_pos rfl]
     exact wpS_pure ⟨rfl,la,of,rfl,h2,h3,h4,.inr ⟨by omega,e⟩⟩
    | false=>
     rw[if_neg (by simp)]
     exact wpS_pure ⟨rfl,of,2*of+1,rfl,by omega,by omega,by omega,e⟩
  case p3=>
   rintro c st' ⟨rfl,la,of,rfl,h2,h3,h4,h5⟩
   refine last (hint+1 - min of (hint+1)) (hint - la) (by omega) (by omega) (fun i hi=>?_) (fun i h6 h7=>hm' _ i h6 h7 h4)
   rcases h5 with h5 | ⟨h5,h6⟩
   ·omega
   ·exact hm i _ (by omega) (by omega) h6
noncomputable def gmP (n:Nat):StateT SortSt Sem Unit:=(sortPriv% PySem.Builtin.setMinGallop) n
noncomputable def rC:Array Keyed->Array Keyed->StateT SortSt Sem (Array Keyed):=sortPriv% PySem.Builtin.mergeLo
theorem pp (a b:Array Keyed):rC a b=(do
 (rule "list.sort.merge-lo")
 let tot:=a.size+b.size
 let mut out:Array Keyed:=#[<- elem' b 0]
 let mut ia:=0
 let mut ib:=1
 if ib == b.size then return (out++a.extract ia a.size++b.extract ib b.size)
 if ia+1 == a.size then return (out++b.extract ib b.size++a.extract ia a.size)
 let mut mg:=gallopOf (<- get)
 for _ in [0:tot] do
  let mut ac:=0
  let mut bc:=0
  for _ in [0:tot] do
   let some bw <- lt' (<- elem' b ib) (<- elem' a ia) | return (out++a.extract ia a.size++b.extract ib b.size)
   if bw then
    out:=out.push (<- elem' b ib); ib:=ib+1; bc:=bc+1; ac:=0
    if ib == b.size then return (out++a.extract ia a.size++b.extract ib b.size)
    if bc ≥ mg then break
   else
    out:=out.push (<- elem' a ia); ia:=ia+1; ac:=ac+1; bc:=0
    if ia+1 == a.size then return (out++b.extract ib b.size++a.extract ia a.size)
    if ac ≥ mg then break
  (rule "list.sort.gallop")
  mg:=mg+1
  for _ in [0:tot] do
   if mg > 1 then mg:=mg - 1
   gmP mg
   let some k <- ja false (<- elem' b ib) a ia (a.size - ia) 0 | return (out++a.extract ia a.size++b.extract ib b.size)
   ac:=k
   if k > 0 then
    out:=out++a.extract ia (ia+k); ia:=ia+k
    if ia+1 == a.size then return (out++b.extract ib b.size++a.extract ia a.size)
    if ia == a.size then return (out++a.extract ia a.size++b.extract ib b.size)
   out:=out.push (<- elem' b ib); ib:=ib+1
   if ib == b.size then return (out++a.extract ia a.size++b.extract ib b.size)
   let some k <- ja true (<- elem' a ia) b ib (b.size - ib) 0 | return (out++a.extract ia a.size++b.extract ib b.size)
   bc:=k
   if k > 0 then
    out:=out++b.extract ib (ib+k); ib:=ib+k
    if ib == b.size then return (out++a.extract ia a.size++b.extract ib b.size)
   out:=out.push (<- elem' a ia); ia:=ia+1
   if ia+1 == a.size then return (out++b.extract ib b.size++a.extract ia a.size)
   if ac<7 && bc<7 then break
  mg:=mg+1
  gmP mg
 unsupported "internal:list.sort.merge-bound"):=rfl
structure Sm (st st':SortSt):Prop where
 k:kindOf st'=kindOf st
 a:arrOf st'=arrOf st
 p:pendingOf st'=pendingOf st
 f:failedOf st'=failedOf st
theorem Sm.refl (st:SortSt):Sm st st:=⟨rfl,rfl,rfl,rfl⟩
theorem oy {st st0:SortSt}{n:Nat}{Q:Unit->SortSt->Prop} (h0:Sm st0 st) (h:∀ st',Sm st0 st'->Q () st'):wpS M A E s (gmP n) Q st :=
 wpS_modify (h _ ⟨h0.k,h0.a,h0.p,h0.f⟩)
noncomputable def Srt (g:Keyed->Int) (l:List Keyed):Prop:=l.Pairwise fun x y=>g x<g y
structure Mg (g:Keyed->Int) (T O A B:List Keyed):Prop where
 p:(O++(A++B)).Perm T
 a:Srt g (O++A)
 b:Srt g (O++B)
theorem Mg.pa {T O X A B:List Keyed} (h:Mg g T O (X++A) B) (hx:∀ x ∈ X,∀ y ∈ B,g x<g y):Mg g T (O++X) A B:=by
 refine⟨by rw[append_assoc,<- append_assoc X A B]; exact h.p,by rw[append_assoc]; exact h.a,?_⟩
 have h1:=h.a
 have h2:=h.b
 unfold Srt at h1 h2 ⊢
 rw[pairwise_append] at h1 h2
 rw[append_assoc,pairwise_append,pairwise_append]
 refine⟨h1.1,⟨(pairwise_append.mp h1.2.1).1,h2.2.1,hx⟩,fun x hx' y hy=>?_⟩
 rcases mem_append.mp hy with hy | hy
 ·exact h1.2.2 x hx' y (mem_append_left _ hy)
 ·exact h2.2.2 x hx' y hy
theorem Mg.pb {T O X A B:List Keyed} (h:Mg g T O A (X++B)) (hx:∀ x ∈ X,∀ y ∈ A,g x<g y):Mg g T (O++X) A B:=by
 have h1:=h.a
 have h2:=h.b
 refine⟨?_,?_,by rw[append_assoc]; exact h.b⟩
 ·refine List.Perm.trans ?_ h.p
  rw[append_assoc]
  refine List.Perm.append_left O ?_
  rw[<- append_assoc,<- append_assoc]
  exact List.perm_append_comm.append_right B
 ·unfold Srt at h1 h2 ⊢
  rw[pairwise_append] at h1 h2
  rw[append_assoc,pairwise_append,pairwise_append]
  refine⟨h1.1,⟨(pairwise_append.mp h2.2.1).1,h1.2.1,hx⟩,fun x hx' y hy=>?_⟩
  rcases mem_append.mp hy with hy | hy
  ·exact h2.2.2 x hx' y (mem_append_left _ hy)
  ·exact h1.2.2 x hx' y hy
noncomputable def dr (a:Array Keyed) (i:Nat):List Keyed:=a.toList.drop i
theorem bR {a:Array Keyed}{i:Nat} (h:i<a.size):∃ p,a[i]?=some p/\dr a i=p::dr a (i+1):=by
 refine⟨a[i],getElem?_pos a i h,?_⟩
 unfold dr
 rw[List.drop_eq_getElem_cons (by rw[Array.length_toList]; exact h)]
 rfl
theorem rV (a:Array Keyed) (i:Nat):(dr a i).length=a.size - i:=by unfold dr; rw[List.length_drop,Array.length_toList]
theorem ij {a:Array Keyed}{i:Nat} (h:i=a.size):dr a i=[]:=by unfold dr; rw[h,<- Array.length_toList,List.drop_length]
theorem jQ {a:Array Keyed}{i:Nat}{p:Keyed} (h:p ∈ dr a i):∃ j,i<=j/\j<a.size/\a[j]?=some p:=by
 obtain⟨k,hk⟩:=List.getElem?_of_mem h
 unfold dr at hk
 rw[List.getElem?_drop] at hk
 rw[Array.getElem?_toList] at hk
 refine⟨i+k,by omega,?_,hk⟩
 by_cases h:i+k<a.size
 ·exact h
 ·rw[Array.getElem?_eq_none (by omega)] at hk; cases hk
theorem bL (a:Array Keyed) (i j:Nat):(a.extract i j).toList=(dr a i).take (j - i):=by
 unfold dr
 rw[Array.toList_extract,List.extract_eq_take_drop]
theorem dF (a:Array Keyed) (i:Nat):(a.extract i a.size).toList=dr a i:=by
 rw[bL,List.take_of_length_le (by rw[rV]; omega)]
theorem ji (a:Array Keyed) (i k:Nat):dr a i=(dr a i).take k++dr a (i+k):=by
 unfold dr
 rw[<- List.drop_drop,List.take_append_drop]
theorem cu {a:Array Keyed}{i:Nat}{p:Keyed} (h:a[i]?=some p):G g a i=g p:=by unfold G; rw[h]; rfl
noncomputable def Gd (g:Keyed->Int) (T:List Keyed) (R:Array Keyed):Prop:=R.toList.Perm T/\Srt g R.toList
theorem Mg.doneB {T:List Keyed}{out a b:Array Keyed}{ia ib:Nat} (h:Mg g T out.toList (dr a ia) (dr b ib)) (e:ib=b.size):Gd g T (out++a.extract ia a.size++b.extract ib b.size):=by
 unfold Gd
 rw[Array.toList_append,Array.toList_append,dF,dF,ij e,append_nil]
 have h1:=h.p
 rw[ij e,append_nil] at h1
 exact⟨h1,h.a⟩
theorem Mg.doneA {T:List Keyed}{out a b:Array Keyed}{ia ib:Nat} (h:Mg g T out.toList (dr a ia) (dr b ib)) (e:ia=a.size):Gd g T (out++a.extract ia a.size++b.extract ib b.size):=by
 unfold Gd
 rw[Array.toList_append,Array.toList_append,dF,dF,ij e,append_nil]
 have h1:=h.p
 rw[ij e,List.nil_append] at h1
 exact⟨h1,h.b⟩
theorem Mg.last {T:List Keyed}{out a b:Array Keyed}{ia ib:Nat} (h:Mg g T out.toList (dr a ia) (dr b ib)) (e:ia+1=a.size) (hl:∀ p ∈ dr a (a.size - 1),∀ q ∈ b.toList,g q<g p):Gd g T (out++b.extract ib b.size++a.extract ia a.size):=by
 unfold Gd
 rw[Array.toList_append,Array.toList_append,dF,dF,append_assoc]
 refine⟨(List.Perm.append_left _ List.perm_append_comm).trans h.p,?_⟩
 have h1:=h.a
 have h2:=h.b
 unfold Srt at h1 h2 ⊢
 rw[pairwise_append] at h1 h2
 rw[pairwise_append,pairwise_append]
 refine⟨h1.1,⟨h2.2.1,h1.2.1,fun x hx y hy=>hl y (by rw[<- e,Nat.add_sub_cancel]; exact hy) x (List.mem_of_mem_drop hx)⟩,fun x hx y hy=>?_⟩
 rcases mem_append.mp hy with hy | hy
 ·exact h2.2.2 x hx y hy
 ·exact h1.2.2 x hx y hy
theorem dz {a:Array Keyed} (h:Asc g a 0 a.size):Srt g a.toList:=by
 unfold Srt
 rw[List.pairwise_iff_getElem]
 intro i j hi hj hij
 rw[Array.length_toList] at hi hj
 have:=h i j (Nat.zero_le _) hij hj
 unfold G at this
 rw[getElem?_pos a i hi,getElem?_pos a j hj] at this
 simpa using this
theorem sn {a:Array Keyed} (h:Srt g a.toList):Asc g a 0 a.size:=by
 unfold Srt at h
 rw[List.pairwise_iff_getElem] at h
 intro i j _ hij hj
 have:=h i j (by rw[Array.length_toList]; omega) (by rw[Array.length_toList]; omega) hij
 unfold G
 rw[getElem?_pos a i (by omega),getElem?_pos a j hj]
 simpa using this
theorem Mg.nes {T O A B:List Keyed} (hd:(T.map g).Nodup) (h:Mg g T O A B) {a b:Keyed} (ha:a ∈ A) (hb:b ∈ B):g a≠g b:=by
 have h1:=((h.p.map g).nodup_iff).mpr hd
 rw[map_append,map_append] at h1
 have h2:=(List.nodup_append.mp h1).2.1
 exact(List.nodup_append.mp h2).2.2 (g a) (mem_map_of_mem ha) (g b) (mem_map_of_mem hb)
theorem kO {a:Array Keyed} (h:Asc g a 0 a.size) {i:Nat}{p:Keyed} (e:a[i]?=some p) {q:Keyed} (hq:q ∈ dr a i):g p<=g q:=by
 obtain⟨j,h1,h2,h3⟩:=jQ hq
 rw[<- cu (g:=g) e,<- cu (g:=g) h3]
 by_cases e:i=j
 ·subst e; exact Int.le_refl _
 ·exact Int.le_of_lt (h i j (Nat.zero_le _) (by omega) h2)
theorem c5 {a:Array Keyed}{i k:Nat}{p:Keyed} (h:p ∈ (dr a i).take k):∃ j,j<k/\i+j<a.size/\a[i+j]?=some p:=by
 obtain⟨n,hn⟩:=List.getElem?_of_mem h
 rw[List.getElem?_take] at hn
 split at hn
 ·unfold dr at hn
  rw[List.getElem?_drop,Array.getElem?_toList] at hn
  refine⟨n,by assumption,?_,hn⟩
  by_cases h:i+n<a.size
  ·exact h
  ·rw[Array.getElem?_eq_none (by omega)] at hn; cases hn
 ·cases hn
structure MI (g:Keyed->Int) (T:List Keyed) (a b out:Array Keyed) (ia ib:Nat):Prop where
 m:Mg g T out.toList (dr a ia) (dr b ib)
 ha:ia+1<a.size
 hb:ib<b.size
theorem Mg.push_b {T:List Keyed}{a b out:Array Keyed}{ia ib:Nat}{p q:Keyed} (h:Mg g T out.toList (dr a ia) (dr b ib)) (ha:Asc g a 0 a.size) (e1:a[ia]?=some p) (e2:b[ib]?=some q) (hlt:g q<g p):Mg g T (out.push q).toList (dr a ia) (dr b (ib+1)):=by
 obtain⟨q',e3,e4⟩:=bR (a:=b) (i:=ib) (by by_cases h:ib<b.size; exact h; rw[Array.getElem?_eq_none (by omega)] at e2; cases e2)
 rw[e2] at e3
 cases e3
 rw[e4] at h
 rw[Array.toList_push]
 exact h.pb (X:=[q]) fun x hx y hy=>by cases mem_singleton.mp hx; exact Int.lt_of_lt_of_le hlt (kO ha e1 hy)
theorem Mg.push_a {T:List Keyed}{a b out:Array Keyed}{ia ib:Nat}{p q:Keyed} (h:Mg g T out.toList (dr a ia) (dr b ib)) (hb:Asc g b 0 b.size) (e1:a[ia]?=some p) (e2:b[ib]?=some q) (hlt:g p<g q):Mg g T (out.push p).toList (dr a (ia+1)) (dr b ib):=by
 obtain⟨q',e3,e4⟩:=bR (a:=a) (i:=ia) (by by_cases h:ia<a.size; exact h; rw[Array.getElem?_eq_none (by omega)] at e1; cases e1)
 rw[e1] at e3
 cases e3
 rw[e4] at h
 rw[Array.toList_push]
 exact h.pa (X:=[p]) fun x hx y hy=>by cases mem_singleton.mp hx; exact Int.lt_of_lt_of_le hlt (kO hb e2 hy)
theorem Mg.bulk_a {T:List Keyed} (hd:(T.map g).Nodup) {a b out:Array Keyed}{ia ib k:Nat}{q:Keyed} (h:Mg g T out.toList (dr a ia) (dr b ib)) (hb:Asc g b 0 b.size) (e2:b[ib]?=some q)
  (hk:∀ i,i<k->bey g false q a ia i=true):Mg g T (out++a.extract ia (ia+k)).toList (dr a (ia+k)) (dr b ib):=by
 rw[Array.toList_append,bL,Nat.add_sub_cancel_left]
 have h':=h
 rw[ji a ia k] at h'
 refine h'.pa fun x hx y hy=>?_
 obtain⟨j,hj,hj2,e⟩:=c5 hx
 have h3:=hk j hj
 unfold bey at h3
 rw[cu e] at h3
 simp at h3
 have hq:q ∈ dr b ib:=by
  obtain⟨q',e3,e4⟩:=bR (a:=b) (i:=ib) (by by_cases h:ib<b.size; exact h; rw[Array.getElem?_eq_none (by omega)] at e2; cases e2)
  rw[e2] at e3
  cases e3
  rw[e4]
  exact mem_cons_self
 have h4:=h.nes hd (List.mem_of_mem_take hx) hq
 have h5:=kO hb e2 hy
 omega
theorem Mg.bulk_b {T:List Keyed}{a b out:Array Keyed}{ia ib k:Nat}{p:Keyed} (h:Mg g T out.toList (dr a ia) (dr b ib)) (ha:Asc g a 0 a.size) (e1:a[ia]?=some p)
  (hk:∀ i,i<k->bey g true p b ib i=true):Mg g T (out++b.extract ib (ib+k)).toList (dr a ia) (dr b (ib+k)):=by
 rw[Array.toList_append,bL,Nat.add_sub_cancel_left]
 have h':=h
 rw[ji b ib k] at h'
 refine h'.pb fun x hx y hy=>?_
 obtain⟨j,hj,hj2,e⟩:=c5 hx
 have h3:=hk j hj
 unfold bey at h3
 rw[cu e] at h3
 simp at h3
 have h5:=kO ha e1 hy
 omega
theorem d3 {left:Bool}{key:Keyed}{arr:Array Keyed}{base n:Nat} (h:Asc g arr 0 arr.size) (hz:base+n<=arr.size):∀ i j,i<=j->j<n->bey g left key arr base j=true->bey g left key arr base i=true:=by
 intro i j hij hj hb
 have:G g arr (base+i)<=G g arr (base+j):=by
  by_cases e:i=j
  ·subst e; exact Int.le_refl _
  ·exact Int.le_of_lt (h _ _ (Nat.zero_le _) (by omega) (by omega))
 unfold bey at hb ⊢
 cases left with
 | true=>simp at hb ⊢; omega
 | false=>simp at hb ⊢; omega
theorem su {α:Type}{c:Prop} [Decidable c] {m1 m2:StateT SortSt Sem α}{Q:α->SortSt->Prop}{st:SortSt} (h1:wpS M A E s m1 Q st) (h2:wpS M A E s m2 Q st):wpS M A E s (if c then m1 else m2) Q st:=by
 split
 ·exact h1
 ·exact h2
theorem jY {α:Type}{c:Prop} [Decidable c] {m1 m2 m3:StateT SortSt Sem α}{Q:α->SortSt->Prop}{st:SortSt} (h1:c->m1=m3) (h2:¬ c->m2=m3) (h:wpS M A E s m3 Q st):wpS M A E s (if c then m1 else m2) Q st:=by
 split
 ·rename_i x; rw[h1 x]; exact h
 ·rename_i x; rw[h2 x]; exact h
theorem qb {α:Type}{c:Prop} [Decidable c] {F:Nat->StateT SortSt Sem α}{Q:α->SortSt->Prop}{st:SortSt} (y:Nat) (h:∀ n,wpS M A E s (F n) Q st):∀ x,wpS M A E s (if c then F x else F y) Q st:=by
 intro x
 split
 ·exact h x
 ·exact h y
theorem om9 {x y:Int} (h:x<=y) (n:x≠y):x<y:=by omega
theorem om5 {n t k:Nat} (e:n - t=k) (h:¬ k > 0) (l:t<=n):n=t:=by omega
theorem om6 {t:Nat} (h:¬ t=1) (h':¬ t=0):2<=t:=by omega
theorem om7 {n:Nat} (h:2<=n) (h':¬ n - 1=1):2<=n - 1:=by omega
theorem om8 {n m t u y r:Nat} (h:n+m+y<=r) (l:t<=n) (l2:u<=m - 1) (t1:1<=t) (m2:2<=m):t - 1+u+(y+1)<=r:=by omega
theorem om1 {A B i j i2 j2 k k2 y r:Nat} (h:A - i+(B - j)+y<=r) (e:i+k=i2) (e2:j+1+k2=j2) (l:i2<A) (l2:j<B):A - (i2+1)+(B - j2)+(y+1)<=r:=by omega
theorem om2 {A i i2 k:Nat} (h:k<=A - i) (e:i+k=i2) (n1:¬ i2+1=A) (n2:¬ i2=A) (l:i+1<A):i2+1<A:=by omega
theorem om3 {A i i2 k:Nat} (e:i+k=i2) (l:i2<A):k<A - i:=by omega
theorem om4 {A i i2 k:Nat} (h:k<=A - (i+1)) (e:i+1+k=i2) (n1:¬ i2=A) (l:i<A):i2<A:=by omega
theorem w_mlo (hC:Cmp M A s κ g U) {st st0:SortSt}{a b:Array Keyed}{T:List Keyed}{Q:Array Keyed->SortSt->Prop} (h0:Sm st0 st) (hk:kindOf st0=κ) (ua:All U a) (ub:All U b) (hd:(T.map g).Nodup) (hT:(a.toList++b.toList).Perm T)
  (sa:Asc g a 0 a.size) (sb:Asc g b 0 b.size) (ha:1<=a.size) (hb:1<=b.size) (h1:G g b 0<G g a 0) (hl:∀ p ∈ dr a (a.size - 1),∀ q ∈ b.toList,g q<g p)
  (h:∀ R st',Sm st0 st'->Gd g T R->Q R st'):wpS M A E s (rC a b) Q st:=by
 rw[pp]
 refine wpS_bind (wpS_lift (wpAny_rule ⟨rfl,?_⟩))
 obtain⟨b0,eb0,_⟩:=bR (a:=b) (i:=0) (by omega)
 obtain⟨a0,ea0,_⟩:=bR (a:=a) (i:=0) (by omega)
 refine wpS_bind (bi eb0 ?_)
 dsimp only
 have m0:Mg g T (#[]:Array Keyed).toList (dr a 0) (dr b 0):=⟨hT,dz sa,dz sb⟩
 have m1:Mg g T (#[b0]:Array Keyed).toList (dr a 0) (dr b 1):=m0.push_b sa ea0 eb0 (by rw[<- cu (g:=g) eb0,<- cu (g:=g) ea0]; exact h1)
 by_cases c1:1=b.size
 ·rw[if_pos (by simpa using c1)]
  exact wpS_pure (h _ _ h0 (m1.doneB c1))
 rw[if_neg (by simpa using c1)]
 by_cases c2:0+1=a.size
 ·rw[if_pos (by simpa using c2)]
  exact wpS_pure (h _ _ h0 (m1.last c2 hl))
 rw[if_neg (by simpa using c2)]
 refine wpS_bind (wpS_get ?_)
 refine wpS_bind (wpS_mono (wpS_forRange (I:=fun x c st'=>Sm st0 st'/\∃ out ia ib mg,c=(none,out,ia,ib,mg)/\MI g T a b out ia ib/\(a.size - ia)+(b.size - ib)+x<=a.size+b.size)
  (Q:=fun c st'=>Sm st0 st'/\∃ R r,c=(some R,r)/\Gd g T R) ?so ?fo ⟨h0,_,0,1,_,rfl,⟨m1,by omega,by omega⟩,by omega⟩) ?po)
 case fo=>
  rintro c st' ⟨_,out,ia,ib,mg,_,hi,hm⟩
  have:=hi.ha
  exfalso
  omega
 case po=>
  rintro c st' ⟨hs,R,r,rfl,hg⟩
  exact wpS_pure (h _ _ hs hg)
 case so=>
  rintro x c st1 _ hx ⟨hs1,out,ia,ib,mg,rfl,hi,hm⟩
  dsimp only
  obtain⟨r0,er0⟩:∃ r0,(a.size - ia)+(b.size - ib)=r0:=⟨_,rfl⟩
  rw[er0] at hm
  refine wpS_bind (wpS_mono (wpS_forRange (I:=fun y c st'=>Sm st0 st'/\∃ out ia ib ac bc,c=(none,out,ia,ib,ac,bc)/\MI g T a b out ia ib/\(a.size - ia)+(b.size - ib)+y<=r0)
   (Q:=fun c st'=>Sm st0 st'/\((∃ R r,c=(some R,r)/\Gd g T R)∨∃ out ia ib ac bc,c=(none,out,ia,ib,ac,bc)/\MI g T a b out ia ib/\(a.size - ia)+(b.size - ib)+1<=r0)) ?s1 ?f1 ⟨hs1,_,ia,ib,_,_,rfl,hi,by omega⟩) ?p1)
  case f1=>
   rintro c st' ⟨_,out,ia,ib,ac,bc,_,hi,hm⟩
   have:=hi.ha
   exfalso
   omega
  case s1=>
   rintro y c st2 _ hy ⟨hs2,out,ia,ib,ac,bc,rfl,hi,hm2⟩
   dsimp only
   have i1:=hi.ha
   have i2:=hi.hb
   obtain⟨q,eq,_⟩:=bR (a:=b) (i:=ib) (by omega)
   obtain⟨p,ep,epd⟩:=bR (a:=a) (i:=ia) (by omega)
   refine wpS_bind (bi eq (wpS_bind (bi ep (wpS_bind (w_lt hC (hs2.k.trans hk) (ub _ _ eq) (ua _ _ ep) ?_)))))
   dsimp only
   by_cases hlt:g q<g p
   ·rw[if_pos (decide_eq_true hlt)]
    refine wpS_bind (bi eq ?_)
    have m2:=hi.m.push_b sa ep eq hlt
    by_cases c:ib+1=b.size
    ·rw[if_pos (by simpa using c)]
     exact wpS_pure ⟨hs2,.inl ⟨_,_,rfl,m2.doneB c⟩⟩
    ·rw[if_neg (by simpa using c)]
     split
     ·exact wpS_pure ⟨hs2,.inr ⟨_,_,_,_,_,rfl,⟨m2,i1,by omega⟩,by omega⟩⟩
     ·exact wpS_pure ⟨hs2,_,_,_,_,_,rfl,⟨m2,i1,by omega⟩,by omega⟩
   ·rw[if_neg (by simpa using hlt)]
    refine wpS_bind (bi ep ?_)
    have hne:=hi.m.nes hd (a:=p) (b:=q) (by rw[epd]; exact mem_cons_self) (by obtain⟨q',e3,e4⟩:=bR (a:=b) (i:=ib) (by omega); rw[eq] at e3; cases e3; rw[e4]; exact mem_cons_self)
    have m2:=hi.m.push_a sb ep eq (by omega)
    by_cases c:ia+1+1=a.size
    ·rw[if_pos (by simpa using c)]
     exact wpS_pure ⟨hs2,.inl ⟨_,_,rfl,m2.last c hl⟩⟩
    ·rw[if_neg (by simpa using c)]
     split
     ·exact wpS_pure ⟨hs2,.inr ⟨_,_,_,_,_,rfl,⟨m2,by omega,i2⟩,by omega⟩⟩
     ·exact wpS_pure ⟨hs2,_,_,_,_,_,rfl,⟨m2,by omega,i2⟩,by omega⟩
  case p1=>
   rintro c st2 ⟨hs2,⟨R,r,rfl,hg⟩ | ⟨out,ia,ib,ac,bc,rfl,hi,hm2⟩⟩
   ·exact wpS_pure ⟨hs2,_,_,rfl,hg⟩
   dsimp only
   refine wpS_bind (wpS_lift (wpAny_rule ⟨rfl,?_⟩))
   obtain⟨r1,er1⟩:∃ r1,(a.size - ia)+(b.size - ib)=r1:=⟨_,rfl⟩
   rw[er1] at hm2
   refine wpS_bind (wpS_mono (wpS_forRange (I:=fun y c st'=>Sm st0 st'/\∃ out ia ib mg ac bc,c=(none,out,ia,ib,mg,ac,bc)/\MI g T a b out ia ib/\(a.size - ia)+(b.size - ib)+y<=r1)
    (Q:=fun c st'=>Sm st0 st'/\((∃ R r,c=(some R,r)/\Gd g T R)∨∃ out ia ib mg ac bc,c=(none,out,ia,ib,mg,ac,bc)/\MI g T a b out ia ib/\(a.size - ia)+(b.size - ib)<=r1)) ?s2 ?f2 ⟨hs2,_,ia,ib,_,_,_,rfl,hi,by omega⟩) ?p2)
   case f2=>
    rintro c st' ⟨_,out,ia,ib,mg,ac,bc,_,hi,hm⟩
    have:=hi.ha
    exfalso
    omega
   case p2=>
    rintro c st3 ⟨hs3,⟨R,r,rfl,hg⟩ | ⟨out,ia,ib,mg,ac,bc,rfl,hi,hm3⟩⟩
    ·exact wpS_pure ⟨hs3,_,_,rfl,hg⟩
    dsimp only
    exact wpS_bind (oy hs3 fun st4 hs4=>wpS_pure ⟨hs4,_,_,_,_,rfl,hi,by omega⟩)
   case s2=>
    rintro y c st3 _ hy ⟨hs3,out,ia,ib,mg,ac,bc,rfl,hi,hm3⟩
    dsimp only
    have i1:=hi.ha
    have i2:=hi.hb
    obtain⟨q,eq,eqd⟩:=bR (a:=b) (i:=ib) (by omega)
    have hq:q ∈ dr b ib:=by rw[eqd]; exact mem_cons_self
    generalize mg - 1=mg1
    revert mg1
    refine qb (c:=mg > 1) mg fun n=>?_
    refine wpS_bind (oy hs3 fun st4 hs4=>?_)
    refine wpS_bind (bi eq (wpS_bind (f7 hC (hs4.k.trans hk) (ub _ _ eq) ua (by omega) (by omega) (d3 sa (by omega)) fun k hk1 hk2 hk3=>?_)))
    dsimp only
    have m2:=hi.m.bulk_a hd sb eq hk2
    obtain⟨o2,eo2⟩:∃ o2,out++a.extract ia (ia+k)=o2:=⟨_,rfl⟩
    obtain⟨ia2,eia2⟩:∃ ia2,ia+k=ia2:=⟨_,rfl⟩
    have ek:k=0->out=o2/\ia=ia2:=fun e=>by
     subst e
     refine⟨?_,eia2⟩
     rw[<- eo2]
     apply Array.toList_inj.mp
     rw[Array.toList_append,bL,Nat.add_zero,Nat.sub_self,List.take_zero,append_nil]
    rw[eia2] at m2 eo2
    rw[eo2] at m2
    by_cases cx:k > 0/\ia2+1=a.size
    ·rw[if_pos cx.1,eia2,eo2,if_pos (by simpa using cx.2)]
     exact wpS_pure ⟨hs4,.inl ⟨_,_,rfl,m2.last cx.2 hl⟩⟩
    by_cases cy:k > 0/\ia2=a.size
    ·rw[if_pos cy.1,eia2,eo2,if_neg (by simpa using fun e=>cx ⟨cy.1,e⟩),if_pos (by simpa using cy.2)]
     exact wpS_pure ⟨hs4,.inl ⟨_,_,rfl,m2.doneA cy.2⟩⟩
    have c:ia2+1<a.size:=by
     by_cases ck:k > 0
     ·exact om2 hk1 eia2 (fun e=>cx ⟨ck,e⟩) (fun e=>cy ⟨ck,e⟩) i1
     ·rw[<- (ek (Nat.eq_zero_of_not_pos ck)).2]; exact i1
    apply jY
    ·intro ck
     rw[eia2,eo2,if_neg (by simpa using fun e=>cx ⟨ck,e⟩),if_neg (by simpa using fun e=>cy ⟨ck,e⟩)]
    ·intro ck
     obtain⟨e7,e8⟩:=ek (Nat.eq_zero_of_not_pos ck)
     rw[e7,e8]
    clear cx cy ek
    have c0:ia2<a.size:=Nat.lt_of_succ_lt c
    have hka:g q<g (a[ia2]'c0):=by
     have h3:=hk3 k (Nat.le_refl _) (om3 eia2 c0)
     unfold bey at h3
     rw[eia2,cu (getElem?_pos a ia2 c0)] at h3
     simpa using h3
    obtain⟨p,ep,epd⟩:=bR (a:=a) (i:=ia2) c0
    rw[getElem?_pos a ia2 c0] at ep
    have epp:=Option.some.inj ep
    rw[epp] at hka
    rw[<- getElem?_pos a ia2 c0] at ep
    refine wpS_bind (bi eq ?_)
    have m3:=m2.push_b sa ep eq hka
    by_cases c1:ib+1=b.size
    ·rw[if_pos (by simpa using c1)]
     exact wpS_pure ⟨hs4,.inl ⟨_,_,rfl,m3.doneB c1⟩⟩
    rw[if_neg (by simpa using c1)]
    refine wpS_bind (bi ep (wpS_bind (f7 hC (hs4.k.trans hk) (ua _ _ ep) ub (by omega) (by omega) (d3 sb (by omega)) fun k2 hj1 hj2 hj3=>?_)))
    dsimp only
    have m4:=m3.bulk_b sa ep hj2
    obtain⟨o3,eo3⟩:∃ o3,o2.push q++b.extract (ib+1) (ib+1+k2)=o3:=⟨_,rfl⟩
    obtain⟨ib2,eib2⟩:∃ ib2,ib+1+k2=ib2:=⟨_,rfl⟩
    have ek2:k2=0->o2.push q=o3/\ib+1=ib2:=fun e=>by
     subst e
     refine⟨?_,eib2⟩
     rw[<- eo3]
     apply Array.toList_inj.mp
     rw[Array.toList_append,bL,Nat.add_zero,Nat.sub_self,List.take_zero,append_nil]
    rw[eib2] at m4 eo3
    rw[eo3] at m4
    by_cases c2:k2 > 0/\ib2=b.size
    ·rw[if_pos c2.1,eib2,eo3,if_pos (by simpa using c2.2)]
     exact wpS_pure ⟨hs4,.inl ⟨_,_,rfl,m4.doneB c2.2⟩⟩
    have hb2:ib2<b.size:=by
     by_cases ck:k2 > 0
     ·exact om4 hj1 eib2 (fun e=>c2 ⟨ck,e⟩) i2
     ·rw[<- (ek2 (Nat.eq_zero_of_not_pos ck)).2]; exact Nat.lt_of_le_of_ne i2 c1
    apply jY
    ·intro ck2
     rw[eib2,eo3,if_neg (by simpa using fun e=>c2 ⟨ck2,e⟩)]
    ·intro ck2
     obtain⟨e5,e6⟩:=ek2 (Nat.eq_zero_of_not_pos ck2)
     rw[e5,e6]
    clear c2 ek2
    have nx:Mg g T (o3.push p).toList (dr a (ia2+1)) (dr b ib2):=by
     obtain⟨q2,eq2,eqd2⟩:=bR (a:=b) (i:=ib2) hb2
     have h3:=hj3 k2 (Nat.le_refl _) (om3 eib2 hb2)
     unfold bey at h3
     rw[eib2,cu eq2] at h3
     have hne:=m4.nes hd (a:=p) (b:=q2) (by rw[epd]; exact mem_cons_self) (by rw[eqd2]; exact mem_cons_self)
     simp at h3
     exact m4.push_a sb ep eq2 (om9 h3 hne)
    refine wpS_bind (bi ep ?_)
    by_cases c3:ia2+1+1=a.size
    ·rw[if_pos (by simpa using c3)]
     exact wpS_pure ⟨hs4,.inl ⟨_,_,rfl,nx.last c3 hl⟩⟩
    rw[if_neg (by simpa using c3)]
    have l3:ia2+1+1<a.size:=Nat.lt_of_le_of_ne c c3
    by_cases c4:(decide (k<7) && decide (k2<7))=true
    ·rw[if_pos c4]
     exact wpS_pure ⟨hs4,.inr ⟨_,_,_,_,_,_,rfl,⟨nx,l3,hb2⟩,Nat.le_trans (Nat.le_add_right _ _) (om1 hm3 eia2 eib2 c0 i2)⟩⟩
    ·rw[if_neg c4]
     exact wpS_pure ⟨hs4,_,_,_,_,_,_,rfl,⟨nx,l3,hb2⟩,om1 hm3 eia2 eib2 c0 i2⟩
noncomputable def rD:Array Keyed->Array Keyed->StateT SortSt Sem (Array Keyed):=sortPriv% PySem.Builtin.mergeHi
theorem pq (a b:Array Keyed):rD a b=(do
 (rule "list.sort.merge-hi")
 let tot:=a.size+b.size
 let mut na:=a.size - 1
 let mut nb:=b.size
 let mut out:Array Keyed:=#[<- elem' a na]
 if na == 0 then return (a.extract 0 na++b.extract 0 nb++out.reverse)
 if nb == 1 then return (b.extract 0 nb++a.extract 0 na++out.reverse)
 let mut mg:=gallopOf (<- get)
 for _ in [0:tot] do
  let mut ac:=0
  let mut bc:=0
  for _ in [0:tot] do
   let some aw <- lt' (<- elem' b (nb - 1)) (<- elem' a (na - 1)) | return (a.extract 0 na++b.extract 0 nb++out.reverse)
   if aw then
    na:=na - 1; out:=out.push (<- elem' a na); ac:=ac+1; bc:=0
    if na == 0 then return (a.extract 0 na++b.extract 0 nb++out.reverse)
    if ac ≥ mg then break
   else
    nb:=nb - 1; out:=out.push (<- elem' b nb); bc:=bc+1; ac:=0
    if nb == 1 then return (b.extract 0 nb++a.extract 0 na++out.reverse)
    if bc ≥ mg then break
  (rule "list.sort.gallop")
  mg:=mg+1
  for _ in [0:tot] do
   if mg > 1 then mg:=mg - 1
   gmP mg
   let some t1 <- ja false (<- elem' b (nb - 1)) a 0 na (na - 1) | return (a.extract 0 na++b.extract 0 nb++out.reverse)
   let k:=na - t1
   ac:=k
   if k > 0 then
    out:=out++(a.extract t1 na).reverse; na:=t1
    if na == 0 then return (a.extract 0 na++b.extract 0 nb++out.reverse)
   nb:=nb - 1; out:=out.push (<- elem' b nb)
   if nb == 1 then return (b.extract 0 nb++a.extract 0 na++out.reverse)
   let some t2 <- ja true (<- elem' a (na - 1)) b 0 nb (nb - 1) | return (a.extract 0 na++b.extract 0 nb++out.reverse)
   let k:=nb - t2
   bc:=k
   if k > 0 then
    out:=out++(b.extract t2 nb).reverse; nb:=t2
    if nb == 1 then return (b.extract 0 nb++a.extract 0 na++out.reverse)
    if nb == 0 then return (a.extract 0 na++b.extract 0 nb++out.reverse)
   na:=na - 1; out:=out.push (<- elem' a na)
   if na == 0 then return (a.extract 0 na++b.extract 0 nb++out.reverse)
   if ac<7 && bc<7 then break
  mg:=mg+1
  gmP mg
 unsupported "internal:list.sort.merge-bound"):=rfl
structure Mh (g:Keyed->Int) (T A B O:List Keyed):Prop where
 p:((A++B)++O).Perm T
 a:Srt g (A++O)
 b:Srt g (B++O)
theorem Mh.pa {T A X B O:List Keyed} (h:Mh g T (A++X) B O) (hx:∀ x ∈ X,∀ y ∈ B,g y<g x):Mh g T A B (X++O):=by
 have h1:=h.a
 have h2:=h.b
 refine⟨?_,by rw[<- append_assoc]; exact h.a,?_⟩
 ·refine List.Perm.trans ?_ h.p
  rw[<- append_assoc]
  refine List.Perm.append_right O ?_
  rw[append_assoc,append_assoc]
  exact List.Perm.append_left A List.perm_append_comm
 ·unfold Srt at h1 h2 ⊢
  rw[pairwise_append] at h1 h2
  rw[pairwise_append,pairwise_append]
  have h3:=pairwise_append.mp h1.1
  refine⟨h2.1,⟨h3.2.1,h1.2.1,fun x hx' y hy=>h1.2.2 x (mem_append_right _ hx') y hy⟩,fun y hy x hx'=>?_⟩
  rcases mem_append.mp hx' with hx' | hx'
  ·exact hx x hx' y hy
  ·exact h2.2.2 y hy x hx'
theorem Mh.pb {T A X B O:List Keyed} (h:Mh g T A (B++X) O) (hx:∀ x ∈ X,∀ y ∈ A,g y<g x):Mh g T A B (X++O):=by
 have h1:=h.a
 have h2:=h.b
 refine⟨?_,?_,by rw[<- append_assoc]; exact h.b⟩
 ·refine List.Perm.trans ?_ h.p
  rw[<- append_assoc,<- append_assoc]
 ·unfold Srt at h1 h2 ⊢
  rw[pairwise_append] at h1 h2
  rw[pairwise_append,pairwise_append]
  have h3:=pairwise_append.mp h2.1
  refine⟨h1.1,⟨h3.2.1,h2.2.1,fun x hx' y hy=>h2.2.2 x (mem_append_right _ hx') y hy⟩,fun y hy x hx'=>?_⟩
  rcases mem_append.mp hx' with hx' | hx'
  ·exact hx x hx' y hy
  ·exact h1.2.2 y hy x hx'
theorem Mh.nes {T A B O:List Keyed} (hd:(T.map g).Nodup) (h:Mh g T A B O) {a b:Keyed} (ha:a ∈ A) (hb:b ∈ B):g a≠g b:=by
 have h1:=((h.p.map g).nodup_iff).mpr hd
 rw[map_append,map_append] at h1
 have h2:=(List.nodup_append.mp h1).1
 exact(List.nodup_append.mp h2).2.2 (g a) (mem_map_of_mem ha) (g b) (mem_map_of_mem hb)
noncomputable def tk (a:Array Keyed) (n:Nat):List Keyed:=a.toList.take n
theorem bW {a:Array Keyed}{n:Nat} (h1:1<=n) (h:n<=a.size):∃ p,a[n - 1]?=some p/\tk a n=tk a (n - 1)++[p]:=by
 refine⟨a[n - 1],getElem?_pos a (n - 1) (by omega),?_⟩
 unfold tk
 obtain⟨m,rfl⟩:∃ m,n=m+1:=⟨n - 1,by omega⟩
 simp only[Nat.add_sub_cancel]
 rw[List.take_succ,Array.getElem?_toList,getElem?_pos a m (by omega)]
 rfl
theorem jA {a:Array Keyed}{n:Nat}{p:Keyed} (h:p ∈ tk a n):∃ j,j<n/\j<a.size/\a[j]?=some p:=by
 obtain⟨k,hk⟩:=List.getElem?_of_mem h
 unfold tk at hk
 rw[List.getElem?_take] at hk
 split at hk
 ·rw[Array.getElem?_toList] at hk
  refine⟨k,by assumption,?_,hk⟩
  by_cases h:k<a.size
  ·exact h
  ·rw[Array.getElem?_eq_none (by omega)] at hk; cases hk
 ·cases hk
theorem fR (a:Array Keyed) (n:Nat):(a.extract 0 n).toList=tk a n:=by
 rw[bL]; unfold dr tk; rw[List.drop_zero,Nat.sub_zero]
theorem iE {a:Array Keyed}{i n:Nat} (h:i<=n):tk a n=tk a i++(a.extract i n).toList:=by
 rw[bL]
 unfold tk dr
 rw[<- List.drop_take]
 conv=>lhs; rw[<- List.take_append_drop i (a.toList.take n)]
 rw[List.take_take,Nat.min_eq_left h]
theorem j5 {a:Array Keyed} (h:Asc g a 0 a.size) {n:Nat}{p:Keyed} (hn:n<=a.size) (e:a[n - 1]?=some p) {q:Keyed} (hq:q ∈ tk a n):g q<=g p:=by
 obtain⟨j,h1,h2,h3⟩:=jA hq
 rw[<- cu (g:=g) e,<- cu (g:=g) h3]
 by_cases e:j=n - 1
 ·subst e; exact Int.le_refl _
 ·exact Int.le_of_lt (h j (n - 1) (Nat.zero_le _) (by omega) (by omega))
noncomputable def rv (out:Array Keyed):List Keyed:=out.toList.reverse
theorem kj (out:Array Keyed) (p:Keyed):rv (out.push p)=p::rv out:=by unfold rv; rw[Array.toList_push,List.reverse_append]; rfl
theorem m8 (out x:Array Keyed):rv (out++x.reverse)=x.toList++rv out:=by unfold rv; rw[Array.toList_append,List.reverse_append,Array.toList_reverse,List.reverse_reverse]
theorem Mh.done_a {T:List Keyed}{out a b:Array Keyed}{na nb:Nat} (h:Mh g T (tk a na) (tk b nb) (rv out)) (e:na=0):Gd g T (a.extract 0 na++b.extract 0 nb++out.reverse):=by
 unfold Gd
 rw[Array.toList_append,Array.toList_append,fR,fR,Array.toList_reverse]
 have e2:tk a na=[]:=by unfold tk; rw[e,List.take_zero]
 have h1:=h.p
 rw[e2,List.nil_append] at h1 ⊢
 exact⟨h1,h.b⟩
theorem Mh.done_b {T:List Keyed}{out a b:Array Keyed}{na nb:Nat} (h:Mh g T (tk a na) (tk b nb) (rv out)) (e:nb=0):Gd g T (a.extract 0 na++b.extract 0 nb++out.reverse):=by
 unfold Gd
 rw[Array.toList_append,Array.toList_append,fR,fR,Array.toList_reverse]
 have e2:tk b nb=[]:=by unfold tk; rw[e,List.take_zero]
 have h1:=h.p
 rw[e2,append_nil] at h1 ⊢
 exact⟨h1,h.a⟩
theorem Mh.first {T:List Keyed}{out a b:Array Keyed}{na nb:Nat} (h:Mh g T (tk a na) (tk b nb) (rv out)) (e:nb=1) (hf:∀ p ∈ tk b 1,∀ q ∈ a.toList,g p<g q):Gd g T (b.extract 0 nb++a.extract 0 na++out.reverse):=by
 unfold Gd
 rw[Array.toList_append,Array.toList_append,fR,fR,Array.toList_reverse]
 refine⟨(List.Perm.append_right _ List.perm_append_comm).trans h.p,?_⟩
 have h1:=h.a
 have h2:=h.b
 unfold Srt at h1 h2 ⊢
 rw[append_assoc]
 rw[pairwise_append] at h1 h2
 rw[pairwise_append,pairwise_append]
 refine⟨h2.1,h1,fun x hx y hy=>?_⟩
 rcases mem_append.mp hy with hy | hy
 ·exact hf x (by rw[<- e]; exact hx) y (List.mem_of_mem_take hy)
 ·exact h2.2.2 x hx y hy
theorem Mh.push_a {T:List Keyed}{a b out:Array Keyed}{na nb:Nat}{p q:Keyed} (h:Mh g T (tk a na) (tk b nb) (rv out)) (hb:Asc g b 0 b.size) (h1:1<=na) (h2:na<=a.size) (h3:nb<=b.size) (e1:a[na - 1]?=some p) (e2:b[nb - 1]?=some q) (hlt:g q<g p):Mh g T (tk a (na - 1)) (tk b nb) (rv (out.push p)):=by
 obtain⟨p',e3,e4⟩:=bW h1 h2
 rw[e1] at e3
 cases e3
 rw[e4] at h
 rw[kj]
 exact h.pa (X:=[p]) fun x hx y hy=>by cases mem_singleton.mp hx; exact Int.lt_of_le_of_lt (j5 hb h3 e2 hy) hlt
theorem Mh.push_b {T:List Keyed}{a b out:Array Keyed}{na nb:Nat}{p q:Keyed} (h:Mh g T (tk a na) (tk b nb) (rv out)) (ha:Asc g a 0 a.size) (h1:1<=nb) (h2:nb<=b.size) (h3:na<=a.size) (e1:a[na - 1]?=some p) (e2:b[nb - 1]?=some q) (hlt:g p<g q):Mh g T (tk a na) (tk b (nb - 1)) (rv (out.push q)):=by
 obtain⟨p',e3,e4⟩:=bW h1 h2
 rw[e2] at e3
 cases e3
 rw[e4] at h
 rw[kj]
 exact h.pb (X:=[q]) fun x hx y hy=>by cases mem_singleton.mp hx; exact Int.lt_of_le_of_lt (j5 ha h3 e1 hy) hlt
theorem ic {a:Array Keyed}{i n:Nat}{p:Keyed} (h:p ∈ (a.extract i n).toList):∃ j,i<=j/\j<n/\a[j]?=some p:=by
 rw[bL] at h
 obtain⟨j,h1,h2,h3⟩:=c5 h
 exact⟨i+j,by omega,by omega,h3⟩
theorem Mh.bulk_a {T:List Keyed}{a b out:Array Keyed}{na nb t:Nat}{q:Keyed} (h:Mh g T (tk a na) (tk b nb) (rv out)) (hb:Asc g b 0 b.size) (ht:t<=na) (h3:nb<=b.size) (e2:b[nb - 1]?=some q)
  (hk:∀ i,t<=i->i<na->bey g false q a 0 i=false):Mh g T (tk a t) (tk b nb) (rv (out++(a.extract t na).reverse)):=by
 rw[m8]
 rw[iE ht] at h
 refine h.pa fun x hx y hy=>?_
 obtain⟨j,h1,h2,e⟩:=ic hx
 have h4:=hk j h1 h2
 unfold bey at h4
 rw[Nat.zero_add,cu e] at h4
 simp at h4
 have h5:=j5 hb h3 e2 hy
 omega
theorem Mh.bulk_b {T:List Keyed} (hd:(T.map g).Nodup) {a b out:Array Keyed}{na nb t:Nat}{p:Keyed} (h:Mh g T (tk a na) (tk b nb) (rv out)) (ha:Asc g a 0 a.size) (ht:t<=nb) (h1:1<=na) (h3:na<=a.size) (e1:a[na - 1]?=some p)
  (hk:∀ i,t<=i->i<nb->bey g true p b 0 i=false):Mh g T (tk a na) (tk b t) (rv (out++(b.extract t nb).reverse)):=by
 rw[m8]
 have h':=h
 rw[iE (a:=b) ht] at h'
 refine h'.pb fun x hx y hy=>?_
 obtain⟨j,h6,h2,e⟩:=ic hx
 have h4:=hk j h6 h2
 unfold bey at h4
 rw[Nat.zero_add,cu e] at h4
 simp at h4
 obtain⟨p',e3,e4⟩:=bW h1 h3
 rw[e1] at e3
 cases e3
 have hne:=h'.nes hd (a:=p) (b:=x) (by rw[e4]; simp) (mem_append_right _ hx)
 have h5:=j5 ha h3 e1 hy
 omega
structure MHI (g:Keyed->Int) (T:List Keyed) (a b out:Array Keyed) (na nb:Nat):Prop where
 m:Mh g T (tk a na) (tk b nb) (rv out)
 a1:1<=na
 a2:na<=a.size
 b1:2<=nb
 b2:nb<=b.size
theorem w_mhi (hC:Cmp M A s κ g U) {st st0:SortSt}{a b:Array Keyed}{T:List Keyed}{Q:Array Keyed->SortSt->Prop} (h0:Sm st0 st) (hk:kindOf st0=κ) (ua:All U a) (ub:All U b) (hd:(T.map g).Nodup) (hT:(a.toList++b.toList).Perm T)
  (sa:Asc g a 0 a.size) (sb:Asc g b 0 b.size) (ha:1<=a.size) (hb:1<=b.size) (hl:G g b (b.size - 1)<G g a (a.size - 1)) (hf:∀ p ∈ tk b 1,∀ q ∈ a.toList,g p<g q)
  (h:∀ R st',Sm st0 st'->Gd g T R->Q R st'):wpS M A E s (rD a b) Q st:=by
 rw[pq]
 refine wpS_bind (wpS_lift (wpAny_rule ⟨rfl,?_⟩))
 obtain⟨a0,ea0,_⟩:=bW (a:=a) (n:=a.size) (by omega) (Nat.le_refl _)
 obtain⟨b0,eb0,_⟩:=bW (a:=b) (n:=b.size) (by omega) (Nat.le_refl _)
 refine wpS_bind (bi ea0 ?_)
 dsimp only
 have m0:Mh g T (tk a a.size) (tk b b.size) (rv (#[]:Array Keyed)):=by
  unfold tk rv
  rw[List.take_of_length_le (by rw[Array.length_toList]; exact Nat.le_refl _),List.take_of_length_le (by rw[Array.length_toList]; exact Nat.le_refl _)]
  exact⟨by simpa using hT,by simpa using dz sa,by simpa using dz sb⟩
 have m1:Mh g T (tk a (a.size - 1)) (tk b b.size) (rv (#[a0]:Array Keyed)):=m0.push_a sb (by omega) (Nat.le_refl _) (Nat.le_refl _) ea0 eb0 (by rw[<- cu (g:=g) eb0,<- cu (g:=g) ea0]; exact hl)
 by_cases c1:a.size - 1=0
 ·rw[if_pos (by simpa using c1)]
  exact wpS_pure (h _ _ h0 (m1.done_a c1))
 rw[if_neg (by simpa using c1)]
 by_cases c2:b.size=1
 ·rw[if_pos (by simpa using c2)]
  exact wpS_pure (h _ _ h0 (m1.first c2 hf))
 rw[if_neg (by simpa using c2)]
 refine wpS_bind (wpS_get ?_)
 refine wpS_bind (wpS_mono (wpS_forRange (I:=fun x c st'=>Sm st0 st'/\∃ na nb out mg,c=(none,na,nb,out,mg)/\MHI g T a b out na nb/\na+nb+x<=a.size+b.size)
  (Q:=fun c st'=>Sm st0 st'/\∃ R r,c=(some R,r)/\Gd g T R) ?so ?fo ⟨h0,_,_,_,_,rfl,⟨m1,by omega,by omega,by omega,Nat.le_refl _⟩,by omega⟩) ?po)
 case fo=>
  rintro c st' ⟨_,na,nb,out,mg,_,hi,hm⟩
  have:=hi.a1
  exfalso
  omega
 case po=>
  rintro c st' ⟨hs,R,r,rfl,hg⟩
  exact wpS_pure (h _ _ hs hg)
 case so=>
  rintro x c st1 _ hx ⟨hs1,na,nb,out,mg,rfl,hi,hm⟩
  dsimp only
  obtain⟨r0,er0⟩:∃ r0,na+nb=r0:=⟨_,rfl⟩
  rw[er0] at hm
  refine wpS_bind (wpS_mono (wpS_forRange (I:=fun y c st'=>Sm st0 st'/\∃ na nb out ac bc,c=(none,na,nb,out,ac,bc)/\MHI g T a b out na nb/\na+nb+y<=r0)
   (Q:=fun c st'=>Sm st0 st'/\((∃ R r,c=(some R,r)/\Gd g T R)∨∃ na nb out ac bc,c=(none,na,nb,out,ac,bc)/\MHI g T a b out na nb/\na+nb+1<=r0)) ?s1 ?f1 ⟨hs1,_,_,_,_,_,rfl,hi,by omega⟩) ?p1)
  case f1=>
   rintro c st' ⟨_,na,nb,out,ac,bc,_,hi,hm⟩
   have:=hi.a1
   exfalso
   omega
  case s1=>
   rintro y c st2 _ hy ⟨hs2,na,nb,out,ac,bc,rfl,hi,hm2⟩
   dsimp only
   obtain⟨hm',i1,i2,i3,i4⟩:=hi
   obtain⟨p,ep,epd⟩:=bW (a:=a) (n:=na) i1 i2
   obtain⟨q,eq,eqd⟩:=bW (a:=b) (n:=nb) (by omega) i4
   refine wpS_bind (bi eq (wpS_bind (bi ep (wpS_bind (w_lt hC (hs2.k.trans hk) (ub _ _ eq) (ua _ _ ep) ?_)))))
   dsimp only
   by_cases hlt:g q<g p
   ·rw[if_pos (decide_eq_true hlt)]
    refine wpS_bind (bi ep ?_)
    have m2:=hm'.push_a sb i1 i2 i4 ep eq hlt
    by_cases c:na - 1=0
    ·rw[if_pos (by simpa using c)]
     exact wpS_pure ⟨hs2,.inl ⟨_,_,rfl,m2.done_a c⟩⟩
    ·rw[if_neg (by simpa using c)]
     split
     ·exact wpS_pure ⟨hs2,.inr ⟨_,_,_,_,_,rfl,⟨m2,by omega,by omega,i3,i4⟩,by omega⟩⟩
     ·exact wpS_pure ⟨hs2,_,_,_,_,_,rfl,⟨m2,by omega,by omega,i3,i4⟩,by omega⟩
   ·rw[if_neg (by simpa using hlt)]
    refine wpS_bind (bi eq ?_)
    have hne:=hm'.nes hd (a:=p) (b:=q) (by rw[epd]; simp) (by rw[eqd]; simp)
    have m2:=hm'.push_b sa (by omega) i4 i2 ep eq (by omega)
    by_cases c:nb - 1=1
    ·rw[if_pos (by simpa using c)]
     exact wpS_pure ⟨hs2,.inl ⟨_,_,rfl,m2.first c hf⟩⟩
    ·rw[if_neg (by simpa using c)]
     split
     ·exact wpS_pure ⟨hs2,.inr ⟨_,_,_,_,_,rfl,⟨m2,i1,i2,by omega,by omega⟩,by omega⟩⟩
     ·exact wpS_pure ⟨hs2,_,_,_,_,_,rfl,⟨m2,i1,i2,by omega,by omega⟩,by omega⟩
  case p1=>
   rintro c st2 ⟨hs2,⟨R,r,rfl,hg⟩ | ⟨na,nb,out,ac,bc,rfl,hi,hm2⟩⟩
   ·exact wpS_pure ⟨hs2,_,_,rfl,hg⟩
   dsimp only
   refine wpS_bind (wpS_lift (wpAny_rule ⟨rfl,?_⟩))
   obtain⟨r1,er1⟩:∃ r1,na+nb=r1:=⟨_,rfl⟩
   rw[er1] at hm2
   refine wpS_bind (wpS_mono (wpS_forRange (I:=fun y c st'=>Sm st0 st'/\∃ na nb out mg ac bc,c=(none,na,nb,out,mg,ac,bc)/\MHI g T a b out na nb/\na+nb+y<=r1)
    (Q:=fun c st'=>Sm st0 st'/\((∃ R r,c=(some R,r)/\Gd g T R)∨∃ na nb out mg ac bc,c=(none,na,nb,out,mg,ac,bc)/\MHI g T a b out na nb/\na+nb<=r1)) ?s2 ?f2 ⟨hs2,_,_,_,_,_,_,rfl,hi,by omega⟩) ?p2)
   case f2=>
    rintro c st' ⟨_,na,nb,out,mg,ac,bc,_,hi,hm⟩
    have:=hi.a1
    exfalso
    omega
   case p2=>
    rintro c st3 ⟨hs3,⟨R,r,rfl,hg⟩ | ⟨na,nb,out,mg,ac,bc,rfl,hi,hm3⟩⟩
    ·exact wpS_pure ⟨hs3,_,_,rfl,hg⟩
    dsimp only
    exact wpS_bind (oy hs3 fun st4 hs4=>wpS_pure ⟨hs4,_,_,_,_,rfl,hi,by omega⟩)
   case s2=>
    rintro y c st3 _ hy ⟨hs3,na,nb,out,mg,ac,bc,rfl,hi,hm3⟩
    dsimp only
    obtain⟨hm',i1,i2,i3,i4⟩:=hi
    obtain⟨q,eq,eqd⟩:=bW (a:=b) (n:=nb) (by omega) i4
    generalize mg - 1=mg1
    revert mg1
    refine qb (c:=mg > 1) mg fun n=>?_
    clear er0 er1 hm hm2
    refine wpS_bind (oy hs3 fun st4 hs4=>?_)
    refine wpS_bind (bi eq (wpS_bind (f7 hC (hs4.k.trans hk) (ub _ _ eq) ua (by omega) (by omega) (d3 sa (by omega)) fun t hk1 hk2 hk3=>?_)))
    dsimp only
    have m2:=hm'.bulk_a sb hk1 i4 eq hk3
    obtain⟨o2,eo2⟩:∃ o2,out++(a.extract t na).reverse=o2:=⟨_,rfl⟩
    rw[eo2] at m2
    obtain⟨k,ekk⟩:∃ k,na - t=k:=⟨_,rfl⟩
    rw[ekk]
    have ek:¬ k > 0->out=o2/\na=t:=fun e=>by
     obtain rfl:na=t:=om5 ekk e hk1
     refine⟨?_,rfl⟩
     rw[<- eo2]
     apply Array.toList_inj.mp
     rw[Array.toList_append,Array.toList_reverse,bL,Nat.sub_self,List.take_zero,List.reverse_nil,append_nil]
    by_cases cx:k > 0/\t=0
    ·rw[if_pos cx.1,eo2,if_pos (by simpa using cx.2)]
     exact wpS_pure ⟨hs4,.inl ⟨_,_,rfl,m2.done_a cx.2⟩⟩
    have t1:1<=t:=by
     by_cases ck:k > 0
     ·exact Nat.pos_of_ne_zero fun e=>cx ⟨ck,e⟩
     ·rw[<- (ek ck).2]; exact i1
    apply jY
    ·intro ck
     rw[eo2,if_neg (by simpa using fun e=>cx ⟨ck,e⟩)]
    ·intro ck
     obtain⟨e7,e8⟩:=ek ck
     rw[e7,e8]
    clear cx ek
    have ta:t<=a.size:=Nat.le_trans hk1 i2
    obtain⟨p,ep,epd⟩:=bW (a:=a) (n:=t) t1 ta
    have hpq:g p<g q:=by
     have h3:=hk2 (t - 1) (Nat.sub_lt t1 Nat.one_pos)
     unfold bey at h3
     rw[Nat.zero_add,cu ep] at h3
     have hne:=m2.nes hd (a:=p) (b:=q) (by rw[epd]; simp) (by rw[eqd]; simp)
     simp at h3
     exact om9 h3 hne
    refine wpS_bind (bi eq ?_)
    have m3:=m2.push_b sa (by omega) i4 ta ep eq hpq
    by_cases c1:nb - 1=1
    ·rw[if_pos (by simpa using c1)]
     exact wpS_pure ⟨hs4,.inl ⟨_,_,rfl,m3.first c1 hf⟩⟩
    rw[if_neg (by simpa using c1)]
    refine wpS_bind (bi ep (wpS_bind (f7 hC (hs4.k.trans hk) (ua _ _ ep) ub (by omega) (by omega) (d3 sb (by omega)) fun t2 hj1 hj2 hj3=>?_)))
    dsimp only
    have m4:=m3.bulk_b hd sa hj1 (by omega) ta ep hj3
    obtain⟨o3,eo3⟩:∃ o3,o2.push q++(b.extract t2 (nb - 1)).reverse=o3:=⟨_,rfl⟩
    rw[eo3] at m4
    obtain⟨k2,ekk2⟩:∃ k,nb - 1 - t2=k:=⟨_,rfl⟩
    rw[ekk2]
    have ek2:¬ k2 > 0->o2.push q=o3/\nb - 1=t2:=fun e=>by
     obtain e2:nb - 1=t2:=om5 ekk2 e hj1
     refine⟨?_,e2⟩
     rw[<- eo3,e2]
     apply Array.toList_inj.mp
     rw[Array.toList_append,Array.toList_reverse,bL,Nat.sub_self,List.take_zero,List.reverse_nil,append_nil]
    by_cases c2:k2 > 0/\t2=1
    ·rw[if_pos c2.1,eo3,if_pos (by simpa using c2.2)]
     exact wpS_pure ⟨hs4,.inl ⟨_,_,rfl,m4.first c2.2 hf⟩⟩
    by_cases c2':k2 > 0/\t2=0
    ·rw[if_pos c2'.1,eo3,if_neg (by simpa using fun e=>c2 ⟨c2'.1,e⟩),if_pos (by simpa using c2'.2)]
     exact wpS_pure ⟨hs4,.inl ⟨_,_,rfl,m4.done_b c2'.2⟩⟩
    have l2:2<=t2:=by
     by_cases ck:k2 > 0
     ·exact om6 (fun e=>c2 ⟨ck,e⟩) (fun e=>c2' ⟨ck,e⟩)
     ·rw[<- (ek2 ck).2]; exact om7 i3 c1
    apply jY
    ·intro ck2
     rw[eo3,if_neg (by simpa using fun e=>c2 ⟨ck2,e⟩),if_neg (by simpa using fun e=>c2' ⟨ck2,e⟩)]
    ·intro ck2
     obtain⟨e5,e6⟩:=ek2 ck2
     rw[e5,e6]
    clear c2 c2' ek2
    have nx:Mh g T (tk a (t - 1)) (tk b t2) (rv (o3.push p)):=by
     obtain⟨q2,eq2,eqd2⟩:=bW (a:=b) (n:=t2) (by omega) (by omega)
     have h3:=hj2 (t2 - 1) (by omega)
     unfold bey at h3
     rw[Nat.zero_add,cu eq2] at h3
     simp at h3
     exact m4.push_a sb t1 ta (by omega) ep eq2 h3
    refine wpS_bind (bi ep ?_)
    by_cases c3:t - 1=0
    ·rw[if_pos (by simpa using c3)]
     exact wpS_pure ⟨hs4,.inl ⟨_,_,rfl,nx.done_a c3⟩⟩
    rw[if_neg (by simpa using c3)]
    have fin:MHI g T a b (o3.push p) (t - 1) t2:=⟨nx,by omega,by omega,by omega,by omega⟩
    refine su ?_ ?_
    ·exact wpS_pure ⟨hs4,.inr ⟨_,_,_,_,_,_,rfl,fin,Nat.le_trans (Nat.le_add_right _ _) (om8 hm3 hk1 hj1 t1 i3)⟩⟩
    ·exact wpS_pure ⟨hs4,_,_,_,_,_,_,rfl,fin,om8 hm3 hk1 hj1 t1 i3⟩
theorem pC (i:Nat):mergeAt' i=(do
 let s0 <- get
 let (some (sa,na,pw),some (sb,nb,_)):=((pendingOf s0)[i]?,(pendingOf s0)[i+1]?) | unsupported "internal:list.sort.pending"
 set (setPending s0 (((pendingOf s0).setIfInBounds i (sa,na+nb,pw)).eraseIdxIfInBounds (i+1)))
 let some k <- ja false (<- elem' (arrOf s0) sb) (arrOf s0) sa na 0 | return false
 let (sa,na):=(sa+k,na - k)
 if na == 0 then return true
 let some nb <- ja true (<- elem' (arrOf s0) (sa+na - 1)) (arrOf s0) sb nb (nb - 1) | return false
 if nb == 0 then return true
 let x:=(arrOf s0).extract sa sb
 let y:=(arrOf s0).extract sb (sb+nb)
 let r <- if na<=nb then rC x y else rD x y
 modify fun s1=>setArr s1 (r.toList.zipIdx.foldl (fun a (p,j)=>a.setIfInBounds (sa+j) p) (arrOf s1))
 return (failedOf (<- get)).isNone):=rfl
end
end L2.So
set_option Elab.async false
set_option linter.all false
set_option maxRecDepth 100000
namespace L2.So
open PySem PyProof.Rows
section
variable {M:Model}{A:Around}{E:Value->Shared->Prop}{s:Shared}{κ:SortKind}{g:Keyed->Int}{U:Keyed->Prop}
theorem w_set {x st:SortSt}{Q:PUnit->SortSt->Prop} (h:Q ⟨⟩ x):wpS M A E s (set x:StateT SortSt Sem PUnit) Q st:=by
 unfold wpS
 rw[StateT.run_set]
 exact wpAny_pure ⟨rfl,h⟩
theorem gK {left:Bool}{key:Keyed}{arr:Array Keyed}{base n:Nat} (h:Asc g arr base (base+n)):∀ i j,i<=j->j<n->bey g left key arr base j=true->bey g left key arr base i=true:=by
 intro i j hij hj hb
 have:G g arr (base+i)<=G g arr (base+j):=by
  by_cases e:i=j
  ·subst e; exact Int.le_refl _
  ·exact Int.le_of_lt (h _ _ (by omega) (by omega) (by omega))
 unfold bey at hb ⊢
 cases left with
 | true=>simp at hb ⊢; omega
 | false=>simp at hb ⊢; omega
theorem jW (sa:Nat):∀ (l:List Keyed) (d:Nat) (xs:Array Keyed),sa+d+l.length<=xs.size ->
  ((l.zipIdx d).foldl (fun a (x:Keyed×Nat)=>a.setIfInBounds (sa+x.2) x.1) xs).toList=xs.toList.take (sa+d)++l++xs.toList.drop (sa+d+l.length)
 | [],d,xs,_=>by
  rw[List.zipIdx_nil,List.foldl_nil,append_nil,List.length_nil,Nat.add_zero,List.take_append_drop]
 | p::l,d,xs,h=>by
  rw[length_cons] at h
  rw[List.zipIdx_cons,List.foldl_cons,jW sa l (d+1) _ (by rw[Array.size_setIfInBounds]; omega)]
  rw[Array.toList_setIfInBounds]
  have hl:sa+d<xs.toList.length:=by rw[Array.length_toList]; omega
  have e1:(xs.toList.set (sa+d) p).take (sa+(d+1))=xs.toList.take (sa+d)++[p]:=by
   rw[show sa+(d+1)=sa+d+1 by omega,List.take_succ,List.getElem?_set_self hl,List.take_set_of_le (Nat.le_refl _)]
   rfl
  have e2:(xs.toList.set (sa+d) p).drop (sa+(d+1)+l.length)=xs.toList.drop (sa+d+(l.length+1)):=by
   rw[List.drop_set_of_lt (by omega)]
   congr 1
   omega
  dsimp only
  rw[e1,e2,length_cons]
  simp
theorem jt {xs:Array Keyed}{i n j:Nat} (h:i+j<n) (hn:n<=xs.size):G g (xs.extract i n) j=G g xs (i+j):=by
 apply bG
 rw[Array.getElem?_extract,if_pos (by omega)]
theorem mv {xs:Array Keyed}{i n:Nat} (hn:n<=xs.size):(xs.extract i n).size=n - i:=by rw[Array.size_extract]; omega
theorem iy {xs:Array Keyed}{i n:Nat} (hn:n<=xs.size) (h:Asc g xs i n):Asc g (xs.extract i n) 0 (xs.extract i n).size:=by
 intro a b _ hab hb
 rw[mv hn] at hb
 rw[jt (by omega) hn,jt (by omega) hn]
 exact h _ _ (by omega) (by omega) (by omega)
theorem iB {xs:Array Keyed}{i n:Nat} (h:All U xs):All U (xs.extract i n):=by
 intro j p e
 rw[Array.getElem?_extract] at e
 split at e
 ·exact h _ _ e
 ·cases e
structure Fin (st st':SortSt) (g:Keyed->Int):Prop where
 e:(arrOf st').Perm (arrOf st)
 f:failedOf st'=none
 a:Asc g (arrOf st') 0 (arrOf st').size
theorem w_mat (hC:Cmp M A s κ g U) {st:SortSt}{n1 n2 pw x:Nat}{Q:Bool->SortSt->Prop} (hs:Stt κ g U st) (hp:pendingOf st = #[(0,n1,pw),(n1,n2,x)]) (h1:1<=n1) (h2:1<=n2) (hz:n1+n2=(arrOf st).size)
  (a1:Asc g (arrOf st) 0 n1) (a2:Asc g (arrOf st) n1 (n1+n2)) (h:∀ st',Fin st st' g->(pendingOf st').size=1->Q true st'):wpS M A E s (mergeAt' 0) Q st:=by
 rw[pC]
 refine wpS_bind (wpS_get ?_)
 rw[hp]
 have e0:(#[(0,n1,pw),(n1,n2,x)]:Array (Nat×Nat×Nat))[0]?=some (0,n1,pw):=rfl
 have e1:(#[(0,n1,pw),(n1,n2,x)]:Array (Nat×Nat×Nat))[0+1]?=some (n1,n2,x):=rfl
 rw[e0,e1]
 dsimp only
 refine wpS_bind (w_set ?_)
 obtain⟨xs,ex⟩:∃ xs,arrOf st=xs:=⟨_,rfl⟩
 have hU:=hs.u
 have hD:=hs.d
 rw[ex] at hz a1 a2 hU hD ⊢
 obtain⟨st1,e1⟩:∃ st1,setPending st (((#[(0,n1,pw),(n1,n2,x)]:Array (Nat×Nat×Nat)).setIfInBounds 0 (0,n1+n2,pw)).eraseIdxIfInBounds (0+1))=st1:=⟨_,rfl⟩
 rw[e1]
 have k1:kindOf st1=κ:=by rw[<- e1]; exact hs.k
 have f1:failedOf st1=none:=by rw[<- e1]; exact hs.f
 have x1:arrOf st1=xs:=by rw[<- e1]; exact ex
 have p1:(pendingOf st1).size=1:=by
  rw[<- e1]
  show(((#[(0,n1,pw),(n1,n2,x)]:Array (Nat×Nat×Nat)).setIfInBounds 0 (0,n1+n2,pw)).eraseIdxIfInBounds (0+1)).size=1
  simp
 obtain⟨q,eq,eg⟩:=at_ (g:=g) (xs:=xs) (i:=n1) (by omega)
 refine wpS_bind (bi eq (wpS_bind (f7 hC k1 (hU _ _ eq) hU (by omega) (by omega) (gK (by rw[Nat.zero_add]; exact a1)) fun k hk1 hk2 hk3=>?_)))
 dsimp only
 have low:∀ i,i<k->G g xs i<G g xs n1:=fun i hi=>by
  have h3:=hk2 i hi
  unfold bey at h3
  rw[Nat.zero_add,<- eg] at h3
  simp at h3
  have:=hD.ne (i:=i) (j:=n1) (by omega) (by omega) (by omega)
  omega
 have high:∀ i,k<=i->i<n1->G g xs n1<G g xs i:=fun i hi hi2=>by
  have h3:=hk3 i hi hi2
  unfold bey at h3
  rw[Nat.zero_add,<- eg] at h3
  simpa using h3
 by_cases c:n1 - k=0
 ·rw[if_pos (by simpa using c)]
  refine wpS_pure (h _ ⟨by rw[x1,ex],f1,?_⟩ p1)
  rw[x1]
  intro i j _ hij hj
  by_cases c1:j<n1
  ·exact a1 i j (Nat.zero_le _) hij c1
  ·by_cases c2:i<n1
   ·have:=low i (by omega)
    by_cases c3:j=n1
    ·subst c3; exact this
    ·exact Int.lt_trans this (a2 n1 j (Nat.le_refl _) (by omega) (by omega))
   ·exact a2 i j (by omega) hij (by omega)
 rw[if_neg (by simpa using c)]
 rw[show 0+k+(n1 - k) - 1=n1 - 1 by omega,Nat.zero_add]
 obtain⟨p,ep,eg2⟩:=at_ (g:=g) (xs:=xs) (i:=n1 - 1) (by omega)
 refine wpS_bind (bi ep (wpS_bind (f7 hC k1 (hU _ _ ep) hU (by omega) (by omega) (gK a2) fun nb hj1 hj2 hj3=>?_)))
 dsimp only
 have low2:∀ i,n1<=i->i<n1+nb->G g xs i<G g xs (n1 - 1):=fun i hi hi2=>by
  have h3:=hj2 (i - n1) (by omega)
  unfold bey at h3
  rw[show n1+(i - n1)=i by omega,<- eg2] at h3
  simpa using h3
 have high2:∀ i,n1+nb<=i->i<n1+n2->G g xs (n1 - 1)<G g xs i:=fun i hi hi2=>by
  have h3:=hj3 (i - n1) (by omega) (by omega)
  unfold bey at h3
  rw[show n1+(i - n1)=i by omega,<- eg2] at h3
  simp at h3
  have:=hD.ne (i:=i) (j:=n1 - 1) (by omega) (by omega) (by omega)
  omega
 by_cases c2:nb=0
 ·have:=high2 n1 (by omega) (by omega)
  have:=high (n1 - 1) (by omega) (by omega)
  omega
 rw[if_neg (by simpa using c2)]
 have hx:n1<=xs.size:=by omega
 have hy:n1+nb<=xs.size:=by omega
 have zx:=mv (xs:=xs) (i:=k) hx
 have zy:=mv (xs:=xs) (i:=n1) hy
 have ax:=iy (xs:=xs) (i:=k) hx (fun i j h3 h4 h5=>a1 i j (Nat.zero_le _) h4 h5)
 have ay:=iy (xs:=xs) (i:=n1) hy (fun i j h3 h4 h5=>a2 i j h3 h4 (by omega))
 have mx:∀ p ∈ (xs.extract k n1).toList,∃ j,k<=j/\j<n1/\G g xs j=g p:=fun p hp=>by
  obtain⟨j,h3,h4,h5⟩:=ic hp
  exact⟨j,h3,h4,cu h5⟩
 have my:∀ p ∈ (xs.extract n1 (n1+nb)).toList,∃ j,n1<=j/\j<n1+nb/\G g xs j=g p:=fun p hp=>by
  obtain⟨j,h3,h4,h5⟩:=ic hp
  exact⟨j,h3,h4,cu h5⟩
 obtain⟨T,eT⟩:∃ T,(xs.extract k n1).toList++(xs.extract n1 (n1+nb)).toList=T:=⟨_,rfl⟩
 have eTl:T=(dr xs k).take (n1+nb - k):=by
  rw[<- eT,bL,bL]
  unfold dr
  rw[show n1+nb - k=(n1 - k)+nb by omega,List.take_add,List.drop_drop,show k+(n1 - k)=n1 by omega,Nat.add_sub_cancel_left]
 have whole:xs.toList=xs.toList.take k++T++xs.toList.drop (n1+nb):=by
  rw[eTl]
  unfold dr
  conv=>lhs; rw[<- List.take_append_drop k xs.toList,<- List.take_append_drop (n1+nb - k) (xs.toList.drop k),List.drop_drop]
  rw[show k+(n1+nb - k)=n1+nb by omega,append_assoc]
 have lT:T.length=n1+nb - k:=by rw[<- eT,length_append,Array.length_toList,Array.length_toList,zx,zy]; omega
 have hdT:(T.map g).Nodup:=by
  have:=dis_iff.mp hD
  rw[whole,map_append,map_append] at this
  exact(List.nodup_append.mp (List.nodup_append.mp this).1).2.1
 have fin:∀ R st2,Sm st1 st2->Gd g T R->wpS M A E s (do
   modify fun s1=>setArr s1 (List.foldl (fun a (x:Keyed×Nat)=>a.setIfInBounds (k+x.snd) x.fst) (arrOf s1) R.toList.zipIdx)
   let z <- get
   pure (failedOf z).isNone) Q st2:=by
  intro R st2 hs2 hR
  refine wpS_bind (wpS_modify (wpS_bind (wpS_get (wpS_pure ?_))))
  have lR:R.toList.length=n1+nb - k:=by rw[hR.1.length_eq,lT]
  have hw:=jW k R.toList 0 (arrOf st2) (by rw[lR,hs2.a,x1]; omega)
  rw[Nat.add_zero,lR,hs2.a,x1,show k+(n1+nb - k)=n1+nb by omega] at hw
  have hf:failedOf st2=none:=by rw[hs2.f,f1]
  show Q (failedOf st2).isNone _
  rw[hf]
  refine h _ ⟨?_,hf,?_⟩ (by show(pendingOf st2).size=1; rw[hs2.p]; exact p1)
  ·rw[Array.perm_iff_toList_perm]
   show(List.foldl (fun a (x:Keyed×Nat)=>a.setIfInBounds (k+x.snd) x.fst) (arrOf st2) R.toList.zipIdx).toList.Perm (arrOf st).toList
   rw[hs2.a,x1,hw,ex]
   conv=>rhs; rw[whole]
   exact List.Perm.append_right _ (List.Perm.append_left _ hR.1)
  ·refine sn ?_
   show Srt g (List.foldl (fun a (x:Keyed×Nat)=>a.setIfInBounds (k+x.snd) x.fst) (arrOf st2) R.toList.zipIdx).toList
   rw[hs2.a,x1,hw]
   have mT:∀ t ∈ R.toList,(∃ j,k<=j/\j<n1/\G g xs j=g t)∨(∃ j,n1<=j/\j<n1+nb/\G g xs j=g t):=fun t ht=>by
    have:=hR.1.mem_iff.mp ht
    rw[<- eT] at this
    rcases mem_append.mp this with h3 | h3
    ·exact .inl (mx t h3)
    ·exact .inr (my t h3)
   have mP:∀ t ∈ xs.toList.take k,∃ j,j<k/\G g xs j=g t:=fun t ht=>by
    obtain⟨j,h3,h4,h5⟩:=jA (a:=xs) (n:=k) ht
    exact⟨j,h3,cu h5⟩
   have mS:∀ t ∈ xs.toList.drop (n1+nb),∃ j,n1+nb<=j/\j<n1+n2/\G g xs j=g t:=fun t ht=>by
    obtain⟨j,h3,h4,h5⟩:=jQ (a:=xs) (i:=n1+nb) ht
    exact⟨j,h3,by omega,cu h5⟩
   unfold Srt
   rw[pairwise_append,pairwise_append]
   refine⟨⟨?_,hR.2,fun u hu t ht=>?_⟩,?_,fun t ht v hv=>?_⟩
   ·have:=dz (iy (xs:=xs) (i:=0) (n:=k) (by omega) (fun i j h3 h4 h5=>a1 i j h3 h4 (by omega)))
    rw[fR] at this
    exact this
   ·obtain⟨i,h3,h4⟩:=mP u hu
    have hl:=low i h3
    rw[<- h4]
    rcases mT t ht with ⟨j,h5,h6,h7⟩ | ⟨j,h5,h6,h7⟩
    ·rw[<- h7]; exact a1 i j (Nat.zero_le _) (by omega) h6
    ·rw[<- h7]
     by_cases e:j=n1
     ·subst e; exact hl
     ·exact Int.lt_trans hl (a2 n1 j (Nat.le_refl _) (by omega) (by omega))
   ·have:=dz (iy (xs:=xs) (i:=n1+nb) (n:=xs.size) (Nat.le_refl _) (fun i j h3 h4 h5=>a2 i j (by omega) h4 (by omega)))
    rw[dF] at this
    exact this
   ·obtain⟨i,h3,h3',h4⟩:=mS v hv
    have hh:=high2 i h3 h3'
    rw[<- h4]
    rcases mem_append.mp ht with ht | ht
    ·obtain⟨j,h5,h6⟩:=mP t ht
     rw[<- h6]
     exact Int.lt_trans (low j h5) (a2 n1 i (Nat.le_refl _) (by omega) (by omega))
    ·rcases mT t ht with ⟨j,h5,h6,h7⟩ | ⟨j,h5,h6,h7⟩
     ·rw[<- h7]
      by_cases e:j=n1 - 1
      ·subst e; exact hh
      ·exact Int.lt_trans (a1 j (n1 - 1) (Nat.zero_le _) (by omega) (by omega)) hh
     ·rw[<- h7]; exact a2 j i h5 (by omega) h3'
 have hlast:∀ p ∈ dr (xs.extract k n1) ((xs.extract k n1).size - 1),∀ q ∈ (xs.extract n1 (n1+nb)).toList,g q<g p:=fun p hp q hq=>by
  obtain⟨j,h3,h4,h5⟩:=jQ hp
  obtain⟨i,h6,h7,h8⟩:=my q hq
  rw[<- cu (g:=g) h5,jt (by omega) hx,<- h8,show k+j=n1 - 1 by omega]
  exact low2 i h6 h7
 have hfirst:∀ p ∈ tk (xs.extract n1 (n1+nb)) 1,∀ q ∈ (xs.extract k n1).toList,g p<g q:=fun p hp q hq=>by
  obtain⟨j,h3,h4,h5⟩:=jA hp
  obtain⟨i,h6,h7,h8⟩:=mx q hq
  rw[<- cu (g:=g) h5,jt (by omega) hy,<- h8,show n1+j=n1 by omega]
  exact high i h6 h7
 refine su ?_ ?_
 ·refine wpS_bind (w_mlo hC (Sm.refl st1) k1 (iB hU) (iB hU) hdT (by rw[eT]) ax ay (by omega) (by omega) ?_ hlast fin)
  rw[jt (by omega) hy,jt (by omega) hx]
  exact high _ (by omega) (by omega)
 ·refine wpS_bind (w_mhi hC (Sm.refl st1) k1 (iB hU) (iB hU) hdT (by rw[eT]) ax ay (by omega) (by omega) ?_ hfirst fin)
  rw[jt (by omega) hy,jt (by omega) hx,zx,zy,show k+(n1 - k - 1)=n1 - 1 by omega]
  exact low2 _ (by omega) (by omega)
structure One (st st':SortSt) (g:Keyed->Int) (n1:Nat):Prop where
 k:kindOf st'=kindOf st
 f:failedOf st'=failedOf st
 e:(arrOf st').Perm (arrOf st)
 p:pendingOf st' = #[(0,n1,0)]
 a:Asc g (arrOf st') 0 n1
structure Two (st st':SortSt) (g:Keyed->Int) (n1 pw n2:Nat):Prop where
 k:kindOf st'=kindOf st
 f:failedOf st'=failedOf st
 e:(arrOf st').Perm (arrOf st)
 p:pendingOf st' = #[(0,n1,pw),(n1,n2,0)]
 a:Asc g (arrOf st') 0 n1
 b:Asc g (arrOf st') n1 (n1+n2)
theorem mr_ok {n:Nat} (h2:2<=n) (h:n<128):1<=minRun' n n 0/\minRun' n n 0<=n/\n<=2*minRun' n n 0:=by
 obtain⟨m,rfl⟩:∃ m,n=m+2:=⟨n - 2,by omega⟩
 rw[minRun'_succ]
 by_cases h64:m+2<64
 ·rw[if_pos h64]; omega
 ·rw[if_neg h64,minRun'_succ,if_pos (by omega)]; omega
theorem qG (hC:Cmp M A s κ g U) {st:SortSt}{Q:Unit->SortSt->Prop} (hs:Stt κ g U st) (hp:pendingOf st = #[]) (h2:2<=(arrOf st).size) (h128:(arrOf st).size<128)
  (h:∀ st',Fin st st' g->Q () st'):wpS M A E s sortRuns' Q st:=by
 rw[sortRuns'_eq]
 refine wpS_bind (wpS_get ?_)
 obtain⟨n,en⟩:∃ n,(arrOf st).size=n:=⟨_,rfl⟩
 obtain⟨m1,m2,m3⟩:=mr_ok h2 h128
 rw[en] at m1 m2 m3 h2 ⊢
 obtain⟨mr,emr⟩:∃ mr,minRun' n n 0=mr:=⟨_,rfl⟩
 rw[emr] at m1 m2 m3
 dsimp only
 rw[emr]
 refine wpS_bind (wpS_mono (wpS_forRange (I:=fun x c st'=>(x=0/\c=(none,0)/\st'=st)∨(x=1/\∃ n1,c=(none,n1)/\1<=n1/\n1<=n/\n - n1<=mr/\One st st' g n1)∨(2<=x/\c=(none,n)/\∃ n1 pw n2,1<=n1/\1<=n2/\n1+n2=n/\Two st st' g n1 pw n2))
  (Q:=fun c st'=>c=(none,n)/\(One st st' g n∨∃ n1 pw n2,1<=n1/\1<=n2/\n1+n2=n/\Two st st' g n1 pw n2)) ?s1 ?f1 (.inl ⟨rfl,rfl,rfl⟩)) ?p1)
 case f1=>
  rintro c st' (⟨hx,_,_⟩ | ⟨hx,_⟩ | ⟨hx,hc,ht⟩)
  ·omega
  ·omega
  ·exact⟨hc,.inr ht⟩
 case s1=>
  rintro x c st' _ hx (⟨rfl,rfl,rfl⟩ | ⟨rfl,n1,rfl,i1,i2,i3,ho⟩ | ⟨hx2,rfl,n1,pw,n2,i1,i2,i3,ht⟩)
  ·dsimp only
   rw[if_neg (by omega)]
   refine wpS_bind (qa hC hs (by omega) (by omega) fun m st2 r1 r2 r3 r4=>?_)
   dsimp only
   rw[Nat.zero_add] at r4
   have z2:=r3.size
   have pb2:(pendingOf st2).back?=none:=by rw[r3.p,hp]; rfl
   by_cases c:m<mr
   ·rw[if_pos c]
    refine wpS_bind (wpS_lift (wpAny_rule ⟨rfl,?_⟩))
    refine wpS_bind (qc hC (r3.stt hs) r1 (by omega) (by omega) (by rw[Nat.zero_add]; exact r4) fun st3 b1 b2=>?_)
    rw[if_neg (by simp)]
    refine wpS_bind (wpS_get ?_)
    have pb3:(pendingOf st3).back?=none:=by rw[b1.p]; exact pb2
    rw[pb3]
    dsimp only
    refine wpS_bind (wpS_modify (wpS_pure (.inr (.inl ⟨rfl,_,rfl,by omega,by omega,by omega,b1.k.trans r3.k,b1.f.trans r3.f,b1.e.trans r3.e,?_,?_⟩))))
    ·show(pendingOf st3).push _=_
     rw[b1.p,r3.p,hp,Nat.zero_add]
     rfl
    ·exact b2
   ·rw[if_neg c]
    refine wpS_bind (wpS_get ?_)
    rw[pb2]
    dsimp only
    refine wpS_bind (wpS_modify (wpS_pure (.inr (.inl ⟨rfl,_,rfl,by omega,by omega,by omega,r3.k,r3.f,r3.e,?_,?_⟩))))
    ·show(pendingOf st2).push _=_
     rw[r3.p,hp,Nat.zero_add]
     rfl
    ·show Asc g (arrOf st2) 0 (0+m)
     rw[Nat.zero_add]
     exact r4
  ·dsimp only
   have z1:=ho.e.size_eq
   have hs1:Stt κ g U st':=⟨ho.k.trans hs.k,ho.f.trans hs.f,hs.u.perm ho.e,hs.d.perm ho.e⟩
   by_cases c0:n1 ≥ n
   ·rw[if_pos c0]
    obtain rfl:n1=n:=by omega
    exact wpS_pure ⟨rfl,.inl ho⟩
   rw[if_neg c0]
   refine wpS_bind (qa hC hs1 (by omega) (by omega) fun m st2 r1 r2 r3 r4=>?_)
   dsimp only
   have z2:=r3.size
   have low:∀ {st3:SortSt},Swp st' st3 n1 (n1+(n - n1))->Asc g (arrOf st3) 0 n1:=fun hw i j h5 h6 h7=>by
    rw[bG (hw.o i (.inl (by omega))),bG (hw.o j (.inl (by omega)))]
    exact ho.a i j h5 h6 h7
   have fin:∀ (st3:SortSt) (pw:Nat),Swp st' st3 n1 (n1+(n - n1))->Asc g (arrOf st3) n1 n->Two st (setPending (setPending st3 ((pendingOf st3).modify ((pendingOf st3).size - 1) fun x=>(x.1,x.2.1,pw))) ((pendingOf (setPending st3 ((pendingOf st3).modify ((pendingOf st3).size - 1) fun x=>(x.1,x.2.1,pw)))).push (n1,n - n1,0))) g n1 pw (n - n1):=fun st3 pw hw ha=>by
    refine⟨hw.k.trans ho.k,hw.f.trans ho.f,hw.e.trans ho.e,?_,(show Asc g (arrOf st3) 0 n1 from low hw),?_⟩
    ·show((pendingOf st3).modify ((pendingOf st3).size - 1) fun x=>(x.1,x.2.1,pw)).push (n1,n - n1,0)=_
     rw[hw.p,ho.p]
     rfl
    ·rw[show n1+(n - n1)=n by omega]
     exact ha
   have inner:∀ (st3:SortSt) (pw:Nat) (R:Option Unit×Unit->SortSt->Prop),(pendingOf st3).size=1->R (none,()) st3->wpS M A E s (forIn [0:n] ((none,()):Option Unit×Unit) fun _ _=>do
     let z <- get
     match if (pendingOf z).size > 1 then(pendingOf z)[(pendingOf z).size - 2]? else none with
     | some (_,_,older)=>
      if older<=pw then pure (ForInStep.done (none,()))
      else do
       let z2 <- mergeAt' ((pendingOf z).size - 2)
       if (!z2)=true then pure (ForInStep.done (some (),())) else pure (ForInStep.yield (none,()))
     | _=>pure (ForInStep.done (none,()))) R st3:=by
    intro st3 pw R hz3 hR
    refine wpS_forRange (I:=fun _ c st4=>c=(none,())/\st4=st3) ?_ ?_ ⟨rfl,rfl⟩
    ·rintro y c st4 _ _ ⟨rfl,rfl⟩
     refine wpS_bind (wpS_get ?_)
     rw[if_neg (by omega)]
     exact wpS_pure hR
    ·rintro c st4 ⟨rfl,rfl⟩
     exact hR
   have pk:∀ {st3:SortSt},Swp st' st3 n1 (n1+(n - n1))->(pendingOf st3).back?=some (0,n1,0)/\(pendingOf st3).size=1:=fun hw=>by
    rw[hw.p,ho.p]
    exact⟨rfl,rfl⟩
   by_cases c:m<mr
   ·rw[if_pos c]
    refine wpS_bind (wpS_lift (wpAny_rule ⟨rfl,?_⟩))
    rw[show min (n - n1) mr=n - n1 by omega]
    refine wpS_bind (qc hC (r3.stt hs1) r1 (by omega) (by omega) r4 fun st3 b1 b2=>?_)
    have hw:=r3.trans b1
    rw[if_neg (by simp)]
    refine wpS_bind (wpS_get ?_)
    rw[(pk hw).1]
    dsimp only
    refine wpS_bind (inner st3 _ _ (pk hw).2 ?_)
    dsimp only
    refine wpS_bind (wpS_modify (wpS_bind (wpS_modify (wpS_pure (.inr (.inr ⟨by omega,?_,n1,_,n - n1,by omega,by omega,by omega,fin st3 _ hw (by rw[show n1+(n - n1)=n by omega] at b2; exact b2)⟩))))))
    rw[show n1+(n - n1)=n by omega]
   ·rw[if_neg c]
    obtain rfl:m=n - n1:=by omega
    refine wpS_bind (wpS_get ?_)
    rw[(pk r3).1]
    dsimp only
    refine wpS_bind (inner st2 _ _ (pk r3).2 ?_)
    dsimp only
    refine wpS_bind (wpS_modify (wpS_bind (wpS_modify (wpS_pure (.inr (.inr ⟨by omega,?_,n1,_,n - n1,by omega,by omega,by omega,fin st2 _ r3 (by rw[show n1+(n - n1)=n by omega] at r4; exact r4)⟩))))))
    rw[show n1+(n - n1)=n by omega]
  ·dsimp only
   rw[if_pos (by omega)]
   exact wpS_pure ⟨rfl,.inr ⟨n1,pw,n2,i1,i2,i3,ht⟩⟩
 case p1=>
  rintro c st' ⟨rfl,ht⟩
  dsimp only
  refine wpS_bind (wpS_mono (wpS_forRange (I:=fun x c st2=>c=(none,())/\((x=0/\∃ n1 pw n2,1<=n1/\1<=n2/\n1+n2=n/\Two st st2 g n1 pw n2)∨(Fin st st2 g/\(pendingOf st2).size=1)))
   (Q:=fun c st2=>c=(none,())/\Fin st st2 g) ?s2 ?f2 ⟨rfl,?i2⟩) ?p2)
  case i2=>
   rcases ht with ho | ht
   ·refine .inr ⟨⟨ho.e,ho.f.trans hs.f,?_⟩,by rw[ho.p]; rfl⟩
    rw[ho.e.size_eq,en]
    exact ho.a
   ·exact .inl ⟨rfl,ht⟩
  case f2=>
   rintro c st2 ⟨rfl,⟨hx,_⟩ | ⟨hf,_⟩⟩
   ·omega
   ·exact⟨rfl,hf⟩
  case p2=>
   rintro c st2 ⟨rfl,hf⟩
   exact wpS_pure (h _ hf)
  case s2=>
   rintro x c st2 _ hx ⟨rfl,⟨rfl,n1,pw,n2,i1,i2,i3,ht⟩ | ⟨hf,hz1⟩⟩
   ·have z2:=ht.e.size_eq
    have hs2:Stt κ g U st2:=⟨ht.k.trans hs.k,ht.f.trans hs.f,hs.u.perm ht.e,hs.d.perm ht.e⟩
    refine wpS_bind (wpS_get ?_)
    have zp:(pendingOf st2).size=2:=by rw[ht.p]; rfl
    rw[if_neg (by omega)]
    rw[zp]
    rw[if_neg (by simp)]
    refine wpS_bind (w_mat hC hs2 ht.p i1 i2 (by omega) ht.a ht.b fun st3 hf3 hz3=>?_)
    rw[if_neg (by simp)]
    exact wpS_pure ⟨rfl,.inr ⟨⟨hf3.e.trans ht.e,hf3.f,hf3.a⟩,hz3⟩⟩
   ·refine wpS_bind (wpS_get ?_)
    rw[if_pos (by omega)]
    exact wpS_pure ⟨rfl,hf⟩
end
end L2.So
set_option Elab.async false
set_option linter.all false
set_option maxRecDepth 100000
namespace L2.So
open PySem PyProof.Rows
section
variable {prog:Program}{w:World}{A:Around}{E:Value->Shared->Prop}{s:Shared}{κ:SortKind}{g:Keyed->Int}{U:Keyed->Prop}
theorem iR {vs:List Value}{p:Keyed} (h:p ∈ (pairsOf vs).toList):p.1=p.2/\p.2 ∈ vs:=by
 rw[pairsOf_toList] at h
 have:=mem_zip_self h
 exact⟨this.1,this.1 ▸ this.2⟩
theorem gw (f:Keyed->Int):∀ vs:List Value,((vs.zip vs).map f)=vs.map fun v=>f (v,v)
 | []=>rfl
 | v::vs=>by rw[List.zip_cons_cons,map_cons,map_cons,gw f vs]
theorem gc:∀ vs:List Value,((vs.zip vs).map (·.2))=vs
 | []=>rfl
 | v::vs=>by rw[List.zip_cons_cons,map_cons,gc vs]
theorem nD {vs:List Value}{xs:Array Keyed} (h:xs.Perm (pairsOf vs)):(xs.map (·.2)).toList.Perm vs:=by
 rw[Array.toList_map]
 refine((Array.perm_iff_toList_perm.mp h).map _).trans ?_
 rw[pairsOf_toList,gc]
theorem o9 {vs:List Value}{xs:Array Keyed} (h:xs.Perm (pairsOf vs)) (ha:Asc g xs 0 xs.size):(xs.map (·.2)).toList.Pairwise fun x y=>g (x,x)<g (y,y):=by
 have:=dz ha
 unfold Srt at this
 rw[Array.toList_map,List.pairwise_map]
 have eq:∀ p ∈ xs.toList,(p.2,p.2)=p:=fun p hp=>by
  have:=iR ((Array.perm_iff_toList_perm.mp h).mem_iff.mp hp)
  exact Prod.ext this.1.symm rfl
 refine List.Pairwise.imp_of_mem ?_ this
 intro x y hx hy hlt
 rw[eq x hx,eq y hy]
 exact hlt
theorem lsort {a:Addr}{vs:List Value}{n:Nat}{P:PySem.Fin->Shared->Prop} (ho:s.heap.get? a=some (seqObj "list" vs.toArray n)) (h128:vs.length<128)
  (hkind:∀ h',(∀ b o,b≠a->s.heap.get? b=some o->h'.get? b=some o)->2<=vs.length->∀ Q':SortKind->Shared->Prop,Q' κ { s with heap:=h' }->wpAny (model prog w) A (keyKind' vs.toArray) Q' E { s with heap:=h' })
  (hcmp:∀ h',(∀ b o,b≠a->s.heap.get? b=some o->h'.get? b=some o)->Cmp (model prog w) A { s with heap:=h' } κ g U)
  (hU:∀ v ∈ vs,U (v,v)) (hd:(vs.map fun v=>g (v,v)).Nodup)
  (h:∀ (out:List Value) c h',out.Perm vs->out.Pairwise (fun x y=>g (x,x)<g (y,y))->(∀ b o,b≠a->s.heap.get? b=some o->h'.get? b=some o)->h'.get? a=some (seqObj "list" out.toArray c)->P (.done (.ret .none)) { s with heap:=h' }) :
  wpAny (model prog w) A (Builtin.«list.sort» ⟨[.ref a],[]⟩) P E s:=by
 have ha:a<s.heap.objs.size:=Heap.lt_size ho
 have hz:∀ k:Nat,k<=1000000->k<=sizeLine:=fun k hk=>Nat.le_of_lt (aB hk)
 rw[list_sort_plain]
 refine wpAny_bind (listItems_at ho rfl ?_)
 refine wpAny_bind (listUpdate_at ho rfl ?_ (hz _ (by rw[size_toArray]; omega)) (Nat.zero_le _))
 obtain⟨e1,ho1⟩:∃ e1,(s.heap.update a (Obj.mapSeq fun _=>#[])).get? a=some (seqObj "list" #[] e1):=⟨_,get?_update_seq ho (fun _=>#[])⟩
 refine wpAny_bind (seqEpoch_at ho1 rfl ?_)
 refine wpAny_bind (wpAny_newTuple ?_ (hz _ (by show vs.length<=_; omega)))
 refine wpAny_bind (wpAny_newList ?_ (Nat.zero_le _))
 refine wpAny_holding ?_
 obtain⟨h6,e6⟩:∃ h6,((s.heap.update a (Obj.mapSeq fun _=>#[])).push (seqObj "tuple" vs.toArray 0)).push (seqObj "list" #[] 0)=h6:=⟨_,rfl⟩
 show wpAny (model prog w) A _ P E { s with heap:=((s.heap.update a (Obj.mapSeq fun _=>#[])).push (seqObj "tuple" vs.toArray 0)).push (seqObj "list" #[] 0) }
 rw[e6]
 have ho6:h6.get? a=some (seqObj "list" #[] e1):=by
  rw[<- e6,Heap.get?_push_ne _ _ _ (by rw[size_push',Heap.size_update]; exact Nat.ne_of_lt (Nat.lt_succ_of_lt ha)),Heap.get?_push_ne _ _ _ (by rw[Heap.size_update]; exact Nat.ne_of_lt ha)]
  exact ho1
 have kp6:∀ b o,b≠a->s.heap.get? b=some o->h6.get? b=some o:=fun b o hb e=>by
  rw[<- e6]
  exact Heap.get?_push_of_some _ (Heap.get?_push_of_some _ (by rw[Heap.get?_update_ne _ _ _ _ hb]; exact e))
 have fin:∀ xs:Array Keyed,xs.Perm (pairsOf vs)->Asc g xs 0 xs.size->P (.done (.ret .none)) { s with heap:=h6.update a (Obj.mapSeq fun _=>xs.map (·.2)) }:=fun xs hp hs=>by
  have e7:=get?_update_seq ho6 (fun _=>xs.map (·.2))
  have e8:seqObj "list" (xs.map (·.2))=seqObj "list" (xs.map (·.2)).toList.toArray:=by rw[Array.toArray_toList]
  rw[e8] at e7
  exact h (xs.map (·.2)).toList _ _ (nD hp) (o9 hp hs) (fun b o hb e=>by rw[Heap.get?_update_ne _ _ _ _ hb]; exact kp6 b o hb e) e7
 dsimp only
 by_cases h2:vs.toArray.size<2
 ·rw[if_pos h2,if_pos h2]
  rw[size_toArray] at h2
  refine wpAny_bind (wpAny_pure ?_)
  rw[StateT.run_pure]
  refine wpAny_bind (wpAny_pure ?_)
  dsimp only
  refine wpAny_bind (seqEpoch_at ho6 rfl ?_)
  refine wpAny_bind (listUpdate_at ho6 rfl ?_ (Nat.zero_le _) (Nat.le_succ_of_le (hz _ (by rw[Array.size_map]; show(pairsOf vs).size<=_; rw[pairsOf_size]; omega))))
  simp only[bne_self_eq_false,Bool.false_eq_true,if_false]
  refine wpAny_pure (fin (pairsOf vs) (Array.Perm.refl _) ?_)
  intro i j _ hij hj
  rw[pairsOf_size] at hj
  omega
 ·rw[if_neg h2,if_neg h2]
  rw[size_toArray] at h2
  refine wpAny_bind (hkind h6 kp6 (by omega) _ ?_)
  have hs:Stt κ g U (SortSt.mk' κ (pairsOf vs) #[] 7 none):=by
   refine⟨rfl,rfl,fun i p hp=>?_,?_⟩
   ·have hm:p ∈ (pairsOf vs).toList:=by rw[Array.mem_toList_iff]; exact Array.mem_of_getElem? hp
    obtain⟨e1,e2⟩:=iR hm
    have:=hU p.2 e2
    rw[show(p.2,p.2)=p from Prod.ext e1.symm rfl] at this
    exact this
   ·refine dis_iff.mpr ?_
    show((pairsOf vs).toList.map g).Nodup
    rw[pairsOf_toList,gw]
    exact hd
  refine wpAny_bind (wpAny_mono (qG (st:=SortSt.mk' κ (pairsOf vs) #[] 7 none) (Q:=fun _ st'=>Fin (SortSt.mk' κ (pairsOf vs) #[] 7 none) st' g) (hcmp h6 kp6) hs rfl (by show 2<=(pairsOf vs).size; rw[pairsOf_size]; omega) (by show(pairsOf vs).size<128; rw[pairsOf_size]; omega) fun st' hf=>hf) ?_ fun _ _ e=>e)
  rintro⟨⟨⟩,st'⟩ s' ⟨rfl,hf⟩
  dsimp only
  have zf:=hf.e.size_eq
  refine wpAny_bind (seqEpoch_at ho6 rfl ?_)
  refine wpAny_bind (listUpdate_at ho6 rfl ?_ (Nat.zero_le _) (Nat.le_succ_of_le (hz _ (by rw[Array.size_map,zf]; show(pairsOf vs).size<=_; rw[pairsOf_size]; omega))))
  rw[hf.f]
  simp only[bne_self_eq_false,Bool.false_eq_true,if_false]
  exact wpAny_pure (fin (arrOf st') hf.e hf.a)
noncomputable def pk (i j:Int):Int:=i*1000000+j
noncomputable def hk (h:Heap) (v:Value):Int:=match v with
 | .ref a=>(match h.get? a with
  | some o=>(match o.data with
   | .seq xs _=>(match xs.toList with
    | [.int i _,.int j _]=>pk i j
    | _=>0)
   | _=>0)
  | none=>0)
 | _=>0
noncomputable def isP (h:Heap) (v:Value):Prop:=∃ a o i j t u n,v=.ref a/\h.get? a=some o/\o.cls=.type "tuple" /\ o.data=.seq #[.int i t,.int j u] n/\0<=j/\j<1000000
theorem hk_eq {h:Heap}{a:Addr}{o:Obj}{i j:Int}{t u:Tok}{n:Nat} (e:h.get? a=some o) (d:o.data=.seq #[.int i t,.int j u] n):hk h (.ref a)=pk i j:=by
 unfold hk
 simp only[e,d]
theorem pk_lt {i j i' j':Int} (h1:0<=j) (h2:j<1000000) (h3:0<=j') (h4:j'<1000000):decide (pk i j<pk i' j')=if i == i' then decide (j<j') else decide (i<i'):=by
 unfold pk
 by_cases e:i=i'
 ·subst e
  rw[if_pos (beq_self_eq_true i)]
  exact decide_eq_decide.mpr (by omega)
 ·rw[if_neg (by simpa using e)]
  exact decide_eq_decide.mpr (by omega)
theorem lO {h0:Heap}{a:Addr} (ha:∀ v,isP h0 v->v≠.ref a) (h':Heap) (kp:∀ b o,b≠a->h0.get? b=some o->h'.get? b=some o):Cmp (model prog w) A { s with heap:=h' } (tuples' true) (fun p=>hk h0 p.1) (fun p=>isP h0 p.1):=by
 intro x y hx hy Q hq
 obtain⟨x1,x2⟩:=x
 obtain⟨y1,y2⟩:=y
 have nx:=ha _ hx
 have ny:=ha _ hy
 obtain⟨b,o,i,j,t,u,n,rfl,e1,_,d1,b1,b2⟩:=hx
 obtain⟨c,o',i',j',t',u',n',rfl,e2,_,d2,b3,b4⟩:=hy
 dsimp only at nx ny ⊢
 have hq:Q (decide (hk h0 (.ref b)<hk h0 (.ref c))):=hq
 rw[hk_eq e1 d1,hk_eq e2 d2,pk_lt b1 b2 b3 b4] at hq
 have nx':b≠a:=fun e=>nx (by rw[e])
 have ny':c≠a:=fun e=>ny (by rw[e])
 refine PySem.W.kat_lt (s:={ s with heap:=h' }) (kp b o nx' e1) d1 (kp c o' ny' e2) d2 ?_
 refine PySem.W.kat_cons (wpAny_eqBool_int ?_)
 cases e:i == i' with
 | true=>
  rw[e,if_pos rfl] at hq
  refine PySem.W.kat_yes (PySem.W.kat_cons (wpAny_eqBool_int ?_))
  cases e':j == j' with
  | true=>
   refine PySem.W.kat_yes (PySem.W.kat_nil ⟨rfl,?_⟩)
   have:j=j':=by simpa using e'
   subst this
   simpa using hq
  | false=>
   refine PySem.W.kat_no (PySem.W.kat_one _ _ (PyProof.Rows.lt_int ?_))
   exact⟨rfl,hq⟩
 | false=>
  rw[e,if_neg (by simp)] at hq
  refine PySem.W.kat_no ?_
  exact oneLt_int ⟨rfl,hq⟩
theorem j3 {h0:Heap}{a:Addr} (ha:∀ v,isP h0 v->v≠.ref a) {h':Heap} (kp:∀ b o,b≠a->h0.get? b=some o->h'.get? b=some o):∀ vs:List Value,(∀ v ∈ vs,isP h0 v)->∃ fs,PySem.W.KatTups h' vs fs/\fs.length=vs.length/\∀ f ∈ fs,∃ i t,f=.int i t
 | [],_=>⟨[],trivial,rfl,fun _ h=>by cases h⟩
 | v::vs,hv=>by
  obtain⟨fs,h1,h2,h3⟩:=j3 ha kp vs fun x hx=>hv x (mem_cons_of_mem _ hx)
  have nv:=ha v (hv v mem_cons_self)
  obtain⟨b,o,i,j,t,u,n,rfl,e1,c1,d1,_,_⟩:=hv v mem_cons_self
  refine⟨.int i t::fs,PySem.W.KatTups.cons (kp b o (fun e=>nv (by rw[e])) e1) c1 d1 rfl h1,by rw[length_cons,length_cons,h2],fun f hf=>?_⟩
  rcases mem_cons.mp hf with rfl | hf
  ·exact⟨i,t,rfl⟩
  ·exact h3 f hf
theorem jN {h0:Heap}{a:Addr} (ha:∀ v,isP h0 v->v≠.ref a) {h':Heap} (kp:∀ b o,b≠a->h0.get? b=some o->h'.get? b=some o) {vs:List Value} (hv:∀ v ∈ vs,isP h0 v) (h2:2<=vs.length) {Q':SortKind->Shared->Prop}
  (h:Q' (tuples' true) { s with heap:=h' }):wpAny (model prog w) A (keyKind' vs.toArray) Q' E { s with heap:=h' }:=by
 obtain⟨fs,t,hl,hi⟩:=j3 ha kp vs hv
 refine PySem.W.kat_kind (T:=.type "int") t (by omega) (fun v hv'=>?_) (by rfl) h
 obtain⟨i,t,rfl⟩:=hi v hv'
 exact PySem.W.Looks.of_pure rfl
theorem sorted_pairs {x:Value}{vs:List Value}{s2:Shared}{Q:Value->Shared->Prop} (hcol:∀ (A:Around) (E:Value->Shared->Prop) (Q':List Value->Shared->Prop),Q' vs s2->wpAny (model prog w) A (collect x) Q' E s)
  (kp2:∀ b o,s.heap.get? b=some o->s2.heap.get? b=some o) (big:s.heap.objs.size<=s2.heap.objs.size) (h128:vs.length<128) (hv:∀ v ∈ vs,isP s.heap v) (hd:(vs.map (hk s.heap)).Nodup)
  (h:∀ D (out:List Value) c h',s.heap.objs.size<=D->out.Perm vs->out.Pairwise (fun x y=>hk s.heap x<hk s.heap y)->(∀ b o,s.heap.get? b=some o->h'.get? b=some o)->h'.get? D=some (seqObj "list" out.toArray c)->Q (.ref D) { s2 with heap:=h' }) :
  wpAny (model prog w) A (call (.builtin "sorted") [x]) Q E s:=by
 refine Calls.call_function_entry kind_sorted plain_sorted entry_sorted (args_sorted1 _) ?_
 unfold Builtin.«sorted»
 refine wpAny_bind (m:=checkCount "sorted" 1 1 _) (wpAny_pure ?_)
 refine wpAny_bind (hcol _ _ _ ?_)
 refine wpAny_bind (wpAny_newList ?_ (Nat.le_of_lt (aB (by omega))))
 have hoL:(s2.heap.push (seqObj "list" vs.toArray 0)).get? s2.heap.objs.size=some (seqObj "list" vs.toArray 0):=Heap.get?_push_size _ rfl
 have na:∀ v,isP s.heap v->v≠.ref s2.heap.objs.size:=fun v hv e=>by
  obtain⟨b,o,i,j,t,u,n,rfl,e1,_⟩:=hv
  cases e
  exact absurd (Nat.lt_of_lt_of_le (Heap.lt_size e1) big) (Nat.lt_irrefl _)
 have kp3:∀ {h':Heap},(∀ b o,b≠s2.heap.objs.size->(s2.heap.push (seqObj "list" vs.toArray 0)).get? b=some o->h'.get? b=some o)->∀ b o,b≠s2.heap.objs.size->s.heap.get? b=some o->h'.get? b=some o:=fun k b o hb e=>k b o hb (Heap.get?_push_of_some _ (kp2 b o e))
 refine wpAny_bind (wpAny_holding (wpAny_call_entry slot_list_sort ⟨_,hoL,rfl⟩ entry_list_sort (lsort (s:={ s2 with heap:=s2.heap.push (seqObj "list" vs.toArray 0) }) (κ:=tuples' true) (g:=fun p=>hk s.heap p.1) (U:=fun p=>isP s.heap p.1) hoL h128 (fun h' kp h2 Q' hq=>jN na (kp3 kp) hv h2 hq) (fun h' kp=>lO na h' (kp3 kp)) hv hd fun out c h' hp ho kp e=>⟨_,rfl,?_⟩) (args_list_sort _)))
 exact wpAny_pure ⟨_,rfl,h _ out c h' big hp ho (fun b o e'=>kp3 kp b o (fun q=>by subst q; exact absurd (Nat.lt_of_lt_of_le (Heap.lt_size e') big) (Nat.lt_irrefl _)) e') e⟩
end
theorem perm_lift {α β:Type} (f:α->β) {a b:List β} (h:a.Perm b):∀ ps:List α,b=ps.map f->∃ qs:List α,qs.Perm ps/\a=qs.map f:=by
 induction h with
 | nil=>intro ps e; exact⟨[],by cases ps <;> simp_all,rfl⟩
 | cons x _ ih=>
  intro ps e
  cases ps with
  | nil=>cases e
  | cons p ps=>
   rw[map_cons] at e
   injection e with e1 e2
   obtain⟨qs,h1,h2⟩:=ih ps e2
   exact⟨p::qs,h1.cons p,by rw[map_cons,h2,e1]⟩
 | swap x y l=>
  intro ps e
  match ps,e with
  | p::q::ps,e=>
   rw[map_cons,map_cons] at e
   injection e with e1 e2
   injection e2 with e2 e3
   exact⟨q::p::ps,List.Perm.swap _ _ _,by rw[map_cons,map_cons,e1,e2,e3]⟩
 | trans _ _ ih1 ih2=>
  intro ps e
  obtain⟨qs,h1,h2⟩:=ih2 ps e
  obtain⟨rs,h3,h4⟩:=ih1 qs h2
  exact⟨rs,h3.trans h1,h4⟩
theorem pk_inj {i j i' j':Int} (h1:0<=j) (h2:j<1000000) (h3:0<=j') (h4:j'<1000000) (e:pk i j=pk i' j'):(i,j)=(i',j'):=by
 unfold pk at e
 obtain rfl:i=i':=by omega
 obtain rfl:j=j':=by omega
 rfl
end L2.So
namespace L2
open PySem PySem.Spec PyProof.Rows
noncomputable abbrev Pr:=Addr×Int×Int
structure PrOk (K:PySem.W.Frag) (H:Hp) (ps:List Pr):Prop where
 t:∀ z ∈ ps,SqT K H z.1 [.int z.2.1,.int z.2.2]
 b:∀ z ∈ ps,0<=z.2.2/\z.2.2<1000000
 d:(ps.map (·.2)).Nodup
 l:ps.length<128
noncomputable def prV (ps:List Pr):List V:=ps.map fun z=>.ref z.1
noncomputable def tU (x y:Pr):Prop:=So.pk x.2.1 x.2.2<So.pk y.2.1 y.2.2
section
variable {X:Cx}
theorem kn:∀ (ps:List Pr) {its:List Value},Vals (prV ps) its->its=ps.map fun z=>Value.ref z.1
 | [],_,r=>by cases r; rfl
 | z::ps,_,r=>by
  cases r with
  | cons h r=>rw[kn ps r,show _=Value.ref z.1 from h]; rfl
theorem gP {pins} {s:Shared}{σ:St}{H:Hp} (I:Inv X pins σ H s) {ps:List Pr} (ok:PrOk X.K H ps):∀ z ∈ ps,So.isP s.heap (.ref z.1)/\So.hk s.heap (.ref z.1)=So.pk z.2.1 z.2.2:=by
 intro z hz
 obtain⟨its,rv,⟨o,ho,hc,n,hd⟩,_⟩:=I.tuple (ok.t z hz)
 cases rv with
 | cons h1 r1=>
  cases r1 with
  | cons h2 r2=>
   cases r2
   obtain⟨t,rfl⟩:=h1
   obtain⟨u,rfl⟩:=h2
   exact⟨⟨z.1,o,z.2.1,z.2.2,t,u,n,U,ho,hc,hd,(ok.b z hz).1,(ok.b z hz).2⟩,So.hk_eq ho hd⟩
theorem nj {pins} {s:Shared}{σ:St}{H:Hp} (I:Inv X pins σ H s) {ps:List Pr} (ok:PrOk X.K H ps):((ps.map fun z=>Value.ref z.1).map (So.hk s.heap)).Nodup:=by
 rw[map_map]
 have e:ps.map (So.hk s.heap ∘ fun z=>Value.ref z.1)=ps.map fun z=>So.pk z.2.1 z.2.2:=List.map_congr_left fun z hz=>(gP I ok z hz).2
 rw[e]
 have hd:=ok.d
 unfold List.Nodup at hd ⊢
 rw[List.pairwise_map] at hd ⊢
 refine List.Pairwise.imp_of_mem ?_ hd
 intro x y hx hy hne e
 have:=So.pk_inj (ok.b x hx).1 (ok.b x hx).2 (ok.b y hy).1 (ok.b y hy).2 e
 exact hne (by exact this)
theorem k9 {pins} {s s2:Shared}{σ:St}{H:Hp}{x:Value}{Q:VK} (I:Inv X pins σ H s) {ps:List Pr} (ok:PrOk X.K H ps)
  (hcol:∀ (A:Around) (E:Value->Shared->Prop) (Q':List Value->Shared->Prop),Q' (ps.map fun z=>Value.ref z.1) s2->wpAny (model X.prog X.w) A (collect x) Q' E s)
  (kp2:∀ b o,s.heap.get? b=some o->s2.heap.get? b=some o) (big:s.heap.objs.size<=s2.heap.objs.size) (e2:∃ h2,s2={ s with heap:=h2 })
  (q:∀ l qs,H l=none->qs.Perm ps->qs.Pairwise tU->Q (.ref l) (upd H l (.lst (prV qs)))):wpAny (model X.prog X.w) X.A (call (.builtin "sorted") [x]) (EP X pins σ Q) X.xe s:=by
 obtain⟨h2,rfl⟩:=e2
 refine So.sorted_pairs hcol kp2 big (by rw[length_map]; exact ok.l) (fun v hv=>?_) (nj I ok) fun D out c h' hD hp ho kp e=>?_
 ·obtain⟨z,hz,rfl⟩:=mem_map.mp hv
  exact(gP I ok z hz).1
 obtain⟨qs,hq1,rfl⟩:=So.perm_lift _ hp ps rfl
 refine⟨.ref D,_,I.laid (t':=s.toks) kp hD (show ObjOk X.prog X.w _ h' _ (.lst (prV qs)) from⟨?_,_,c,?_,e⟩),U,q D qs (I.hok.fresh hD) hq1 ?_⟩
 ·unfold prV
  rw[length_map,hq1.length_eq]
  exact Nat.le_of_lt (aB (by have:=ok.l; omega))
 ·unfold prV
  have:∀ l:List Pr,Vals (l.map fun z=>V.ref z.1) (l.map fun z=>Value.ref z.1):=fun l=>by
   induction l with
   | nil=>exact .nil
   | cons a l ih=>exact .cons rfl ih
  exact this qs
 ·rw[List.pairwise_map] at ho
  refine List.Pairwise.imp_of_mem ?_ ho
  intro a b ha hb hlt
  rw[(gP I ok a (hq1.mem_iff.mp ha)).2,(gP I ok b (hq1.mem_iff.mp hb)).2] at hlt
  exact hlt
theorem ip:b7 X (.builtin "sorted") (fun xs H Q=>∃ a ps,xs=[.ref a]/\SqL X.K H a (prV ps)/\PrOk X.K H ps/\∀ l qs,H l=none->qs.Perm ps->qs.Pairwise tU->Q (.ref l) (upd H l (.lst (prV qs)))):=by
 intro pins s σ H xs us Q I r h
 obtain⟨a,ps,rfl,hq,ok,q⟩:=h
 obtain⟨u,rfl,ru⟩:=cg r
 cases (show u=Value.ref a from ru)
 obtain⟨its,rv,p,hz⟩:=I.list hq
 have ei:=kn ps rv
 subst ei
 refine k9 I ok (fun A E Q' hq'=>collect_list p.isList hq' ?_) (fun b o e=>?_) ?_ ⟨_,U⟩ q
 ·rw[length_map]; exact Nat.le_of_lt (aB (by have:=ok.l; omega))
 ·have hlt:b≠s.heap.objs.size:=Nat.ne_of_lt (Heap.lt_size e)
  show((s.heap.push _).update _ _).get? b=_
  rw[Heap.get?_update_ne _ _ _ _ hlt]
  exact Heap.get?_push_of_some _ e
 ·show _<=((s.heap.push _).update _ _).objs.size
  rw[Heap.size_update,size_push']
  exact Nat.le_succ _
end
end L2
set_option Elab.async false
set_option linter.all false
set_option maxRecDepth 100000
namespace L2.So
open PySem
noncomputable def EA (h:Heap) (d:Addr) (es:Array DictEntry) (ep:Nat):Prop:=∃ o,h.get? d=some o/\o.ExactDict/\o.data=.dict es ep
section
variable {prog:Program}{w:World}{A:Around}{E:Value->Shared->Prop}{s:Shared}{d it:Addr}{es:Array DictEntry}{ep i:Nat}
theorem EA.ty (h:EA s.heap d es ep):s.TypeIs (.ref d) "dict":=let ⟨o,e,c,_⟩:=h; ⟨o,e,c.1⟩
theorem pL (lo:(d == sysModules)=false) (h:EA s.heap d es ep) {Q:Value->Shared->Prop}
  (q:Q (.ref s.heap.objs.size) { s with heap:=s.heap.push { cls:=.type "dict_keyiterator",data:=.fields #[.ref d,.int 0 0,.int es.size 0,.int ep 0] } }):wpAny (model prog w) A (pyIter (.ref d)) Q E s:=by
 have ty:=h.ty
 obtain⟨o,e,_,dt⟩:=h
 refine wpAny_pyIter_slot ty F.slot_dict_iter (wpAny_call_entry F.slot_dict_iter ty F.entry_dict_iter ?body (F.args_dict_iter_1 _))
 case body=>
  show wpAny _ _ (Builtin.Dict.dictSlotNone _ _ >>= _) _ _ s
  refine wpAny_bind (show wpAny _ _ (Builtin.Dict.dictSlotNone _ _) _ _ s from ?_)
  unfold Builtin.Dict.dictSlotNone
  refine wpAny_bind (wpAny_notOrdered_dict ty (show wpAny _ _ (pure (Value.ref d)) _ _ s from wpAny_pure ?_))
  refine wpAny_bind (wpAny_pure (show wpAny _ _ (Builtin.Dict.showsAll d >>= _) _ _ s from ?_))
  unfold Builtin.Dict.showsAll
  rw[if_neg (by rw[lo]; simp)]
  refine wpAny_bind (wpAny_pure (wpAny_bind (wpAny_dictEntries e dt (wpAny_bind (wpAny_dictEpoch e dt ?_)))))
  refine wpAny_bind (wpAny_newObj_type (wpAny_pure ⟨_,rfl,"dict_keyiterator",_,⟨_,Heap.get?_push_size _ rfl,rfl⟩,F.slot_dict_keyiterator_next.lookup,?_⟩))
  simpa [rawInt] using q
theorem pM (hit:s.heap.IsKeyIter it d i es.size ep) (h:EA s.heap d es ep) (hi:i<es.size) {Q:Option Value->Shared->Prop}
  (q:∀ h',h'.IsKeyIter it d (i+1) es.size ep->Heap.SameBut it s.heap h'->Q (some es[i].key) { s with heap:=h' }):wpAny (model prog w) A (pyNext (.ref it)) Q E s:=by
 have ty:=hit.typeIs
 obtain⟨o,e,c,dt⟩:=id hit
 obtain⟨o2,e2,_,dt2⟩:=h
 unfold pyNext
 refine wpAny_bind (wpAny_attempt (wpAny_callSpecial?_slot (name:=Str.ofString "__next__") ty F.slot_dict_keyiterator_next (wpAny_call_entry F.slot_dict_keyiterator_next ty F.entry_dict_keyiterator_next ?body (F.args_dict_keyiterator_next_1 _))))
 case body=>
  refine wpAny_bind (wpAny_pure (wpAny_bind (wpAny_bind ?_)))
  refine wpAny_bind (wpAny_typeNameOfWhole_keyiter ty (wpAny_pure (wpAny_bind (wpAny_fieldsOf e dt ?_))))
  have own:Builtin.Dict_items.ownsTuple "dict_keyiterator" = false:=by decide
  simp only[own,Bool.false_eq_true,if_false]
  show wpAny _ _ (if (Value.ref d == Value.none)=true then _ else _) _ _ s
  rw[if_neg (show ¬ ((Value.ref d == Value.none)=true) from Bool.false_ne_true)]
  refine wpAny_bind (wpAny_pure (wpAny_bind (wpAny_dictEntries e2 dt2 ?_)))
  rw[if_neg (by simp)]
  refine wpAny_bind (wpAny_pure (wpAny_bind (wpAny_dictEpoch e2 dt2 ?_)))
  rw[if_neg (by simp)]
  refine wpAny_pure ?_
  simp only[show ¬ ((i:Int)<0) from by omega,if_false,Int.toNat_natCast,Array.getElem?_eq_getElem hi]
  refine wpAny_bind (wpAny_bind (wpAny_typeNameOfWhole_keyiter ty (wpAny_pure ?_)))
  refine wpAny_bind (wpAny_isOneOf_keyiter ty ?_)
  show wpAny _ _ (setField (.ref it) 1 (rawInt ((i:Int)+1)) >>= _) _ _ s
  refine wpAny_bind (wpAny_setField e dt (by simp) ?_)
  have hit2:(s.heap.update it (Obj.mapFields (·.setIfInBounds 1 (rawInt ((i:Int)+1))))).IsKeyIter it d (i+1) es.size ep :=
   ⟨_,Heap.get?_update_self _ e (Obj.isFreed_of_fields (Obj.data_mapFields dt _)),(Obj.cls_mapFields ..).trans c,by rw[Obj.data_mapFields dt]; simp[rawInt]⟩
  refine wpAny_bind (wpAny_holding (wpAny_bind (wpAny_isOneOf_keyiter (s:={ s with heap:=s.heap.update it (Obj.mapFields (·.setIfInBounds 1 (rawInt ((i:Int)+1)))) }) hit2.typeIs ?_)))
  exact wpAny_pure (wpAny_pure ⟨_,rfl,wpAny_pure (q _ hit2 (Heap.SameBut.update ..))⟩)
theorem rT (hh:A.handled=none) (hit:s.heap.IsKeyIter it d es.size es.size ep) (h:EA s.heap d es ep) {Q:Option Value->Shared->Prop}
  (q:∀ h',Heap.ExtBut it s.heap h'->Q none { s with heap:=h' }):wpAny (model prog w) A (pyNext (.ref it)) Q E s:=by
 have ty:=hit.typeIs
 obtain⟨o,e,c,dt⟩:=id hit
 obtain⟨o2,e2,_,dt2⟩:=h
 unfold pyNext
 refine wpAny_bind (wpAny_attempt (wpAny_callSpecial?_slot (name:=Str.ofString "__next__") ty F.slot_dict_keyiterator_next (wpAny_call_entry F.slot_dict_keyiterator_next ty F.entry_dict_keyiterator_next ?body (F.args_dict_keyiterator_next_1 _))))
 case body=>
  refine wpAny_bind (wpAny_pure (wpAny_bind (wpAny_bind ?_)))
  refine wpAny_bind (wpAny_typeNameOfWhole_keyiter ty (wpAny_pure (wpAny_bind (wpAny_fieldsOf e dt ?_))))
  have own:Builtin.Dict_items.ownsTuple "dict_keyiterator" = false:=by decide
  simp only[own,Bool.false_eq_true,if_false]
  show wpAny _ _ (if (Value.ref d == Value.none)=true then _ else _) _ _ s
  rw[if_neg (show ¬ ((Value.ref d == Value.none)=true) from Bool.false_ne_true)]
  refine wpAny_bind (wpAny_pure (wpAny_bind (wpAny_dictEntries e2 dt2 ?_)))
  rw[if_neg (by simp)]
  refine wpAny_bind (wpAny_pure (wpAny_bind (wpAny_dictEpoch e2 dt2 ?_)))
  rw[if_neg (by simp)]
  refine wpAny_pure ?_
  simp only[show ¬ ((es.size:Int)<0) from by omega,if_false,Int.toNat_natCast,Array.getElem?_eq_none (Nat.le_refl es.size)]
  refine wpAny_bind (wpAny_bind (wpAny_typeNameOfWhole_keyiter ty (wpAny_pure ?_)))
  show wpAny _ _ (setField (.ref it) 0 .none >>= _) _ _ s
  refine wpAny_bind (wpAny_setField e dt (by simp) ?_)
  show wpAny _ _ (newExc (.type "StopIteration") [] >>= _) _ _ _
  refine wpAny_bind ?_
  simp only[newExc,newTuple]
  refine wpAny_bind (wpAny_newObj_type ?_ (by size_fits))
  refine wpAny_bind (m:=firstArgMember _ _) (wpAny_of_eq (a:=Value.none) rfl ?_)
  refine wpAny_newObj_type ?_ (by size_fits)
  simp only[raiseNew]
  refine wpAny_bind (wpAny_handled ?_)
  rw[show A.in1.handled=none from hh]
  refine wpAny_bind (wpAny_pure (wpAny_throw ?_))
  refine wpAny_bind (wpAny_isInstance (T := "StopIteration") (b:=true) ⟨_,Heap.get?_push_size _ rfl,rfl⟩ isSubtype_stop ?_)
  exact wpAny_pure (q _ (((Heap.SameBut.update ..).extBut.push _).push _))
theorem EA.to {h h':Heap} (x:EA h d es ep) (k:∀ o,h.get? d=some o->h'.get? d=some o):EA h' d es ep:=let ⟨o,e,r⟩:=x; ⟨o,k o e,r⟩
theorem og (hh:A.handled=none) (I d:Addr) (hne:d≠I) (es:Array DictEntry) (ep:Nat) :
  Walks prog w A I [I,d] [I] es.size (fun i v=>∃ h:i<es.size,v=es[i].key) (fun i h=>h.IsKeyIter I d i es.size ep/\EA h d es ep) where
 sub:=fun b hb=>by simp at hb; simp[hb]
 frame:=fun _ _ _ st hk=>⟨let ⟨o,e,r⟩:=st.1; ⟨o,hk I (by simp) o e,r⟩,st.2.to fun o e=>hk d (by simp) o e⟩
 item:=fun i s Q E hi st hQ=>pM st.1 st.2 hi fun h' k1 k2=>hQ _ h' s.toks ⟨hi,rfl⟩ ⟨k1,st.2.to fun o e=>k2.extBut d o hne e⟩ fun b o hb e=>k2.extBut b o (fun h=>hb (by simp[h])) e
 done:=fun s Q E st hQ=>rT hh st.1 st.2 fun h' k=>hQ h' s.toks fun b o hb e=>k b o (fun h=>hb (by simp[h])) e
 self:=fun _ _ _ _ st hQ=>wpAny_pyIter_keyiter st.1 hQ
theorem ea_src (lo:(d == sysModules)=false):PySem.W.KdlSrc prog w "dict" d d es.size (fun i v=>∃ h:i<es.size,v=es[i].key) (fun h=>EA h d es ep) where
 type:=fun s hm=>EA.ty hm
 there:=fun _ hm=>let ⟨_,e,_⟩:=hm; ⟨Heap.lt_size e,Heap.lt_size e⟩
 keep:=fun _ _ hm hk=>hm.to fun o e=>hk d (.inl rfl) o e
 notList:=by decide
 notTuple:=by decide
 hint:=fun _ _ _ _ hm hq=>PySem.W.kdl_hint_dict (EA.ty hm) hq
 iter:=fun A s hh hm=>⟨_,_,(fun _ _ hq=>pL lo hm hq),og hh _ d (Nat.ne_of_lt (let ⟨_,e,_⟩:=hm; Heap.lt_size e)) es ep,⟨⟨_,Heap.get?_push_size _ rfl,rfl,rfl⟩,hm.to fun o e=>Heap.get?_push_of_some _ e⟩⟩
end
end L2.So
namespace L2
open PySem PySem.Spec PyProof.Rows
section
variable {X:Cx}
theorem fw {α β:Type}{R:α->β->Prop}:∀ {xs:List α}{ys:List β},Paired R xs ys->xs.length=ys.length/\∀ (i:Nat) x y,xs[i]?=some x->ys[i]?=some y->R x y
 | _,_,.nil=>⟨U,fun i x y h=>by simp at h⟩
 | _,_,.cons h r=>by
  obtain⟨l,g⟩:=fw r
  refine⟨by rw[length_cons,length_cons,l],fun i x y h1 h2=>?_⟩
  cases i with
  | zero=>cases h1; cases h2; exact h
  | succ i=>exact g i x y h1 h2
theorem iq (hc:X.calm=true):b7 X (.type "list") (fun xs H Q=>∃ (p:Addr) (kvs:List (List Key×V)),xs=[.ref p]/\H p=some (.dT kvs)/\∀ l (as:List Addr),H l=none->as.length=kvs.length->(kvs.map (·.1)).Nodup->(∀ (i:Nat) k v a,kvs[i]?=some (k,v)->as[i]?=some a->H a=some (.tup (k.map kV)))->Q (.ref l) (upd H l (.lst (as.map V.ref)))):=by
 intro pins s σ H xs us Q I r h
 obtain⟨p,kvs,rfl,hp,q⟩:=h
 obtain⟨u,rfl,ru⟩:=cg r
 cases (show u=Value.ref p from ru)
 obtain⟨z,lo,zs,pr,o,es,ep,g1,g2,g3,g4,g5⟩:=(show ObjOk X.prog X.w H s.heap p (.dT kvs) from I.hok p _ hp)
 obtain⟨len,get⟩:=fw pr
 have sz:es.size=kvs.length:=by rw[<- Array.length_toList,g4,length_map,len]
 refine PySem.W.kdl_call (So.ea_src (es:=es) (ep:=ep) lo) (I.ok.hd hc) ⟨o,g1,g2,g3⟩ (by rw[sz]; exact z) fun h' tk acc c hk hS hi=>?_
 have key:∀ (i:Nat) (h:i<es.size) y,zs[i]?=some y->es[i].key=.ref y.2.1:=fun i h y hy=>by
  have e:es.toList[i]?=some es[i]:=by rw[Array.getElem?_toList,Array.getElem?_eq_getElem h]
  rw[g4,getElem?_map,hy] at e
  rw[<- Option.some.inj e]
  rfl
 refine⟨.ref s.heap.objs.size,_,I.laid hk (Nat.le_refl _) (show ObjOk X.prog X.w _ h' _ (.lst ((zs.map (·.2.1)).map V.ref)) from⟨?_,acc.toList,c,?_,by rw[Array.toArray_toList]; exact hS⟩),U,q _ (zs.map (·.2.1)) (I.hok.fresh (Nat.le_refl _)) (by rw[length_map,len]) ?_ fun i k v a h1 h2=>?_⟩
 ·rw[length_map,length_map,<- len]; exact z
 ·refine cz (P:=fun i v=>∃ h:i<es.size,v=es[i].key) (by rw[length_map,length_map,Array.length_toList,hi.1,sz,len]) (fun i v e=>hi.2 i v (by simpa using e)) (fun i v x ⟨h,e1⟩ ex=>?_)
  rw[getElem?_map,getElem?_map] at ex
  cases hy:zs[i]? with
  | none=>rw[hy] at ex; cases ex
  | some y=>
   rw[hy] at ex
   cases ex
   rw[e1,key i h y hy]
   exact rfl
 ·have e:kvs.map (·.1)=zs.map (·.1):=List.ext_getElem? fun i=>by
   rw[getElem?_map,getElem?_map]
   cases h1:kvs[i]? with
   | none=>rw[List.getElem?_eq_none (by rw[<- len]; exact List.getElem?_eq_none_iff.mp h1)]; rfl
   | some x=>
    have hl:=(List.getElem?_eq_some_iff.mp h1).1
    have h2:=getElem?_eq_getElem (l:=zs) (i:=i) (by rw[<- len]; exact hl)
    rw[h2]
    exact congrArg some (get i _ _ h1 h2).1
  rw[e]
  exact g5
 ·rw[getElem?_map] at h2
  obtain⟨y,hy,rfl⟩:=Option.map_eq_some_iff.mp h2
  exact(get i _ y h1 hy).2.1
end
end L2
set_option Elab.async false
set_option linter.all false
set_option maxRecDepth 100000
set_option maxHeartbeats 4000000
namespace P
open PySem L2
noncomputable def top (i:Nat):Stmt:=PySem.Challenge.pw_lazyrails_k26_whole_fate.main.body.getD i (.Pass ⟨0,0,0,0⟩)
noncomputable abbrev qj:Stmt:=top 60
noncomputable abbrev kg:Stmt:=top 39
noncomputable abbrev qh:Stmt:=top 54
noncomputable abbrev kh:Stmt:=top 48
noncomputable abbrev mX:Stmt:=top 45
noncomputable abbrev kc:Stmt:=top 44
noncomputable abbrev mV:Stmt:=top 46
noncomputable abbrev sC:Stmt:=top 50
noncomputable abbrev m7:Stmt:=top 49
noncomputable abbrev sB:Stmt:=top 51
noncomputable abbrev mU:Stmt:=top 53
noncomputable abbrev ka:Stmt:=top 55
noncomputable abbrev qi:Stmt:=top 29
noncomputable abbrev sS:Stmt:=top 27
noncomputable abbrev sF:Stmt:=top 24
noncomputable abbrev sR:Stmt:=top 21
noncomputable abbrev sE:Stmt:=top 19
noncomputable abbrev sJ:Stmt:=top 20
noncomputable abbrev sY:Stmt:=top 22
noncomputable abbrev tu:Stmt:=top 25
noncomputable abbrev mQ:Stmt:=top 52
noncomputable abbrev sD:Stmt:=top 47
noncomputable abbrev j9:Stmt:=top 59
noncomputable abbrev mW:Stmt:=top 56
noncomputable abbrev mZ:Stmt:=top 33
noncomputable abbrev mR:Stmt:=top 31
noncomputable abbrev mY:Stmt:=top 28
noncomputable abbrev ki:Stmt:=top 35
noncomputable abbrev tt:Stmt:=top 34
noncomputable abbrev sA:Stmt:=top 41
noncomputable abbrev j8:Stmt:=top 40
noncomputable abbrev qk:Stmt:=top 58
noncomputable abbrev qg:Stmt:=top 57
noncomputable abbrev sX:Stmt:=top 23
noncomputable abbrev sQ:Stmt:=aT (top 37) 0
noncomputable abbrev sW:Stmt:=aT (top 37) 6
noncomputable abbrev tD:Stmt:=aT (top 37) 24
noncomputable abbrev tz:Stmt:=aT (top 37) 22
noncomputable abbrev tj:Stmt:=aT (top 37) 5
noncomputable abbrev tF:Stmt:=aT (top 37) 25
noncomputable abbrev tE:Stmt:=aT (top 37) 23
noncomputable abbrev sI:Stmt:=aT (top 37) 7
noncomputable abbrev sH:Stmt:=aT (top 37) 1
noncomputable abbrev tm:Stmt:=aT (top 37) 2
noncomputable abbrev sP:Stmt:=aT (top 37) 4
noncomputable abbrev sV:Stmt:=aT (top 37) 9
noncomputable abbrev s8:Stmt:=aT (top 37) 19
noncomputable abbrev sO:Stmt:=aT (top 37) 14
noncomputable abbrev sN:Stmt:=aT (top 37) 18
noncomputable abbrev sM:Stmt:=aT (top 37) 17
noncomputable abbrev sG:Stmt:=aT (top 37) 16
noncomputable abbrev sU:Stmt:=aT (top 37) 21
noncomputable abbrev sZ:Stmt:=aT (top 37) 12
noncomputable abbrev sL:Stmt:=aT (top 37) 13
noncomputable abbrev sT:Stmt:=aT (top 37) 20
noncomputable abbrev sK:Stmt:=aT (top 37) 15
noncomputable abbrev tw:Stmt:=aT (top 37) 11
set_option genInjectivity false in
set_option genSizeOf false in
structure Adr where
 f_law:Addr
 d_law:FuncData
 v_law:Value
 f_draws:Addr
 d_draws:FuncData
 f_set:Addr
 d_set:FuncData
 f_built:Addr
 d_built:FuncData
 f_kind:Addr
 d_kind:FuncData
 f_kinds:Addr
 d_kinds:FuncData
 f_many:Addr
 d_many:FuncData
 f_Jx:Addr
 d_Jx:FuncData
 f_ends:Addr
 d_ends:FuncData
 f_Jy:Addr
 d_Jy:FuncData
 f_size:Addr
 d_size:FuncData
 f_links:Addr
 d_links:FuncData
 f_run:Addr
 d_run:FuncData
 f_Jh:Addr
 d_Jh:FuncData
 f_Ju:Addr
 d_Ju:FuncData
 f_Ji:Addr
 d_Ji:FuncData
 f_Jv:Addr
 d_Jv:FuncData
 f_Jq:Addr
 d_Jq:FuncData
 f_Jb:Addr
 d_Jb:FuncData
 f_J5:Addr
 d_J5:FuncData
 f_walk:Addr
 d_walk:FuncData
 f_Jw:Addr
 d_Jw:FuncData
 f_right:Addr
 d_right:FuncData
 f_look:Addr
 d_look:FuncData
 f_fate:Addr
 d_fate:FuncData
 f_twin:Addr
 d_twin:FuncData
 f_held:Addr
 d_held:FuncData
 f_alike:Addr
 d_alike:FuncData
 f_J6:Addr
 d_J6:FuncData
 f_is:Addr
 d_is:FuncData
 f_whole:Addr
 d_whole:FuncData
 f_due:Addr
 d_due:FuncData
 f_why:Addr
 d_why:FuncData
 f_Jc:Addr
 d_Jc:FuncData
 f_Jj:Addr
 d_Jj:FuncData
 f_Jd:Addr
 d_Jd:FuncData
 f_J2:Addr
 d_J2:FuncData
 f_J3:Addr
 d_J3:FuncData
 f_J8:Addr
 d_J8:FuncData
 f_J0:Addr
 d_J0:FuncData
 f_J1:Addr
 d_J1:FuncData
 f_Jr:Addr
 d_Jr:FuncData
 f_Js:Addr
 d_Js:FuncData
 v_Js:Value
 f_J7:Addr
 d_J7:FuncData
 v_J7:Value
 f_Jk:Addr
 d_Jk:FuncData
 f_Je:Addr
 d_Je:FuncData
 f_J9:Addr
 d_J9:FuncData
 f_Jl:Addr
 d_Jl:FuncData
 f_Jm:Addr
 d_Jm:FuncData
 f_Jn:Addr
 d_Jn:FuncData
 f_Jt:Addr
 d_Jt:FuncData
 f_Jf:Addr
 d_Jf:FuncData
 f_Ja:Addr
 d_Ja:FuncData
 f_Jo:Addr
 d_Jo:FuncData
 f_Jg:Addr
 d_Jg:FuncData
 f_Jp:Addr
 d_Jp:FuncData
 f_J4:Addr
 d_J4:FuncData
 c_Yard:Addr
 u_ENDS:Value
 u_LAST_NOTE:Value
 u_POINTS:Value
 u_STEM:Value
structure Txt (K:PySem.W.Frag) (mg:Str->Option Value) (t:Adr):Prop where
 F_law:FunG K "law" "law" qj t.v_law t.f_law t.d_law
 F_draws:FunG K "_law_draws" "_law_draws" kg .none t.f_draws t.d_draws
 F_set:FunG K "_law_set" "_law_set" qh .none t.f_set t.d_set
 F_built:FunG K "_law_built" "_law_built" kh .none t.f_built t.d_built
 F_kind:FunG K "_law_kind" "_law_kind" mX .none t.f_kind t.d_kind
 F_kinds:FunG K "_law_kinds" "_law_kinds" kc .none t.f_kinds t.d_kinds
 F_many:FunG K "_law_many" "_law_many" mV .none t.f_many t.d_many
 F_Jx:FunG K "_law_linked" "_law_linked" sC .none t.f_Jx t.d_Jx
 F_ends:FunG K "_law_ends" "_law_ends" m7 .none t.f_ends t.d_ends
 F_Jy:FunG K "_law_thrown" "_law_thrown" sB .none t.f_Jy t.d_Jy
 F_size:FunG K "_law_size" "_law_size" mU .none t.f_size t.d_size
 F_links:FunG K "_law_links" "_law_links" ka .none t.f_links t.d_links
 F_run:FunG K "run" "run" qi .none t.f_run t.d_run
 F_Jh:FunG K "next_step" "next_step" sS .none t.f_Jh t.d_Jh
 F_Ju:FunG K "passage" "passage" sF .none t.f_Ju t.d_Ju
 F_Ji:FunG K "check_end" "check_end" sR .none t.f_Ji t.d_Ji
 F_Jv:FunG K "ends_of" "ends_of" sE .none t.f_Jv t.d_Jv
 F_Jq:FunG K "is_point" "is_point" sJ .none t.f_Jq t.d_Jq
 F_Jb:FunG K "check_side" "check_side" sY .none t.f_Jb t.d_Jb
 F_J5:FunG K "point_passage" "point_passage" tu .none t.f_J5 t.d_J5
 F_walk:FunG K "_law_walk" "_law_walk" mQ .none t.f_walk t.d_walk
 F_Jw:FunG K "_law_passing" "_law_passing" sD .none t.f_Jw t.d_Jw
 F_right:FunG K "_law_right" "_law_right" j9 .none t.f_right t.d_right
 F_look:FunG K "_law_look" "_law_look" mW .none t.f_look t.d_look
 F_fate:FunG K "fate" "fate" mZ .none t.f_fate t.d_fate
 F_twin:FunG K "twin" "twin" mR .none t.f_twin t.d_twin
 F_held:FunG K "held" "held" mY .none t.f_held t.d_held
 F_alike:FunG K "alike" "alike" ki .none t.f_alike t.d_alike
 F_J6:FunG K "fate_on_round" "fate_on_round" tt .none t.f_J6 t.d_J6
 F_is:FunG K "_law_is" "_law_is" sA .none t.f_is t.d_is
 F_whole:FunG K "_law_whole" "_law_whole" j8 .none t.f_whole t.d_whole
 F_due:FunG K "_law_due" "_law_due" qk .none t.f_due t.d_due
 F_why:FunG K "_law_why" "_law_why" qg .none t.f_why t.d_why
 F_Jc:FunG K "check_note" "check_note" sX .none t.f_Jc t.d_Jc
 F_Jj:FunG K "__init__" "Yard.__init__" sQ .none t.f_Jj t.d_Jj
 F_Jd:FunG K "throw" "Yard.throw" sW .none t.f_Jd t.d_Jd
 F_J2:FunG K "check_rod" "Yard.check_rod" tD .none t.f_J2 t.d_J2
 F_J3:FunG K "end_trail" "Yard.end_trail" tz .none t.f_J3 t.d_J3
 F_J8:FunG K "unlink" "Yard.unlink" tj .none t.f_J8 t.d_J8
 F_J0:FunG K "check_there" "Yard.check_there" tF .none t.f_J0 t.d_J0
 F_J1:FunG K "check_piece" "Yard.check_piece" tE .none t.f_J1 t.d_J1
 F_Jr:FunG K "put" "Yard.put" sI .none t.f_Jr t.d_Jr
 F_Js:FunG K "lay" "Yard.lay" sH t.v_Js t.f_Js t.d_Js
 F_J7:FunG K "new_rod" "Yard.new_rod" tm t.v_J7 t.f_J7 t.d_J7
 F_Jk:FunG K "link" "Yard.link" sP .none t.f_Jk t.d_Jk
 F_Je:FunG K "carry" "Yard.carry" sV .none t.f_Je t.d_Je
 F_J9:FunG K "engine" "Yard.engine" s8 .none t.f_J9 t.d_J9
 F_Jl:FunG K "kind" "Yard.kind" sO .none t.f_Jl t.d_Jl
 F_Jm:FunG K "mate" "Yard.mate" sN .none t.f_Jm t.d_Jm
 F_Jn:FunG K "side" "Yard.side" sM .none t.f_Jn t.d_Jn
 F_Jt:FunG K "rod" "Yard.rod" sG .none t.f_Jt t.d_Jt
 F_Jf:FunG K "steps" "Yard.steps" sU .none t.f_Jf t.d_Jf
 F_Ja:FunG K "pieces" "Yard.pieces" sZ .none t.f_Ja t.d_Ja
 F_Jo:FunG K "rods" "Yard.rods" sL .none t.f_Jo t.d_Jo
 F_Jg:FunG K "bells" "Yard.bells" sT .none t.f_Jg t.d_Jg
 F_Jp:FunG K "note" "Yard.note" sK .none t.f_Jp t.d_Jp
 F_J4:FunG K "make_twin" "Yard.make_twin" tw .none t.f_J4 t.d_J4
 m_law:mg "law" = some (.ref t.f_law)
 e_law:t.v_law=.none
 m_draws:mg "_law_draws" = some (.ref t.f_draws)
 m_set:mg "_law_set" = some (.ref t.f_set)
 m_built:mg "_law_built" = some (.ref t.f_built)
 m_kind:mg "_law_kind" = some (.ref t.f_kind)
 m_kinds:mg "_law_kinds" = some (.ref t.f_kinds)
 m_many:mg "_law_many" = some (.ref t.f_many)
 m_Jx:mg "_law_linked" = some (.ref t.f_Jx)
 m_ends:mg "_law_ends" = some (.ref t.f_ends)
 m_Jy:mg "_law_thrown" = some (.ref t.f_Jy)
 m_size:mg "_law_size" = some (.ref t.f_size)
 m_links:mg "_law_links" = some (.ref t.f_links)
 m_run:mg "run" = some (.ref t.f_run)
 m_Jh:mg "next_step" = some (.ref t.f_Jh)
 m_Ju:mg "passage" = some (.ref t.f_Ju)
 m_Ji:mg "check_end" = some (.ref t.f_Ji)
 m_Jv:mg "ends_of" = some (.ref t.f_Jv)
 m_Jq:mg "is_point" = some (.ref t.f_Jq)
 m_Jb:mg "check_side" = some (.ref t.f_Jb)
 m_J5:mg "point_passage" = some (.ref t.f_J5)
 m_walk:mg "_law_walk" = some (.ref t.f_walk)
 m_Jw:mg "_law_passing" = some (.ref t.f_Jw)
 m_right:mg "_law_right" = some (.ref t.f_right)
 m_look:mg "_law_look" = some (.ref t.f_look)
 m_fate:mg "fate" = some (.ref t.f_fate)
 m_twin:mg "twin" = some (.ref t.f_twin)
 m_held:mg "held" = some (.ref t.f_held)
 m_alike:mg "alike" = some (.ref t.f_alike)
 m_J6:mg "fate_on_round" = some (.ref t.f_J6)
 m_is:mg "_law_is" = some (.ref t.f_is)
 m_whole:mg "_law_whole" = some (.ref t.f_whole)
 m_due:mg "_law_due" = some (.ref t.f_due)
 m_why:mg "_law_why" = some (.ref t.f_why)
 m_Jc:mg "check_note" = some (.ref t.f_Jc)
 M_Jd:Meth K t.c_Yard "throw" t.f_Jd
 M_J2:Meth K t.c_Yard "check_rod" t.f_J2
 M_J3:Meth K t.c_Yard "end_trail" t.f_J3
 M_J8:Meth K t.c_Yard "unlink" t.f_J8
 M_J0:Meth K t.c_Yard "check_there" t.f_J0
 M_J1:Meth K t.c_Yard "check_piece" t.f_J1
 M_Jr:Meth K t.c_Yard "put" t.f_Jr
 M_Js:Meth K t.c_Yard "lay" t.f_Js
 D_Js:∃ (T:Addr) (od:Option Addr) (n:Nat) (sl:Array (Option Value)) (tk0:Tok),t.v_Js=.ref T/\K.lookup T=some ⟨.type "tuple",od,.seq #[.int 0 tk0,.none] n,sl⟩
 M_J7:Meth K t.c_Yard "new_rod" t.f_J7
 D_J7:∃ (T:Addr) (od:Option Addr) (n:Nat) (sl:Array (Option Value)) (tk0:Tok),t.v_J7=.ref T/\K.lookup T=some ⟨.type "tuple",od,.seq #[.int 1 tk0] n,sl⟩
 M_Jk:Meth K t.c_Yard "link" t.f_Jk
 M_Je:Meth K t.c_Yard "carry" t.f_Je
 M_J9:Meth K t.c_Yard "engine" t.f_J9
 M_Jl:Meth K t.c_Yard "kind" t.f_Jl
 M_Jm:Meth K t.c_Yard "mate" t.f_Jm
 M_Jn:Meth K t.c_Yard "side" t.f_Jn
 M_Jt:Meth K t.c_Yard "rod" t.f_Jt
 M_Jf:Meth K t.c_Yard "steps" t.f_Jf
 M_Ja:Meth K t.c_Yard "pieces" t.f_Ja
 M_Jo:Meth K t.c_Yard "rods" t.f_Jo
 M_Jg:Meth K t.c_Yard "bells" t.f_Jg
 M_Jp:Meth K t.c_Yard "note" t.f_Jp
 M_J4:Meth K t.c_Yard "make_twin" t.f_J4
 cl_Yard:Cls K t.c_Yard
 m_Yard:mg "Yard" = some (.ref t.c_Yard)
 mk_Yard:Mk K t.c_Yard t.f_Jj
 n_Yard_next_piece:NoAttr K t.c_Yard "next_piece"
 n_Yard_kinds:NoAttr K t.c_Yard "kinds"
 n_Yard_notes:NoAttr K t.c_Yard "notes"
 n_Jo_under:NoAttr K t.c_Yard "rods_under"
 n_Yard_sides:NoAttr K t.c_Yard "sides"
 n_Yard_mates:NoAttr K t.c_Yard "mates"
 n_J9_end:NoAttr K t.c_Yard "engine_end"
 n_Yard_rung:NoAttr K t.c_Yard "rung"
 n_Yard_trail:NoAttr K t.c_Yard "trail"
 z_abs:mg "abs" = none
 z_bool:mg "bool" = none
 z_dict:mg "dict" = none
 z_enumerate:mg "enumerate" = none
 z_int:mg "int" = none
 z_isinstance:mg "isinstance" = none
 z_len:mg "len" = none
 z_list:mg "list" = none
 z_max:mg "max" = none
 z_range:mg "range" = none
 z_sorted:mg "sorted" = none
 z_tuple:mg "tuple" = none
 g_ENDS:mg "ENDS" = some t.u_ENDS
 x_ENDS:∃ a,t.u_ENDS=.ref a/\p6 K a [("line",.int 2),("bell",.int 2),("stop",.int 1),("still",.int 3),("lazy",.int 3),("turning",.int 3)]
 g_LAST_NOTE:mg "LAST_NOTE" = some t.u_LAST_NOTE
 r_LAST_NOTE:RelV (.int 9999) t.u_LAST_NOTE
 g_POINTS:mg "POINTS" = some t.u_POINTS
 x_POINTS:∃ (a:Addr) (o:Obj) (its:Array Value) (n:Nat),t.u_POINTS=.ref a/\K.lookup a=some o/\o.cls=.type "tuple" /\ o.data=.seq its n/\its.size<=sizeLine/\Vals [.str "still",.str "lazy",.str "turning"] its.toList
 g_STEM:mg "STEM" = some t.u_STEM
 r_STEM:RelV (.int 0) t.u_STEM
section
variable {K:PySem.W.Frag}{mg:Str->Option Value}{t:Adr}
theorem lS_ {us:List Value}{n:Nat} (h:us.length=n+1):∃ a t,us=a::t/\t.length=n:=by
 cases us with
 | nil=>cases h
 | cons a t=>exact⟨a,t,rfl,Nat.succ.inj h⟩
theorem l0_ {us:List Value} (h:us.length=0):us=[]:=List.eq_nil_of_length_eq_zero h
theorem bi0 {x q:Str}{st:Stmt}{dV:Value}{f:Addr}{fd:FuncData} (F:FunG K x q st dV f fd) (e:dV=.none:=by rfl) (h:∀ (kV doc pm:Value) (an:Option Addr) (cdv ct:Value),bindArgs (W.fnOf x q (bF st) (bB st) (ah st) .none kV doc pm an cdv ct) ⟨[],[]⟩=pure []:=by intros; rfl):Binds K fd [] []:=by
 subst e
 refine F.binds fun kV doc pm an cdv ct us hl=>?_
 cases l0_ hl
 exact h kV doc pm an cdv ct
theorem bi1 {x q:Str}{st:Stmt}{dV:Value}{f:Addr}{fd:FuncData}{a0:Str} (F:FunG K x q st dV f fd) (e:dV=.none:=by rfl) (h:∀ (kV doc pm:Value) (an:Option Addr) (cdv ct u0:Value),bindArgs (W.fnOf x q (bF st) (bB st) (ah st) .none kV doc pm an cdv ct) ⟨[u0],[]⟩=pure [(a0,u0)]:=by intros; rfl):Binds K fd [a0] []:=by
 subst e
 refine F.binds fun kV doc pm an cdv ct us hl=>?_
 obtain⟨u0,w0,rfl,g0⟩:=lS_ hl
 cases l0_ g0
 exact h kV doc pm an cdv ct u0
theorem bi2 {x q:Str}{st:Stmt}{dV:Value}{f:Addr}{fd:FuncData}{a0 a1:Str} (F:FunG K x q st dV f fd) (e:dV=.none:=by rfl) (h:∀ (kV doc pm:Value) (an:Option Addr) (cdv ct u0 u1:Value),bindArgs (W.fnOf x q (bF st) (bB st) (ah st) .none kV doc pm an cdv ct) ⟨[u0,u1],[]⟩=pure [(a0,u0),(a1,u1)]:=by intros; rfl):Binds K fd [a0,a1] []:=by
 subst e
 refine F.binds fun kV doc pm an cdv ct us hl=>?_
 obtain⟨u0,w0,rfl,g0⟩:=lS_ hl
 obtain⟨u1,w1,rfl,g1⟩:=lS_ g0
 cases l0_ g1
 exact h kV doc pm an cdv ct u0 u1
theorem bi3 {x q:Str}{st:Stmt}{dV:Value}{f:Addr}{fd:FuncData}{a0 a1 a2:Str} (F:FunG K x q st dV f fd) (e:dV=.none:=by rfl) (h:∀ (kV doc pm:Value) (an:Option Addr) (cdv ct u0 u1 u2:Value),bindArgs (W.fnOf x q (bF st) (bB st) (ah st) .none kV doc pm an cdv ct) ⟨[u0,u1,u2],[]⟩=pure [(a0,u0),(a1,u1),(a2,u2)]:=by intros; rfl):Binds K fd [a0,a1,a2] []:=by
 subst e
 refine F.binds fun kV doc pm an cdv ct us hl=>?_
 obtain⟨u0,w0,rfl,g0⟩:=lS_ hl
 obtain⟨u1,w1,rfl,g1⟩:=lS_ g0
 obtain⟨u2,w2,rfl,g2⟩:=lS_ g1
 cases l0_ g2
 exact h kV doc pm an cdv ct u0 u1 u2
theorem bi4 {x q:Str}{st:Stmt}{dV:Value}{f:Addr}{fd:FuncData}{a0 a1 a2 a3:Str} (F:FunG K x q st dV f fd) (e:dV=.none:=by rfl) (h:∀ (kV doc pm:Value) (an:Option Addr) (cdv ct u0 u1 u2 u3:Value),bindArgs (W.fnOf x q (bF st) (bB st) (ah st) .none kV doc pm an cdv ct) ⟨[u0,u1,u2,u3],[]⟩=pure [(a0,u0),(a1,u1),(a2,u2),(a3,u3)]:=by intros; rfl):Binds K fd [a0,a1,a2,a3] []:=by
 subst e
 refine F.binds fun kV doc pm an cdv ct us hl=>?_
 obtain⟨u0,w0,rfl,g0⟩:=lS_ hl
 obtain⟨u1,w1,rfl,g1⟩:=lS_ g0
 obtain⟨u2,w2,rfl,g2⟩:=lS_ g1
 obtain⟨u3,w3,rfl,g3⟩:=lS_ g2
 cases l0_ g3
 exact h kV doc pm an cdv ct u0 u1 u2 u3
theorem bi5 {x q:Str}{st:Stmt}{dV:Value}{f:Addr}{fd:FuncData}{a0 a1 a2 a3 a4:Str} (F:FunG K x q st dV f fd) (e:dV=.none:=by rfl) (h:∀ (kV doc pm:Value) (an:Option Addr) (cdv ct u0 u1 u2 u3 u4:Value),bindArgs (W.fnOf x q (bF st) (bB st) (ah st) .none kV doc pm an cdv ct) ⟨[u0,u1,u2,u3,u4],[]⟩=pure [(a0,u0),(a1,u1),(a2,u2),(a3,u3),(a4,u4)]:=by intros; rfl):Binds K fd [a0,a1,a2,a3,a4] []:=by
 subst e
 refine F.binds fun kV doc pm an cdv ct us hl=>?_
 obtain⟨u0,w0,rfl,g0⟩:=lS_ hl
 obtain⟨u1,w1,rfl,g1⟩:=lS_ g0
 obtain⟨u2,w2,rfl,g2⟩:=lS_ g1
 obtain⟨u3,w3,rfl,g3⟩:=lS_ g2
 obtain⟨u4,w4,rfl,g4⟩:=lS_ g3
 cases l0_ g4
 exact h kV doc pm an cdv ct u0 u1 u2 u3 u4
theorem bi7 {x q:Str}{st:Stmt}{dV:Value}{f:Addr}{fd:FuncData}{a0 a1 a2 a3 a4 a5 a6:Str} (F:FunG K x q st dV f fd) (e:dV=.none:=by rfl) (h:∀ (kV doc pm:Value) (an:Option Addr) (cdv ct u0 u1 u2 u3 u4 u5 u6:Value),bindArgs (W.fnOf x q (bF st) (bB st) (ah st) .none kV doc pm an cdv ct) ⟨[u0,u1,u2,u3,u4,u5,u6],[]⟩=pure [(a0,u0),(a1,u1),(a2,u2),(a3,u3),(a4,u4),(a5,u5),(a6,u6)]:=by intros; rfl):Binds K fd [a0,a1,a2,a3,a4,a5,a6] []:=by
 subst e
 exact F.binds fun kV doc pm an cdv ct us hl=>match us,hl with | [u0,u1,u2,u3,u4,u5,u6],_=>h kV doc pm an cdv ct u0 u1 u2 u3 u4 u5 u6
theorem bi8 {x q:Str}{st:Stmt}{dV:Value}{f:Addr}{fd:FuncData}{a0 a1 a2 a3 a4 a5 a6 a7:Str} (F:FunG K x q st dV f fd) (e:dV=.none:=by rfl) (h:∀ (kV doc pm:Value) (an:Option Addr) (cdv ct u0 u1 u2 u3 u4 u5 u6 u7:Value),bindArgs (W.fnOf x q (bF st) (bB st) (ah st) .none kV doc pm an cdv ct) ⟨[u0,u1,u2,u3,u4,u5,u6,u7],[]⟩=pure [(a0,u0),(a1,u1),(a2,u2),(a3,u3),(a4,u4),(a5,u5),(a6,u6),(a7,u7)]:=by intros; rfl):Binds K fd [a0,a1,a2,a3,a4,a5,a6,a7] []:=by
 subst e
 exact F.binds fun kV doc pm an cdv ct us hl=>match us,hl with | [u0,u1,u2,u3,u4,u5,u6,u7],_=>h kV doc pm an cdv ct u0 u1 u2 u3 u4 u5 u6 u7
theorem pR (T:Txt K mg t):Binds K t.d_draws ["_law_script","_law_many_here"] []:=bi2 T.F_draws
theorem b_set (T:Txt K mg t):Binds K t.d_set ["_law_d","_law_at"] []:=bi2 T.F_set
theorem pS (T:Txt K mg t):Binds K t.d_built ["_law_d","_law_at","_law_many_here"] []:=bi3 T.F_built
theorem r8 (T:Txt K mg t):Binds K t.d_kind ["_law_draw"] []:=bi1 T.F_kind
theorem pQ (T:Txt K mg t):Binds K t.d_kinds [] []:=bi0 T.F_kinds
theorem iu (T:Txt K mg t):Binds K t.d_many ["_law_kind_here"] []:=bi1 T.F_many
theorem b_Jx (T:Txt K mg t):Binds K t.d_Jx ["_law_yard","_law_kinds_here","_law_d","_law_at","_law_many_here"] []:=bi5 T.F_Jx
theorem jV (T:Txt K mg t):Binds K t.d_ends ["_law_kinds_here"] []:=bi1 T.F_ends
theorem b_Jy (T:Txt K mg t):Binds K t.d_Jy ["_law_yard","_law_sides","_law_d","_law_at"] []:=bi4 T.F_Jy
theorem r6 (T:Txt K mg t):Binds K t.d_size ["_law_draw"] []:=bi1 T.F_size
theorem pP (T:Txt K mg t):Binds K t.d_links ["_law_draw"] []:=bi1 T.F_links
theorem eM (T:Txt K mg t):Binds K t.d_run ["yard","most"] []:=bi2 T.F_run
theorem tQ (T:Txt K mg t):Binds K t.d_Jh ["yard"] []:=bi1 T.F_Jh
theorem b_Ju (T:Txt K mg t):Binds K t.d_Ju ["kind","end","side"] []:=bi3 T.F_Ju
theorem tP (T:Txt K mg t):Binds K t.d_Ji ["kind","end"] []:=bi2 T.F_Ji
theorem b_Jv (T:Txt K mg t):Binds K t.d_Jv ["kind"] []:=bi1 T.F_Jv
theorem si (T:Txt K mg t):Binds K t.d_Jq ["kind"] []:=bi1 T.F_Jq
theorem sj (T:Txt K mg t):Binds K t.d_Jb ["side"] []:=bi1 T.F_Jb
theorem b_J5 (T:Txt K mg t):Binds K t.d_J5 ["kind","end","side"] []:=bi3 T.F_J5
theorem jT (T:Txt K mg t):Binds K t.d_walk ["_law_kinds_here","_law_notes","_law_rods","_law_sides","_law_mates","_law_rung","_law_at","_law_most"] []:=bi8 T.F_walk
theorem tI (T:Txt K mg t):Binds K t.d_Jw ["_law_kind_here","_law_place","_law_side"] []:=bi3 T.F_Jw
theorem pO (T:Txt K mg t):Binds K t.d_right ["_law_yard","_law_due_here","_law_most"] []:=bi3 T.F_right
theorem ou (T:Txt K mg t):Binds K t.d_look ["_law_yard"] []:=bi1 T.F_look
theorem sg (T:Txt K mg t):Binds K t.d_fate ["yard","most"] []:=bi2 T.F_fate
theorem jU (T:Txt K mg t):Binds K t.d_twin ["yard"] []:=bi1 T.F_twin
theorem sf (T:Txt K mg t):Binds K t.d_held ["yard"] []:=bi1 T.F_held
theorem iw (T:Txt K mg t):Binds K t.d_alike ["one","other"] []:=bi2 T.F_alike
theorem b_J6 (T:Txt K mg t):Binds K t.d_J6 ["yard","ahead","limit"] []:=bi3 T.F_J6
theorem r9 (T:Txt K mg t):Binds K t.d_is ["_law_found","_law_due_here"] []:=bi2 T.F_is
theorem pN (T:Txt K mg t):Binds K t.d_whole ["_law_found"] []:=bi1 T.F_whole
theorem b_due (T:Txt K mg t):Binds K t.d_due ["_law_kinds_here","_law_notes","_law_rods","_law_sides","_law_mates","_law_at","_law_most"] []:=bi7 T.F_due
theorem b_why (T:Txt K mg t):Binds K t.d_why ["_law_kinds_here","_law_rods","_law_sides","_law_at"] []:=bi4 T.F_why
theorem b_Jc (T:Txt K mg t):Binds K t.d_Jc ["note"] []:=bi1 T.F_Jc
theorem tO (T:Txt K mg t):Binds K t.d_Jj ["self"] []:=bi1 T.F_Jj
theorem tS (T:Txt K mg t):Binds K t.d_Jd ["self","rod","side"] []:=bi3 T.F_Jd
theorem sk (T:Txt K mg t):Binds K t.d_J2 ["self","rod"] []:=bi2 T.F_J2
theorem lS (T:Txt K mg t):Binds K t.d_J3 ["self"] []:=bi1 T.F_J3
theorem b_J8 (T:Txt K mg t):Binds K t.d_J8 ["self","end"] []:=bi2 T.F_J8
theorem ow (T:Txt K mg t):Binds K t.d_J0 ["self","end"] []:=bi2 T.F_J0
theorem pV (T:Txt K mg t):Binds K t.d_J1 ["self","piece"] []:=bi2 T.F_J1
theorem b_Jr (T:Txt K mg t):Binds K t.d_Jr ["self","end"] []:=bi2 T.F_Jr
theorem b_Jk (T:Txt K mg t):Binds K t.d_Jk ["self","one","other"] []:=bi3 T.F_Jk
theorem b_Je (T:Txt K mg t):Binds K t.d_Je ["self","end","side"] []:=bi3 T.F_Je
theorem pU (T:Txt K mg t):Binds K t.d_J9 ["self"] []:=bi1 T.F_J9
theorem tN (T:Txt K mg t):Binds K t.d_Jl ["self","piece"] []:=bi2 T.F_Jl
theorem tM (T:Txt K mg t):Binds K t.d_Jm ["self","end"] []:=bi2 T.F_Jm
theorem tL (T:Txt K mg t):Binds K t.d_Jn ["self","rod"] []:=bi2 T.F_Jn
theorem tJ (T:Txt K mg t):Binds K t.d_Jt ["self","piece"] []:=bi2 T.F_Jt
theorem tR (T:Txt K mg t):Binds K t.d_Jf ["self"] []:=bi1 T.F_Jf
theorem tT (T:Txt K mg t):Binds K t.d_Ja ["self"] []:=bi1 T.F_Ja
theorem tK (T:Txt K mg t):Binds K t.d_Jo ["self"] []:=bi1 T.F_Jo
theorem b_Jg (T:Txt K mg t):Binds K t.d_Jg ["self"] []:=bi1 T.F_Jg
theorem b_Jp (T:Txt K mg t):Binds K t.d_Jp ["self","piece"] []:=bi2 T.F_Jp
theorem b_J4 (T:Txt K mg t):Binds K t.d_J4 ["self"] []:=bi1 T.F_J4
theorem pW (T:Txt K mg t):∃ ds:List Value,Vals [] ds/\Binds K t.d_Js ["self","kind","note","rod"] ds:=by
 obtain⟨Td,od,n,sl,tk0,e1,e2⟩:=T.D_Js
 obtain⟨oc,od2,kV,doc,pm,an,cdv,ct,osl,e3,lk,hcd⟩:=T.F_Js.ex
 refine⟨[],.nil,fun s us X hl=>?_⟩
 have hl2:us.length=4:=by simpa using hl
 rw[e3,e1]
 obtain⟨u0,w0,rfl,g0⟩:=lS_ hl2
 obtain⟨u1,w1,rfl,g1⟩:=lS_ g0
 obtain⟨u2,w2,rfl,g2⟩:=lS_ g1
 obtain⟨u3,w3,rfl,g3⟩:=lS_ g2
 cases l0_ g3
 exact W.binds_K X rfl e2 rfl rfl rfl
theorem pX (T:Txt K mg t):∃ ds:List Value,Vals [.non] ds/\Binds K t.d_Js ["self","kind","note","rod"] ds:=by
 obtain⟨Td,od,n,sl,tk0,e1,e2⟩:=T.D_Js
 obtain⟨oc,od2,kV,doc,pm,an,cdv,ct,osl,e3,lk,hcd⟩:=T.F_Js.ex
 refine⟨[.none],.cons rfl (.nil),fun s us X hl=>?_⟩
 have hl2:us.length=3:=by simpa using hl
 rw[e3,e1]
 obtain⟨u0,w0,rfl,g0⟩:=lS_ hl2
 obtain⟨u1,w1,rfl,g1⟩:=lS_ g0
 obtain⟨u2,w2,rfl,g2⟩:=lS_ g1
 cases l0_ g2
 exact W.binds_K X rfl e2 rfl rfl rfl
theorem pY (T:Txt K mg t):∃ ds:List Value,Vals [.int 0,.non] ds/\Binds K t.d_Js ["self","kind","note","rod"] ds:=by
 obtain⟨Td,od,n,sl,tk0,e1,e2⟩:=T.D_Js
 obtain⟨oc,od2,kV,doc,pm,an,cdv,ct,osl,e3,lk,hcd⟩:=T.F_Js.ex
 refine⟨[.int 0 tk0,.none],.cons ⟨_,U⟩ (.cons rfl (.nil)),fun s us X hl=>?_⟩
 have hl2:us.length=2:=by simpa using hl
 rw[e3,e1]
 obtain⟨u0,w0,rfl,g0⟩:=lS_ hl2
 obtain⟨u1,w1,rfl,g1⟩:=lS_ g0
 cases l0_ g1
 exact W.binds_K X rfl e2 rfl rfl rfl
theorem pZ (T:Txt K mg t):∃ ds:List Value,Vals [.int 1] ds/\Binds K t.d_J7 ["self","side"] ds:=by
 obtain⟨Td,od,n,sl,tk0,e1,e2⟩:=T.D_J7
 obtain⟨oc,od2,kV,doc,pm,an,cdv,ct,osl,e3,lk,hcd⟩:=T.F_J7.ex
 refine⟨[.int 1 tk0],.cons ⟨_,U⟩ (.nil),fun s us X hl=>?_⟩
 have hl2:us.length=1:=by simpa using hl
 rw[e3,e1]
 obtain⟨u0,w0,rfl,g0⟩:=lS_ hl2
 cases l0_ g0
 exact W.binds_K X rfl e2 rfl rfl rfl
end
noncomputable def Dr (ds:List Int):Prop:=∀ d ∈ ds,0<=d/\d<10 ^ 18
noncomputable def mI (K:PySem.W.Frag):Sp:=fun vs H Q _=>∃ (a:Addr) (ns:List Int) (n:Int) (L:Kn),vs=[.ref a,.int n]/\SqL K H a (ns.map V.int)/\ns.length<=63/\0<=n/\n<=1000/\Has H L /\
 ∀ H' p ds,Has H' ((p,.lst (ds.map V.int))::L)->ds.length=n.toNat->Dr ds->Q (.ref p) H'
section
variable {P:Program}{w:World}{K:PySem.W.Frag}{mg:Str->Option Value}{base:Heap}{t:Adr}
theorem scD:FnScope ["_law_script","_law_many_here","_law_row","_law_base","_law_cell","_law_left","_law_turn"] ["_law_script","_law_many_here"] (ah kg):={}
theorem Dr.snoc {ds:List Int}{d:Int} (h:Dr ds) (h0:0<=d) (h1:d<10 ^ 18):Dr (ds++[d]):=fun x hx=>by
 rcases mem_append.mp hx with hx | hx
 ·exact h x hx
 ·have:x=d:=by simpa using hx
  subst this; exact⟨h0,h1⟩
theorem fG (ds:List Int) (d:Int):ds.map V.int++[V.int d]=(ds++[d]).map V.int:=by simp
theorem nM (T:Txt K mg t):FnOk P w K mg base CX0 1 t.f_draws t.d_draws ["_law_script","_law_many_here"] (mI K):=by
 refine T.F_draws.ok scD (fun vs H Q E h=>?_) (fun cdv A outer s H vs Q E hr h=>?_)
 ·obtain⟨_,_,_,_,rfl,_⟩:=h
  rfl
 ·obtain⟨a,ns,n,L,rfl,hS,hns,hn0,hn1,hL,k⟩:=h
  refine⟨_,(ab (am (i:=2) scD.nd rfl (Or.inl rfl) (bI ae))
   (ab (am (i:=3) scD.nd rfl (Or.inl rfl) ag)
   (ab (b9 PassesOwn.never rfl (gR (iL j7 (pv 0) kq (ko ag))) (ar (i:=4) scD.nd rfl (Or.inl rfl))
    (ab (am (i:=5) scD.nd rfl (Or.inl rfl) (aI ot (by rfl) T.z_abs (by rfl) (aa (pv 4) ae)))
     (ab (am (i:=3) scD.nd rfl (Or.inl rfl) (aq aW (aq bf (aq bf (aq cN (pv 3) ag) (pv 5)) (aq cN ag (a9 lP (by rfl) T.z_int (by rfl) (aa (cL cW (pv 4) ag (aj _)) ae)))) ag))
     (af (av (ai cW (pv 5) (aq rj ag ag) (aj _))
      (af (al (bP PySem.F.plainAttrs_list PySem.F.slot_list_append PySem.F.type_list_append aR (pv 2) (aa (pv 5) ae))))
      (af (b9 PassesOwn.never rfl (bS (by rfl) T.z_range (aa ag ae)) (ar (i:=6) scD.nd rfl (Or.inl rfl))
        (af (av (ai dj (pv 5) ag (aj _))
          (ab (al (bP PySem.F.plainAttrs_list PySem.F.slot_list_append PySem.F.type_list_append aR (pv 2) (aa (aq aW (pv 5) ag) ae)))
           (af (am (i:=5) scD.nd rfl (Or.inl rfl) (aq bY (pv 5) ag))))
          ak)))))))))
   (ab (cm PassesOwn.never (ai cW (aI aA (by rfl) T.z_len (by rfl) (aa (pv 2) ae)) (pv 1) (aj _))
    (ab (am (i:=3) scD.nd rfl (Or.inl rfl) (aq aW (aq bf (aq cN (pv 3) ag) ag) ag))
     (af (al (bP PySem.F.plainAttrs_list PySem.F.slot_list_append PySem.F.type_list_append aR (pv 2) (aa (aq aW (aq bY (aq cN (pv 3) (pv 3)) ag) ag) ae))))))
   (af (ao (iL j7 (pv 2) kq (ko (pv 1))))))))),?_⟩
  refine⟨by decide,fun r hr0=>?_⟩
  have h1:=hL.alloc hr0 (.lst [])
  have hS1:SqL K (upd H r (.lst [])) a (ns.map V.int):=hS.alloc hr0
  generalize upd H r (.lst [])=H1 at *
  refine⟨_,U,_,U,a,_,U,hS1,fun sl hsl=>?_⟩
  have h2:=h1.alloc hsl (.lst (eR (ns.map V.int) none (some 63)))
  generalize upd H1 sl (.lst (eR (ns.map V.int) none (some 63)))=H2 at *
  refine⟨sl,U,⟨_,SqL.of (h2.get 0 U)⟩,?_⟩
  refine fQ (K:=K) (a:=sl) (xs:=eR (ns.map V.int) none (some 63)) (fun i σ H'=>∃ (row:List Int) (b:Int) (c l t:Option V),σ=[some (.ref a),some (.int n),some (.ref r),some (.int b),c,l,t] /\
   Has H' ((r,.lst (row.map V.int))::(sl,.lst (eR (ns.map V.int) none (some 63)))::L)/\row.length<=60*i/\Dr row/\0<=b/\b<2147483647)
   ⟨[],7,none,none,none,U,h2.swap2,Nat.zero_le _,(fun _ h=>nomatch h),by decide,by decide⟩ (fun i σ H' _ z_=>z_.elim fun row z_=>z_.elim fun b z_=>z_.elim fun c z_=>z_.elim fun l z_=>z_.elim fun t z_=>z_.elim fun _ z_=>z_.elim fun h _=>SqL.of (h.get 1 U)) ?_ ?_
  ·rintro i y σ H' hi ⟨row,b,c,l,t,rfl,h3,hlen,hd,b0,b1⟩
   have hi63:i<63:=by
    have h5:=(List.getElem?_eq_some_iff.mp hi).1
    rw[dY _ _ (by decide),length_take,length_map] at h5
    omega
   obtain⟨z,rfl⟩:∃ z,y=V.int z:=by
    rw[dY _ _ (by decide),List.getElem?_take_of_lt (by omega),getElem?_map] at hi
    cases e:ns[i]? with
    | none=>rw[e] at hi; cases hi
    | some z=>rw[e] at hi; exact⟨z,(Option.some.inj hi).symm⟩
   refine⟨_,U,_,U,?_⟩
   have hab:0<=(if z<0 then -z else z):=by split <;> omega
   generalize (if z<0 then -z else z)=left at *
   refine⟨_,U,_,_,U,U,.inl ⟨by omega,by omega⟩,_,U,_,_,U,U,_,U,_,_,U,U,.inr ⟨_,U,_,_,U,U,.inl ⟨by decide,by decide⟩,_,_,U,U,_,_,U,U,(show(0:Int)<2147483647 by decide),?_⟩⟩
   have hb0:=Int.emod_nonneg (b*48271+left+2*(if decide (z<0)=true then 1 else 0)) (show(2147483647:Int)≠0 by decide)
   have hb1:=Int.emod_lt_of_pos (b*48271+left+2*(if decide (z<0)=true then 1 else 0)) (show(0:Int)<2147483647 by decide)
   refine⟨_,U,_,_,U,U,⟨by decide,by decide,by decide⟩,_,_,U,U,_,U,?_⟩
   refine i7 (fun hc=>?_) (fun hc=>?_)
   ·have hc':left<10 ^ 18:=of_decide_eq_true hc
    refine⟨_,U,.inl ⟨U,_,SqL.of (h3.get 0 U)⟩,_,U,r,_,_,U,U,h3.get 0 U,?_,?_⟩
    ·rw[length_map]
     exact aB (by omega)
    ·refine⟨row++[left],_,_,_,_,U,?_,?_,hd.snoc hab hc',hb0,hb1⟩
     ·rw[<- fG]
      exact h3.puti 0 U _
     ·rw[length_append,length_singleton]; omega
   ·-- for turn in range(60)
    refine⟨_,U,by decide,by decide,bU (n:=60) (fun j σ H2=>∃ (row2:List Int) (l2:Int) (t2:Option V) (b2:Int),0<=b2/\b2<2147483647/\σ=[some (.ref a),some (.int n),some (.ref r),some (.int b2),some (.int z),some (.int l2),t2] /\
     Has H2 ((r,.lst (row2.map V.int))::(sl,.lst (eR (ns.map V.int) none (some 63)))::L)/\row2.length<=row.length+j/\Dr row2/\0<=l2) ⟨row,_,_,_,hb0,hb1,U,h3,Nat.le_add_right _ _,hd,hab⟩ ?_ ?_⟩
    ·rintro j σ H2 hj ⟨row2,l2,t2,b2,hb20,hb21,rfl,h4,hlen2,hd2,hl2⟩
     refine⟨_,U,_,_,U,U,_,U,?_⟩
     refine i7 (fun hc2=>?_) (fun hc2=>?_)
     ·refine⟨_,U,.inl ⟨U,_,SqL.of (h4.get 0 U)⟩,_,U,_,_,U,U,(show(0:Int)<10007 by decide),r,_,_,U,U,h4.get 0 U,?_,?_⟩
      ·rw[length_map]
       exact aB (by omega)
      ·refine⟨_,U,_,_,U,U,⟨by decide,by decide⟩,?_⟩
       refine⟨row2++[l2 % 10007],_,_,_,hb20,hb21,U,?_,?_,hd2.snoc (Int.emod_nonneg _ (by decide)) (Int.lt_trans (Int.emod_lt_of_pos _ (by decide)) (by decide)),Int.ediv_nonneg hl2 (by decide)⟩
       ·rw[<- fG]
        exact h4.puti 0 U _
       ·rw[length_append,length_singleton]; omega
     ·exact⟨row2,l2,_,b2,hb20,hb21,U,h4,by omega,hd2,hl2⟩
    ·rintro σ H2 ⟨row2,l2,t2,b2,hb20,hb21,rfl,h4,hlen2,hd2,hl2⟩
     exact⟨row2,b2,_,_,_,U,h4,by omega,hd2,hb20,hb21⟩
  ·rintro σ H' ⟨row,b,c,l,t,rfl,h3,hlen,hd,b0,b1⟩
   have hlx:(eR (ns.map V.int) none (some 63)).length<=63:=by
    rw[dY _ _ (by decide),length_take]; omega
   refine lW (fun σ H'=>∃ (row:List Int) (b:Int) (c l t:Option V),σ=[some (.ref a),some (.int n),some (.ref r),some (.int b),c,l,t]/\Has H' ((r,.lst (row.map V.int))::L)/\row.length<=4000/\Dr row/\0<=b/\b<2147483647)
    (fun σ H'=>match H' r with | some (.lst xs)=>n.toNat - xs.length | _=>0) ⟨row,b,c,l,t,U,h3.swap2.tail,by omega,hd,b0,b1⟩ ?_ ?_
   ·rintro σ H' ⟨row,b,c,l,t,rfl,h4,hlen,hd,b0,b1⟩
    refine⟨_,U,r,_,U,.inl (SqL.of (h4.get 0 U)),_,U,_,_,U,U,_,U,?_⟩
    rw[length_map]
    refine i7 (fun hc=>?_) (fun hc=>?_)
    ·have hc':(row.length:Int)<n:=of_decide_eq_true hc
     refine⟨_,U,_,_,U,U,.inl ⟨by omega,by omega⟩,_,_,U,U,_,_,U,U,(show(0:Int)<2147483647 by decide),?_⟩
     have hb0:=Int.emod_nonneg (b*69621+12289) (show(2147483647:Int)≠0 by decide)
     have hb1:=Int.emod_lt_of_pos (b*69621+12289) (show(0:Int)<2147483647 by decide)
     refine⟨_,U,.inl ⟨U,_,SqL.of (h4.get 0 U)⟩,_,U,_,U,_,_,U,U,.inl ⟨?_,?_⟩,_,_,U,U,⟨by decide,by decide⟩,_,_,U,U,(show(0:Int)<10007 by decide),r,_,_,U,U,h4.get 0 U,?_,?_⟩
     ·show -(2 ^ 64)<(b*69621+12289) % 2147483647
      omega
     ·show(b*69621+12289) % 2147483647<2 ^ 64
      omega
     ·rw[length_map]
      exact aB (by omega)
     ·have hq0:=Int.emod_nonneg ((b*69621+12289) % 2147483647*((b*69621+12289) % 2147483647) / 4099) (show(10007:Int)≠0 by decide)
      have hq1:=Int.emod_lt_of_pos ((b*69621+12289) % 2147483647*((b*69621+12289) % 2147483647) / 4099) (show(0:Int)<10007 by decide)
      refine⟨⟨row++[(b*69621+12289) % 2147483647*((b*69621+12289) % 2147483647) / 4099 % 10007],_,_,_,_,U,?_,?_,hd.snoc hq0 (Int.lt_trans hq1 (by decide)),hb0,hb1⟩,?_⟩
      ·rw[<- fG]
       exact h4.puti 0 U _
      ·rw[length_append,length_singleton]; omega
      ·have e1:H' r=some (.lst (row.map V.int)):=h4.get 0 rfl
       simp only[e1,bx,length_append,length_map,length_singleton]
       omega
    ·have hc':¬ (row.length:Int)<n:=fun z=>hc (decide_eq_true z)
     refine⟨_,U,_,U,_,U,r,_,U,SqL.of (h4.get 0 U),fun p hp=>?_⟩
     refine k _ p (row.take n.toNat) ?_ (by rw[length_take]; omega) (fun d hd'=>hd d (List.mem_of_mem_take hd'))
     have h5:=(h4.tail).alloc hp (.lst (eR (row.map V.int) none (some n)))
     rw[dY _ _ hn0,<- List.map_take] at h5 ⊢
     exact h5
   ·rintro σ H' Q1 Q2 hQ ⟨v,e,p,ys,e2,h,w',e3,i,j,e4,e5,c,e6,q⟩
    exact⟨v,e,p,ys,e2,h,w',e3,i,j,e4,e5,c,e6,hQ _ _ q⟩
end
noncomputable def mC:Sp:=fun vs H Q _=>∃ i:Int,vs=[.int i]/\Q (.bl true) H
noncomputable def sp_is:Sp:=fun vs H Q _=>∃ i j:Int,vs=[.int i,.int j]/\Q (.bl (decide (i=j))) H
theorem rG (K:PySem.W.Frag):W.kitOne K (.type "int") (.type "int")=some true:=by kernel_rfl
theorem rH (K:PySem.W.Frag):W.kitOne K (.type "int") (.type "bool")=some false:=by kernel_rfl
theorem rF (K:PySem.W.Frag):W.kitOne K (.type "tuple") (.type "tuple")=some true:=by kernel_rfl
section
variable {P:Program}{w:World}{K:PySem.W.Frag}{mg:Str->Option Value}{base:Heap}{t:Adr}
theorem scWh:FnScope ["_law_found"] ["_law_found"] (ah j8):={}
theorem nH (T:Txt K mg t):FnOk P w K mg base CX0 1 t.f_whole t.d_whole ["_law_found"] mC:=by
 refine T.F_whole.ok scWh (fun vs H Q E h=>?_) (fun cdv A outer s H vs Q E hr h=>?_)
 ·obtain⟨_,rfl,_⟩:=h
  rfl
 ·obtain⟨i,rfl,k⟩:=h
  refine⟨_,(af (ao (jF (aI fU (by rfl) T.z_isinstance (by rfl) (aa (pv 0) (aa (gT (v:=.ty "int") (by rfl) T.z_int (by rfl) rfl) ae))) (gS (rh (aI fU (by rfl) T.z_isinstance (by rfl) (aa (pv 0) (aa (gT (v:=.ty "bool") (by rfl) T.z_bool (by rfl) rfl) ae)))))))),?_⟩
  refine⟨_,U,_,_,_,_,U,.int i,rG K,_,U,dE ?_⟩
  exact⟨_,U,_,_,_,_,U,.int i,rH K,_,U,k⟩
theorem scIs:FnScope ["_law_found","_law_due_here"] ["_law_found","_law_due_here"] (ah sA):={}
theorem nL (T:Txt K mg t):FnOk P w K mg base CX0 2 t.f_is t.d_is ["_law_found","_law_due_here"] sp_is:=by
 refine T.F_is.ok scIs (fun vs H Q E h=>?_) (fun cdv A outer s H vs Q E hr h=>?_)
 ·obtain⟨_,_,rfl,_⟩:=h
  rfl
 ·obtain⟨i,j,rfl,k⟩:=h
  refine⟨_,(af (ao (jF (pcl (nH T) hr T.m_whole T.F_whole.kp (pN T) (aa (pv 0) ae)) (gS (cL br (pv 0) (pv 1) (aj _)))))),?_⟩
  refine⟨_,U,i,U,_,U,dE ?_⟩
  refine⟨_,U,_,U,U,?_⟩
  have e:decide (V.int i=V.int j)=decide (i=j):=by by_cases h:i=j <;> simp[h]
  rw[e]
  exact k
end
inductive Kd where | line | bell | still | lazy | turning | stop
 deriving DecidableEq
noncomputable def Kd.str:Kd->Str
 | .line => "line" | .bell => "bell" | .still => "still" | .lazy => "lazy" | .turning => "turning" | .stop => "stop"
noncomputable def Kd.many:Kd->Int
 | .line=>2 | .bell=>2 | .still=>3 | .lazy=>3 | .turning=>3 | .stop=>1
noncomputable def Kd.point:Kd->Bool
 | .still=>true | .lazy=>true | .turning=>true | _=>false
noncomputable def endsD:List (Str×PyData):=[("line",.int 2),("bell",.int 2),("stop",.int 1),("still",.int 3),("lazy",.int 3),("turning",.int 3)]
theorem Kd.inEnds (k:Kd):(endsD.any fun p=>decide (k.str=p.1))=true:=by cases k <;> decide +kernel
theorem Kd.atEnds (k:Kd):endsD.lookup k.str=some (.int k.many):=by cases k <;> rfl
theorem lK:(endsD.all fun p=>match p.2 with | .int _=>true | _=>false)=true:=by decide +kernel
theorem Kd.inPoints (k:Kd):inV (.str k.str) [.str "still",.str "lazy",.str "turning"]=k.point:=by cases k <;> decide +kernel
theorem Kd.isStop (k:Kd):decide (V.str k.str=V.str "stop")=decide (k=.stop):=by cases k <;> decide +kernel
theorem Kd.isTurning (k:Kd):decide (V.str k.str=V.str "turning")=decide (k=.turning):=by cases k <;> decide +kernel
theorem Kd.isLazy (k:Kd):decide (V.str k.str=V.str "lazy")=decide (k=.lazy):=by cases k <;> decide +kernel
theorem Kd.isBell (k:Kd):decide (V.str k.str=V.str "bell")=decide (k=.bell):=by cases k <;> decide +kernel
theorem Kd.isLine (k:Kd):decide (V.str k.str=V.str "line")=decide (k=.line):=by cases k <;> decide +kernel
noncomputable def Kd.out (k:Kd) (e s:Int):V:=if k=.stop then .non else if k.point then(if e=0 then .int s else .int 0) else .int (1 - e)
noncomputable def Kd.side (k:Kd) (e s:Int):Int:=if k.point then(if e=0 then(if k=.turning then 3 - s else s) else(if k=.lazy then e else s)) else s
noncomputable def sp_Jv:Sp:=fun vs H Q _=>∃ k:Kd,vs=[.str k.str]/\Q (.int k.many) H
noncomputable def sp_Jq:Sp:=fun vs H Q _=>∃ k:Kd,vs=[.str k.str]/\Q (.bl k.point) H
noncomputable def sp_Ji:Sp:=fun vs H Q _=>∃ (k:Kd) (e:Int),vs=[.str k.str,.int e]/\0<=e/\e<k.many/\Q .non H
noncomputable def sp_Jb:Sp:=fun vs H Q _=>∃ s:Int,vs=[.int s]/\(s=1∨s=2)/\Q .non H
noncomputable def sp_Ju:Sp:=fun vs H Q _=>∃ (k:Kd) (e s:Int) (v:V),vs=[.str k.str,.int e,v]/\0<=e/\e<k.many/\(k.point=true->v=.int s/\(s=1∨s=2))/\∀ p,H p=none->Q (.ref p) (upd H p (.tup [k.out e s,if k.point then .int (k.side e s) else v]))
noncomputable def sp_J5:Sp:=fun vs H Q _=>∃ (k:Kd) (e s:Int),vs=[.str k.str,.int e,.int s]/\k.point=true/\∀ p,H p=none->Q (.ref p) (upd H p (.tup [k.out e s,.int (k.side e s)]))
section
variable {P:Program}{w:World}{K:PySem.W.Frag}{mg:Str->Option Value}{base:Heap}{t:Adr}
theorem cQ (i j:Int):decide (V.int i=V.int j)=decide (i=j):=by by_cases h:i=j <;> simp[h]
theorem scEo:FnScope ["kind"] ["kind"] (ah sE):={}
theorem ok_Jv (T:Txt K mg t):FnOk P w K mg base CX0 1 t.f_Jv t.d_Jv ["kind"] sp_Jv:=by
 refine T.F_Jv.ok scEo (fun vs H Q E h=>?_) (fun cdv A outer s H vs Q E hr h=>?_)
 ·obtain⟨_,rfl,_⟩:=h
  rfl
 ·obtain⟨k,rfl,q⟩:=h
  obtain⟨aE,eE,hE⟩:=T.x_ENDS
  have T_r_ENDS:RelV (.ref aE) t.u_ENDS:=by rw[eE]; rfl
  refine⟨_,(ab (av (ai gp (pv 0) (cJ (by rfl) T.g_ENDS T_r_ENDS) (by rfl))
    (af bz)
    ak)
   (af (ao (aG ix_K (cJ (by rfl) T.g_ENDS T_r_ENDS) (pv 0))))),?_⟩
  refine⟨_,U,_,aE,endsD,U,U,hE,_,U,?_⟩
  rw[k.inEnds]
  exact⟨_,U,_,aE,endsD,_,U,U,hE,k.atEnds,lK,q⟩
theorem scIp:FnScope ["kind"] ["kind"] (ah sJ):={}
theorem nO (T:Txt K mg t):FnOk P w K mg base CX0 1 t.f_Jq t.d_Jq ["kind"] sp_Jq:=by
 refine T.F_Jq.ok scIp (fun vs H Q E h=>?_) (fun cdv A outer s H vs Q E hr h=>?_)
 ·obtain⟨_,rfl,_⟩:=h
  rfl
 ·obtain⟨k,rfl,q⟩:=h
  obtain⟨aE,eE,hE⟩:=T.x_ENDS
  have T_r_ENDS:RelV (.ref aE) t.u_ENDS:=by rw[eE]; rfl
  obtain⟨aP,oP,its,n,eP,h1,h2,h3,h4,h5⟩:=T.x_POINTS
  have T_r_POINTS:RelV (.ref aP) t.u_POINTS:=by rw[eP]; rfl
  refine⟨_,(ab (av (ai gp (pv 0) (cJ (by rfl) T.g_ENDS T_r_ENDS) (by rfl))
    (af bz)
    ak)
   (af (ao (cL ln (pv 0) (cJ (by rfl) T.g_POINTS T_r_POINTS) (by rfl))))),?_⟩
  refine⟨_,U,_,aE,endsD,U,U,hE,_,U,?_⟩
  rw[k.inEnds]
  refine⟨_,U,aP,_,U,.inr (.inr ⟨oP,its,n,h1,h2,h3,h4,h5⟩),U,by decide,?_⟩
  rw[if_neg Bool.false_ne_true,k.inPoints]
  exact q
theorem scCe:FnScope ["kind","end","many"] ["kind","end"] (ah sR):={}
theorem qy (T:Txt K mg t):FnOk P w K mg base CX0 2 t.f_Ji t.d_Ji ["kind","end"] sp_Ji:=by
 refine T.F_Ji.ok scCe (fun vs H Q E h=>?_) (fun cdv A outer s H vs Q E hr h=>?_)
 ·obtain⟨_,_,rfl,_⟩:=h
  rfl
 ·obtain⟨k,e,rfl,e0,e1,q⟩:=h
  refine⟨_,(ab (am (i:=2) scCe.nd rfl (Or.inl rfl) (pcl (ok_Jv T) hr T.m_Jv T.F_Jv.kp (b_Jv T) (aa (pv 0) ae)))
   (af (av (PW.pt (dM (ai cW (pv 1) ag (aj _)) (dC (ai iS (pv 1) (pv 2) (aj _)))))
    (af bz)
    ak))),?_⟩
  refine⟨_,U,k,U,?_⟩
  refine⟨_,U,_,_,U,U,_,U,?_⟩
  refine ifF (decide_eq_false (by omega)) ?_
  refine⟨_,U,_,U,_,_,U,U,_,U,?_⟩
  exact ifF (decide_eq_false (by omega)) q
theorem scCs:FnScope ["side"] ["side"] (ah sY):={}
theorem nP (T:Txt K mg t):FnOk P w K mg base CX0 1 t.f_Jb t.d_Jb ["side"] sp_Jb:=by
 refine T.F_Jb.ok scCs (fun vs H Q E h=>?_) (fun cdv A outer s H vs Q E hr h=>?_)
 ·obtain⟨_,rfl,_⟩:=h
  rfl
 ·obtain⟨z,rfl,hz,q⟩:=h
  refine⟨_,(af (av (PW.pt (cT (ai kt (pv 0) ag (aj _)) (cv (ai kt (pv 0) ag (aj _)))))
    (af bz)
    ak)),?_⟩
  refine⟨_,U,U,_,U,?_⟩
  rw[cQ]
  refine rP (fun hc=>?_) (fun hc=>bT q)
  refine⟨_,U,U,_,U,?_⟩
  rw[cQ]
  exact ifF (by simp; omega) q
theorem scPp:FnScope ["kind","end","side"] ["kind","end","side"] (ah tu):={}
theorem ok_J5 (T:Txt K mg t):FnOk P w K mg base CX0 1 t.f_J5 t.d_J5 ["kind","end","side"] sp_J5:=by
 refine T.F_J5.ok scPp (fun vs H Q E h=>?_) (fun cdv A outer s H vs Q E hr h=>?_)
 ·obtain⟨_,_,_,rfl,_⟩:=h
  rfl
 ·obtain⟨k,e,z,rfl,hk,q⟩:=h
  have ns:¬ k=.stop:=fun h=>by rw[h] at hk; cases hk
  refine⟨_,(ab (av (ai br (pv 1) (cJ (by rfl) T.g_STEM T.r_STEM) (aj _))
    (af (ao (aO (aa (pv 2) (aa (cV (ai br (pv 0) aF (aj _)) (aq cM ag (pv 2)) (pv 2)) ae)))))
    ak)
   (af (ao (aO (aa (cJ (by rfl) T.g_STEM T.r_STEM) (aa (cV (ai br (pv 0) aF (aj _)) (pv 1) (pv 2)) ae)))))),?_⟩
  refine⟨_,U,U,_,U,?_⟩
  rw[cQ]
  refine i7 (fun hc=>?_) (fun hc=>?_)
  ·have he:e=0:=of_decide_eq_true hc
   refine⟨_,U,_,U,U,_,U,?_⟩
   rw[k.isTurning]
   have o1:k.out e z=.int z:=by unfold Kd.out; rw[if_neg ns,if_pos hk,if_pos he]
   have o2:k.side e z=if k=.turning then 3 - z else z:=by unfold Kd.side; rw[if_pos hk,if_pos he]
   rw[o1,o2] at q
   refine i7 (fun hc=>?_) (fun hc=>?_)
   ·rw[if_pos (of_decide_eq_true hc)] at q
    exact⟨_,U,_,_,U,U,(show 2<=sizeLine by decide),fun p hp=>q p hp⟩
   ·rw[if_neg (fun h=>hc (decide_eq_true h))] at q
    exact⟨_,U,(show 2<=sizeLine by decide),fun p hp=>q p hp⟩
  ·have he:¬ e=0:=fun h=>hc (decide_eq_true h)
   refine⟨_,U,U,_,U,?_⟩
   rw[k.isLazy]
   have o1:k.out e z=.int 0:=by unfold Kd.out; rw[if_neg ns,if_pos hk,if_neg he]
   have o2:k.side e z=if k=.lazy then e else z:=by unfold Kd.side; rw[if_pos hk,if_neg he]
   rw[o1,o2] at q
   refine i7 (fun hc=>?_) (fun hc=>?_)
   ·rw[if_pos (of_decide_eq_true hc)] at q
    exact⟨_,U,(show 2<=sizeLine by decide),fun p hp=>q p hp⟩
   ·rw[if_neg (fun h=>hc (decide_eq_true h))] at q
    exact⟨_,U,(show 2<=sizeLine by decide),fun p hp=>q p hp⟩
theorem scPa:FnScope ["kind","end","side"] ["kind","end","side"] (ah sF):={}
theorem ok_Ju (T:Txt K mg t):FnOk P w K mg base CX0 3 t.f_Ju t.d_Ju ["kind","end","side"] sp_Ju:=by
 refine T.F_Ju.ok scPa (fun vs H Q E h=>?_) (fun cdv A outer s H vs Q E hr h=>?_)
 ·obtain⟨_,_,_,_,rfl,_⟩:=h
  rfl
 ·obtain⟨k,e,z,v,rfl,e0,e1,hs,q⟩:=h
  refine⟨_,(ab (al (pcl (qy T) hr T.m_Ji T.F_Ji.kp (tP T) (aa (pv 0) (aa (pv 1) ae))))
   (ab (av (cj (pcl (nO T) hr T.m_Jq T.F_Jq.kp (si T) (aa (pv 0) ae)))
    (ab (al (pcl (nP T) hr T.m_Jb T.F_Jb.kp (sj T) (aa (pv 2) ae)))
     (af (ao (pcl (ok_J5 T) hr T.m_J5 T.F_J5.kp (b_J5 T) (aa (pv 0) (aa (pv 1) (aa (pv 2) ae)))))))
    ak)
   (ab (av (ai br (pv 0) aF (aj _))
    (af (ao (aO (aa bn (aa (pv 2) ae)))))
    ak)
   (af (ao (aO (aa (aq cM ag (pv 1)) (aa (pv 2) ae)))))))),?_⟩
  refine⟨_,U,_,U,k,e,U,e0,e1,?_⟩
  refine⟨_,U,k,U,_,U,?_⟩
  refine i7 (fun hc=>?_) (fun hc=>?_)
  ·obtain⟨rfl,hz⟩:=hs hc
   rw[if_pos hc] at q
   exact⟨_,U,z,U,hz,_,U,_,U,_,U,k,e,z,U,hc,q⟩
  ·rw[if_neg hc] at q
   refine⟨_,U,U,_,U,?_⟩
   rw[k.isStop]
   refine i7 (fun hc2=>?_) (fun hc2=>?_)
   ·have hk:k=.stop:=of_decide_eq_true hc2
    subst hk
    exact⟨_,U,(show 2<=sizeLine by decide),fun p hp=>q p hp⟩
   ·have hk:¬ k=.stop:=fun h=>hc2 (decide_eq_true h)
    have o1:k.out e z=.int (1 - e):=by unfold Kd.out; rw[if_neg hk,if_neg hc]
    rw[o1] at q
    exact⟨_,U,_,_,U,U,_,U,(show 2<=sizeLine by decide),fun p hp=>q p hp⟩
end
noncomputable def oM:Sp:=fun vs H Q _=>∃ k:Kd,vs=[.str k.str]/\Q (.int k.many) H
section
variable {P:Program}{w:World}{K:PySem.W.Frag}{mg:Str->Option Value}{base:Heap}{t:Adr}
theorem scMa:FnScope ["_law_kind_here"] ["_law_kind_here"] (ah mV):={}
theorem eU (T:Txt K mg t):FnOk P w K mg base CX0 1 t.f_many t.d_many ["_law_kind_here"] oM:=by
 refine T.F_many.ok scMa (fun vs H Q E h=>?_) (fun cdv A outer s H vs Q E hr h=>?_)
 ·obtain⟨_,rfl,_⟩:=h
  rfl
 ·obtain⟨k,rfl,q⟩:=h
  refine⟨_,(ab (av (ai br (pv 0) aF (aj _))
    (af (ao ag))
    ak)
   (ab (av (PW.pt (dM (ai br (pv 0) aF (aj _)) (dC (ai br (pv 0) aF (aj _)))))
    (af (ao ag))
    ak)
   (af (ao ag)))),?_⟩
  refine⟨_,U,U,_,U,?_⟩
  rw[k.isStop]
  refine ifd (fun h=>?_) (fun h1=>?_)
  ·subst h; exact q
  refine⟨_,U,U,_,U,?_⟩
  rw[k.isLine]
  refine ifd (fun h=>?_) (fun h2=>?_)
  ·subst h; exact dE q
  refine⟨_,U,U,_,U,?_⟩
  rw[k.isBell]
  refine ifd (fun h=>?_) (fun h3=>?_)
  ·subst h; exact q
  have e:k.many=3:=by cases k <;> first | rfl | contradiction
  rw[e] at q
  exact q
end
theorem Kd.out_point {k:Kd} (h:k.point=true) (e s:Int):k.out e s=if e=0 then .int s else .int 0:=by
 have ns:¬ k=.stop:=fun h'=>by rw[h'] at h; cases h
 unfold Kd.out; rw[if_neg ns,if_pos h]
theorem Kd.out_int {k:Kd} (h:¬ k=.stop) (e s:Int):∃ i,k.out e s=.int i:=by
 unfold Kd.out; rw[if_neg h]
 split
 ·split
  ·exact⟨_,U⟩
  ·exact⟨_,U⟩
 ·exact⟨_,U⟩
theorem Kd.many_point {k:Kd} (h:k.point=true):k.many=3:=by cases k <;> first | rfl | cases h
theorem Kd.side12 {k:Kd}{e s:Int} (e0:0<=e) (e1:e<k.many) (h:s=1∨s=2):k.side e s=1∨k.side e s=2:=by
 unfold Kd.side
 split
 ·rename_i hp
  have:=Kd.many_point hp
  split
  ·split <;> omega
  ·split <;> omega
 ·exact h
structure YA where
 p:Addr
 dx:Addr
 tr:Addr
 k:Addr
 n:Addr
 r:Addr
 s:Addr
 m:Addr
 g:Addr
structure YR where
 next:Int
 kinds:List (Key×V)
 notes:List (Key×V)
 rods:List (Key×V)
 sides:List V
 mates:List (List Key×V)
 eng:V
 rung:List V
 trail:List V
noncomputable def fl (A:YA) (next:Int) (eng:V):List (Str×V) :=
 [("next_piece",.int next),("kinds",.ref A.k),("notes",.ref A.n),("rods_under",.ref A.r),("sides",.ref A.s),("mates",.ref A.m),("engine_end",eng),("rung",.ref A.g),("trail",.ref A.tr)]
noncomputable def yL (C:Addr) (A:YA) (y:YR):Kn :=
 [(A.tr,.lst y.trail),(A.p,.ins C A.dx (fl A y.next y.eng)),(A.dx,.own A.p),(A.k,.dK y.kinds),(A.n,.dK y.notes),(A.r,.dK y.rods),(A.s,.lst y.sides),(A.m,.dT y.mates),(A.g,.lst y.rung)]
noncomputable def y0:YR:=⟨0,[],[],[],[],[],.non,[],[]⟩
section
variable (A:YA) (next:Int) (eng:V)
theorem hX:(fl A next eng).lookup ("next_piece" : Str)=some (.int next):=by kernel_rfl
theorem cG:(fl A next eng).lookup ("kinds" : Str)=some (.ref A.k):=by kernel_rfl
theorem bZ:(fl A next eng).lookup ("notes" : Str)=some (.ref A.n):=by kernel_rfl
theorem dc:(fl A next eng).lookup ("rods_under" : Str)=some (.ref A.r):=by kernel_rfl
theorem bE:(fl A next eng).lookup ("sides" : Str)=some (.ref A.s):=by kernel_rfl
theorem bK:(fl A next eng).lookup ("mates" : Str)=some (.ref A.m):=by kernel_rfl
theorem hZ:(fl A next eng).lookup ("engine_end" : Str)=some eng:=by kernel_rfl
theorem fc:(fl A next eng).lookup ("rung" : Str)=some (.ref A.g):=by kernel_rfl
theorem jb:(fl A next eng).lookup ("trail" : Str)=some (.ref A.tr):=by kernel_rfl
theorem hG (q:Addr):bp "trail" (.ref q) (fl A next eng)=fl { A with tr:=q } next eng:=by kernel_rfl
theorem eG (n':Int):bp "next_piece" (.int n') (fl A next eng)=fl A n' eng:=by kernel_rfl
theorem bV (e':V):bp "engine_end" e' (fl A next eng)=fl A next e':=by kernel_rfl
end
theorem b5 (A:YA) (next:Int) (eng:V):(fl A next eng).lookup ("lay" : Str)=none/\(fl A next eng).lookup ("new_rod" : Str)=none/\(fl A next eng).lookup ("throw" : Str)=none/\(fl A next eng).lookup ("rods" : Str)=none/\(fl A next eng).lookup ("rod" : Str)=none /\
  (fl A next eng).lookup ("side" : Str)=none/\(fl A next eng).lookup ("end_trail" : Str)=none/\(fl A next eng).lookup ("check_piece" : Str)=none/\(fl A next eng).lookup ("check_rod" : Str)=none :=
 ⟨by kernel_rfl,by kernel_rfl,by kernel_rfl,by kernel_rfl,by kernel_rfl,by kernel_rfl,by kernel_rfl,by kernel_rfl,by kernel_rfl⟩
noncomputable def oR (C:Addr):Sp:=fun vs H Q _=>∃ (p dx:Addr) (L:Kn),vs=[.ref p]/\Has H ((p,.ins C dx [])::(dx,.own p)::L)/\∀ H' A,A.p=p->Has H' (yL C A y0++L)->Q .non H'
noncomputable def dL (C:Addr):Sp:=fun vs H Q _=>∃ (A:YA) (y:YR) (L:Kn),vs=[.ref A.p]/\Has H (yL C A y++L)/\∀ H' q,Has H' (yL C { A with tr:=q } { y with trail:=[] }++L)->Q .non H'
theorem lG {H:Hp}{C p dx a1 a2 a3 a4 a5 a7 a8:Addr}{fs:List (Str×V)}{L:Kn} (h:Has H ((a8,.lst [])::(a7,.lst [])::(a5,.dT [])::(a4,.lst [])::(a3,.dK [])::(a2,.dK [])::(a1,.dK [])::(p,.ins C dx fs)::(dx,.own p)::L)) :
  Has H ([(a8,.lst []),(p,.ins C dx fs),(dx,.own p),(a1,.dK []),(a2,.dK []),(a3,.dK []),(a4,.lst []),(a5,.dT []),(a7,.lst [])]++L):=by
 refine h.perm ?_
 refine .cons _ ?_
 show List.Perm ([(a7,HO.lst []),(a5,.dT []),(a4,.lst []),(a3,.dK []),(a2,.dK []),(a1,.dK []),(p,.ins C dx fs),(dx,.own p)]++L) ([(p,.ins C dx fs),(dx,.own p),(a1,.dK []),(a2,.dK []),(a3,.dK []),(a4,.lst []),(a5,.dT []),(a7,.lst [])]++L)
 refine List.Perm.append_right L ?_
 have e:[(a7,HO.lst []),(a5,.dT []),(a4,.lst []),(a3,.dK []),(a2,.dK []),(a1,.dK []),(p,.ins C dx fs),(dx,.own p)]=[(a7,HO.lst []),(a5,.dT []),(a4,.lst []),(a3,.dK []),(a2,.dK []),(a1,.dK [])]++[(p,.ins C dx fs),(dx,.own p)]:=rfl
 rw[e]
 refine List.perm_append_comm.trans ?_
 refine .cons _ (.cons _ ?_)
 exact List.reverse_perm [(a1,HO.dK []),(a2,.dK []),(a3,.dK []),(a4,.lst []),(a5,.dT []),(a7,.lst [])]
section
variable {P:Program}{w:World}{K:PySem.W.Frag}{mg:Str->Option Value}{base:Heap}{t:Adr}
theorem scYi:FnScope ["self"] ["self"] (ah sQ):={}
theorem qx (T:Txt K mg t):FnOk P w K mg base CX0 1 t.f_Jj t.d_Jj ["self"] (oR t.c_Yard):=by
 refine T.F_Jj.ok scYi (fun vs H Q E h=>?_) (fun cdv A outer s H vs Q E hr h=>?_)
 ·obtain⟨_,_,_,rfl,_⟩:=h
  rfl
 ·obtain⟨p,dx,L,rfl,hH,q⟩:=h
  refine⟨_,(ab (bt (pv 0) ag rfl)
   (ab (bt (pv 0) fv rfl)
   (ab (bt (pv 0) fv rfl)
   (ab (bt (pv 0) fv rfl)
   (ab (bt (pv 0) (bI ae) rfl)
   (ab (bt (pv 0) iO rfl)
   (ab (bt (pv 0) bn rfl)
   (ab (bt (pv 0) (bI ae) rfl)
   (af (bt (pv 0) (bI ae) rfl)))))))))),?_⟩
  refine⟨_,U,p,_,dx,_,U,hH.get 0 U,T.cl_Yard,T.n_Yard_next_piece,(show 0<1000 by decide),?_⟩
  have h1:=hH.puti 0 U (.ins t.c_Yard dx (bp ("next_piece" : Str) (V.int 0) ([]:List (Str×V))))
  rw[show bp ("next_piece" : Str) (V.int 0) ([]:List (Str×V))=([(("next_piece" : Str),V.int 0)]:List (Str×V)) from by kernel_rfl] at h1 ⊢
  generalize upd H p _=H1 at h1 ⊢
  intro a1 n1
  refine⟨_,U,p,_,dx,_,U,(h1.alloc n1 (.dK [])).get 1 U,T.cl_Yard,T.n_Yard_kinds,(show 1<1000 by decide),?_⟩
  have h2:=(h1.alloc n1 (.dK [])).puti 1 U (.ins t.c_Yard dx (bp ("kinds" : Str) (V.ref a1) ([(("next_piece" : Str),V.int 0)]:List (Str×V))))
  rw[show bp ("kinds" : Str) (V.ref a1) ([(("next_piece" : Str),V.int 0)]:List (Str×V))=([(("next_piece" : Str),V.int 0),(("kinds" : Str),V.ref a1)]:List (Str×V)) from by kernel_rfl] at h2 ⊢
  generalize upd (upd H1 a1 _) p _=H2 at h2 ⊢
  intro a2 n2
  refine⟨_,U,p,_,dx,_,U,(h2.alloc n2 (.dK [])).get 2 U,T.cl_Yard,T.n_Yard_notes,(show 2<1000 by decide),?_⟩
  have h3:=(h2.alloc n2 (.dK [])).puti 2 U (.ins t.c_Yard dx (bp ("notes" : Str) (V.ref a2) ([(("next_piece" : Str),V.int 0),(("kinds" : Str),V.ref a1)]:List (Str×V))))
  rw[show bp ("notes" : Str) (V.ref a2) ([(("next_piece" : Str),V.int 0),(("kinds" : Str),V.ref a1)]:List (Str×V))=([(("next_piece" : Str),V.int 0),(("kinds" : Str),V.ref a1),(("notes" : Str),V.ref a2)]:List (Str×V)) from by kernel_rfl] at h3 ⊢
  generalize upd (upd H2 a2 _) p _=H3 at h3 ⊢
  intro a3 n3
  refine⟨_,U,p,_,dx,_,U,(h3.alloc n3 (.dK [])).get 3 U,T.cl_Yard,T.n_Jo_under,(show 3<1000 by decide),?_⟩
  have h4:=(h3.alloc n3 (.dK [])).puti 3 U (.ins t.c_Yard dx (bp ("rods_under" : Str) (V.ref a3) ([(("next_piece" : Str),V.int 0),(("kinds" : Str),V.ref a1),(("notes" : Str),V.ref a2)]:List (Str×V))))
  rw[show bp ("rods_under" : Str) (V.ref a3) ([(("next_piece" : Str),V.int 0),(("kinds" : Str),V.ref a1),(("notes" : Str),V.ref a2)]:List (Str×V))=([(("next_piece" : Str),V.int 0),(("kinds" : Str),V.ref a1),(("notes" : Str),V.ref a2),(("rods_under" : Str),V.ref a3)]:List (Str×V)) from by kernel_rfl] at h4 ⊢
  generalize upd (upd H3 a3 _) p _=H4 at h4 ⊢
  refine⟨by decide,fun a4 n4=>?_⟩
  refine⟨_,U,p,_,dx,_,U,(h4.alloc n4 (.lst [])).get 4 U,T.cl_Yard,T.n_Yard_sides,(show 4<1000 by decide),?_⟩
  have h5:=(h4.alloc n4 (.lst [])).puti 4 U (.ins t.c_Yard dx (bp ("sides" : Str) (V.ref a4) ([(("next_piece" : Str),V.int 0),(("kinds" : Str),V.ref a1),(("notes" : Str),V.ref a2),(("rods_under" : Str),V.ref a3)]:List (Str×V))))
  rw[show bp ("sides" : Str) (V.ref a4) ([(("next_piece" : Str),V.int 0),(("kinds" : Str),V.ref a1),(("notes" : Str),V.ref a2),(("rods_under" : Str),V.ref a3)]:List (Str×V))=([(("next_piece" : Str),V.int 0),(("kinds" : Str),V.ref a1),(("notes" : Str),V.ref a2),(("rods_under" : Str),V.ref a3),(("sides" : Str),V.ref a4)]:List (Str×V)) from by kernel_rfl] at h5 ⊢
  generalize upd (upd H4 a4 _) p _=H5 at h5 ⊢
  intro a5 n5
  refine⟨_,U,p,_,dx,_,U,(h5.alloc n5 (.dT [])).get 5 U,T.cl_Yard,T.n_Yard_mates,(show 5<1000 by decide),?_⟩
  have h6:=(h5.alloc n5 (.dT [])).puti 5 U (.ins t.c_Yard dx (bp ("mates" : Str) (V.ref a5) ([(("next_piece" : Str),V.int 0),(("kinds" : Str),V.ref a1),(("notes" : Str),V.ref a2),(("rods_under" : Str),V.ref a3),(("sides" : Str),V.ref a4)]:List (Str×V))))
  rw[show bp ("mates" : Str) (V.ref a5) ([(("next_piece" : Str),V.int 0),(("kinds" : Str),V.ref a1),(("notes" : Str),V.ref a2),(("rods_under" : Str),V.ref a3),(("sides" : Str),V.ref a4)]:List (Str×V))=([(("next_piece" : Str),V.int 0),(("kinds" : Str),V.ref a1),(("notes" : Str),V.ref a2),(("rods_under" : Str),V.ref a3),(("sides" : Str),V.ref a4),(("mates" : Str),V.ref a5)]:List (Str×V)) from by kernel_rfl] at h6 ⊢
  generalize upd (upd H5 a5 _) p _=H6 at h6 ⊢
  refine⟨_,U,p,_,dx,_,U,h6.get 5 U,T.cl_Yard,T.n_J9_end,(show 6<1000 by decide),?_⟩
  have h7:=h6.puti 5 U (.ins t.c_Yard dx (bp ("engine_end" : Str) (V.non) ([(("next_piece" : Str),V.int 0),(("kinds" : Str),V.ref a1),(("notes" : Str),V.ref a2),(("rods_under" : Str),V.ref a3),(("sides" : Str),V.ref a4),(("mates" : Str),V.ref a5)]:List (Str×V))))
  rw[show bp ("engine_end" : Str) (V.non) ([(("next_piece" : Str),V.int 0),(("kinds" : Str),V.ref a1),(("notes" : Str),V.ref a2),(("rods_under" : Str),V.ref a3),(("sides" : Str),V.ref a4),(("mates" : Str),V.ref a5)]:List (Str×V))=([(("next_piece" : Str),V.int 0),(("kinds" : Str),V.ref a1),(("notes" : Str),V.ref a2),(("rods_under" : Str),V.ref a3),(("sides" : Str),V.ref a4),(("mates" : Str),V.ref a5),(("engine_end" : Str),V.non)]:List (Str×V)) from by kernel_rfl] at h7 ⊢
  generalize upd H6 p _=H7 at h7 ⊢
  refine⟨by decide,fun a7 n7=>?_⟩
  refine⟨_,U,p,_,dx,_,U,(h7.alloc n7 (.lst [])).get 6 U,T.cl_Yard,T.n_Yard_rung,(show 7<1000 by decide),?_⟩
  have h8:=(h7.alloc n7 (.lst [])).puti 6 U (.ins t.c_Yard dx (bp ("rung" : Str) (V.ref a7) ([(("next_piece" : Str),V.int 0),(("kinds" : Str),V.ref a1),(("notes" : Str),V.ref a2),(("rods_under" : Str),V.ref a3),(("sides" : Str),V.ref a4),(("mates" : Str),V.ref a5),(("engine_end" : Str),V.non)]:List (Str×V))))
  rw[show bp ("rung" : Str) (V.ref a7) ([(("next_piece" : Str),V.int 0),(("kinds" : Str),V.ref a1),(("notes" : Str),V.ref a2),(("rods_under" : Str),V.ref a3),(("sides" : Str),V.ref a4),(("mates" : Str),V.ref a5),(("engine_end" : Str),V.non)]:List (Str×V))=([(("next_piece" : Str),V.int 0),(("kinds" : Str),V.ref a1),(("notes" : Str),V.ref a2),(("rods_under" : Str),V.ref a3),(("sides" : Str),V.ref a4),(("mates" : Str),V.ref a5),(("engine_end" : Str),V.non),(("rung" : Str),V.ref a7)]:List (Str×V)) from by kernel_rfl] at h8 ⊢
  generalize upd (upd H7 a7 _) p _=H8 at h8 ⊢
  refine⟨by decide,fun a8 n8=>?_⟩
  refine⟨_,U,p,_,dx,_,U,(h8.alloc n8 (.lst [])).get 7 U,T.cl_Yard,T.n_Yard_trail,(show 8<1000 by decide),?_⟩
  refine q _ ⟨p,dx,a8,a1,a2,a3,a4,a5,a7⟩ rfl ?_
  have h9:=(h8.alloc n8 (.lst [])).puti 7 U (.ins t.c_Yard dx (bp ("trail" : Str) (V.ref a8) ([(("next_piece" : Str),V.int 0),(("kinds" : Str),V.ref a1),(("notes" : Str),V.ref a2),(("rods_under" : Str),V.ref a3),(("sides" : Str),V.ref a4),(("mates" : Str),V.ref a5),(("engine_end" : Str),V.non),(("rung" : Str),V.ref a7)]:List (Str×V))))
  rw[show bp ("trail" : Str) (V.ref a8) ([(("next_piece" : Str),V.int 0),(("kinds" : Str),V.ref a1),(("notes" : Str),V.ref a2),(("rods_under" : Str),V.ref a3),(("sides" : Str),V.ref a4),(("mates" : Str),V.ref a5),(("engine_end" : Str),V.non),(("rung" : Str),V.ref a7)]:List (Str×V))=([(("next_piece" : Str),V.int 0),(("kinds" : Str),V.ref a1),(("notes" : Str),V.ref a2),(("rods_under" : Str),V.ref a3),(("sides" : Str),V.ref a4),(("mates" : Str),V.ref a5),(("engine_end" : Str),V.non),(("rung" : Str),V.ref a7),(("trail" : Str),V.ref a8)]:List (Str×V)) from by kernel_rfl] at h9 ⊢
  exact lG h9
end
noncomputable def ly (y:YR) (k:Kd) (note:Int) (rod:V):YR :=
 { y with next:=y.next+1,kinds:=aV y.kinds (Sum.inl y.next) (.str k.str),notes:=if k=.bell then aV y.notes (Sum.inl y.next) (.int note) else y.notes,rods:=if k.point then aV y.rods (Sum.inl y.next) (if rod=.non then .int y.sides.length else rod) else y.rods,sides:=if k.point/\rod=.non then y.sides++[.int 1] else y.sides,trail:=[] }
structure fV (y:YR):Prop where
 k:y.kinds.length<=10000
 n:y.notes.length<=10000
 r:y.rods.length<=10000
 s:y.sides.length<=10000
 m:y.mates.length<=30000
 g:y.rung.length<=300000
 t:y.trail.length<=300000
noncomputable def fj (C:Addr):Sp:=fun vs H Q _=>∃ (A:YA) (y:YR) (L:Kn) (n:Int) (v:V),vs=[.ref A.p,.int n]/\Has H (yL C A y++L)/\aD y.kinds (Sum.inl n)=some v/\Q .non H
noncomputable def gM (C:Addr):Sp:=fun vs H Q _=>∃ (A:YA) (y:YR) (L:Kn) (r:Int),vs=[.ref A.p,.int r]/\Has H (yL C A y++L)/\0<=r/\r<y.sides.length/\Q .non H
noncomputable def sp_Jc:Sp:=fun vs H Q _=>∃ n:Int,vs=[.int n]/\0<=n/\n<=9999/\Q .non H
noncomputable def jC (C:Addr):Sp:=fun vs H Q _=>∃ (A:YA) (y:YR) (L:Kn) (s:Int),vs=[.ref A.p,.int s]/\Has H (yL C A y++L)/\(s=1∨s=2)/\y.sides.length<=10000 /\
 ∀ H' q,Has H' (yL C { A with tr:=q } { y with sides:=y.sides++[.int s],trail:=[] }++L)->Q (.int y.sides.length) H'
noncomputable def mD (C:Addr):Sp:=fun vs H Q _=>∃ (A:YA) (y:YR) (L:Kn) (r s:Int),vs=[.ref A.p,.int r,.int s]/\Has H (yL C A y++L)/\0<=r/\r<y.sides.length/\(s=1∨s=2) /\
 ∀ H' q,Has H' (yL C { A with tr:=q } { y with sides:=y.sides.set r.toNat (.int s),trail:=[] }++L)->Q .non H'
noncomputable def oI (C:Addr):Sp:=fun vs H Q _=>∃ (A:YA) (y:YR) (L:Kn),vs=[.ref A.p]/\Has H (yL C A y++L)/\fV y/\∀ H' l,Has H' ((l,.lst (du y.sides.length))::(yL C A y++L))->Q (.ref l) H'
noncomputable def oH (C:Addr):Sp:=fun vs H Q _=>∃ (A:YA) (y:YR) (L:Kn) (r:Int) (v:V),vs=[.ref A.p,.int r]/\Has H (yL C A y++L)/\0<=r/\y.sides[r.toNat]?=some v/\Q v H
noncomputable def qV (C:Addr):Sp:=fun vs H Q _=>∃ (A:YA) (y:YR) (L:Kn) (n:Int) (u v:V),vs=[.ref A.p,.int n]/\Has H (yL C A y++L)/\aD y.kinds (Sum.inl n)=some u/\aD y.rods (Sum.inl n)=some v/\Q v H
noncomputable def qX (C:Addr):Sp:=fun vs H Q _=>∃ (A:YA) (y:YR) (L:Kn) (k:Kd) (note:Int) (rod:V),vs=[.ref A.p,.str k.str,.int note,rod]/\Has H (yL C A y++L)/\fV y/\(k=.bell->0<=note/\note<=9999) /\
 (k.point=true->rod≠.non->∃ r:Int,rod=.int r/\0<=r/\r<y.sides.length)/\∀ H' q,Has H' (yL C { A with tr:=q } (ly y k note rod)++L)->Q (.int y.next) H'
section
variable {P:Program}{w:World}{K:PySem.W.Frag}{mg:Str->Option Value}{base:Heap}{t:Adr}
theorem scEt:FnScope ["self"] ["self"] (ah tz):={}
theorem gq (T:Txt K mg t):FnOk P w K mg base CX0 1 t.f_J3 t.d_J3 ["self"] (dL t.c_Yard):=by
 refine T.F_J3.ok scEt (fun vs H Q E h=>?_) (fun cdv A outer s H vs Q E hr h=>?_)
 ·obtain⟨_,_,_,rfl,_⟩:=h
  rfl
 ·obtain⟨A,y,L,rfl,hH,q⟩:=h
  refine⟨_,(af (bt (pv 0) (bI ae) rfl)),?_⟩
  refine⟨by decide,fun a ha=>?_⟩
  have h1:=hH.alloc ha (.lst [])
  refine⟨_,U,A.p,_,A.dx,_,U,h1.get 2 U,T.cl_Yard,T.n_Yard_trail,(show 9<1000 by decide),?_⟩
  refine q _ a ?_
  rw[hG]
  have h2:=(h1.puti 2 U (.ins t.c_Yard A.dx (fl { A with tr:=a } y.next y.eng)))
  exact(h2.swap2).tail
theorem scCr:FnScope ["self","rod"] ["self","rod"] (ah tD):={}
theorem nQ (T:Txt K mg t):FnOk P w K mg base CX0 1 t.f_J2 t.d_J2 ["self","rod"] (gM t.c_Yard):=by
 refine T.F_J2.ok scCr (fun vs H Q E h=>?_) (fun cdv A outer s H vs Q E hr h=>?_)
 ·obtain⟨_,_,_,_,rfl,_⟩:=h
  rfl
 ·obtain⟨A,y,L,r,rfl,hH,r0,r1,q⟩:=h
  refine⟨_,(af (av (PW.pt (dM (ai cW (pv 1) ag (aj _)) (dC (ai iS (pv 1) (aI aA (by rfl) T.z_len (by rfl) (aa (au (pv 0) rfl) ae)) (aj _)))))
    (af bz)
    ak)),?_⟩
  refine⟨_,U,_,_,U,U,_,U,ifF (decide_eq_false (by omega)) ?_⟩
  refine⟨_,U,_,U,A.p,_,A.dx,_,_,U,hH.get 1 U,T.cl_Yard,T.n_Yard_sides,bE _ _ _,A.s,_,U,.inl (SqL.of (hH.get 6 U)),_,_,U,U,_,U,?_⟩
  exact ifF (decide_eq_false (by omega)) q
theorem scCn:FnScope ["note"] ["note"] (ah sX):={}
theorem ok_Jc (T:Txt K mg t):FnOk P w K mg base CX0 1 t.f_Jc t.d_Jc ["note"] sp_Jc:=by
 refine T.F_Jc.ok scCn (fun vs H Q E h=>?_) (fun cdv A outer s H vs Q E hr h=>?_)
 ·obtain⟨_,rfl,_⟩:=h
  rfl
 ·obtain⟨n,rfl,n0,n1,q⟩:=h
  refine⟨_,(af (av (PW.pt (dM (ai cW (pv 0) ag (aj _)) (dC (ai dj (pv 0) (cJ (by rfl) T.g_LAST_NOTE T.r_LAST_NOTE) (aj _)))))
    (af bz)
    ak)),?_⟩
  refine⟨_,U,_,_,U,U,_,U,ifF (decide_eq_false (by omega)) ?_⟩
  refine⟨_,U,_,_,U,U,_,U,ifF (decide_eq_false (by omega)) q⟩
theorem scCp:FnScope ["self","piece"] ["self","piece"] (ah tE):={}
theorem kB (T:Txt K mg t):FnOk P w K mg base CX0 1 t.f_J1 t.d_J1 ["self","piece"] (fj t.c_Yard):=by
 refine T.F_J1.ok scCp (fun vs H Q E h=>?_) (fun cdv A outer s H vs Q E hr h=>?_)
 ·obtain⟨_,_,_,_,_,rfl,_⟩:=h
  rfl
 ·obtain⟨A,y,L,n,v,rfl,hH,hv,q⟩:=h
  have hu:=cn hr
  refine⟨_,(af (av (cU (c7 hu (pv 1) (au (pv 0) rfl)))
    (af bz)
    ak)),?_⟩
  refine⟨_,U,_,U,A.p,_,A.dx,_,_,U,hH.get 1 U,T.cl_Yard,T.n_Yard_kinds,cG _ _ _,A.k,_,U,DGet.k (k:=Sum.inl n) (hH.get 3 U),_,U,?_⟩
  exact ifF (by rw[hv]; rfl) q
theorem scNr:FnScope ["self","side"] ["self","side"] (ah tm):={}
theorem ok_J7 (T:Txt K mg t):FnOk P w K mg base CX0 2 t.f_J7 t.d_J7 ["self","side"] (jC t.c_Yard):=by
 refine T.F_J7.ok scNr (fun vs H Q E h=>?_) (fun cdv A outer s H vs Q E hr h=>?_)
 ·obtain⟨_,_,_,_,rfl,_⟩:=h
  rfl
 ·obtain⟨A,y,L,z,rfl,hH,hz,sm,q⟩:=h
  refine⟨_,(ab (al (pcl (nP T) hr T.m_Jb T.F_Jb.kp (sj T) (aa (pv 1) ae)))
   (ab (al (bP PySem.F.plainAttrs_list PySem.F.slot_list_append PySem.F.type_list_append aR (au (pv 0) rfl) (aa (pv 1) ae)))
   (ab (al (aS (pv 0) T.cl_Yard T.M_J3 (gq T) hr (lS T) .nil aH))
   (af (ao (aq cM (aI aA (by rfl) T.z_len (by rfl) (aa (au (pv 0) rfl) ae)) ag)))))),?_⟩
  refine⟨_,U,z,U,hz,?_⟩
  refine⟨_,U,A.p,_,A.dx,_,_,U,hH.get 1 U,T.cl_Yard,T.n_Yard_sides,bE _ _ _,.inl ⟨U,_,SqL.of (hH.get 6 U)⟩,_,U,A.s,_,_,U,U,hH.get 6 U,aB (by omega),?_⟩
  have h1:Has _ (yL t.c_Yard A { y with sides:=y.sides++[.int z] }++L):=hH.puti 6 U (.lst (y.sides++[.int z]))
  refine⟨_,U,A.p,A.dx,_,U,h1.get 1 U,(b5 _ _ _).2.2.2.2.2.2.1,A,_,L,U,h1,fun H' a h2=>?_⟩
  refine⟨_,U,A.p,_,A.dx,_,_,U,h2.get 1 U,T.cl_Yard,T.n_Yard_sides,bE _ _ _,A.s,_,U,.inl (SqL.of (h2.get 6 U)),_,_,U,U,?_⟩
  have e:((y.sides++[V.int z]).length:Int) - 1=y.sides.length:=by rw[length_append,length_singleton]; omega
  show Q (.int (((y.sides++[V.int z]).length:Int) - 1)) H'
  rw[e]
  exact q H' a h2
theorem scTh:FnScope ["self","rod","side"] ["self","rod","side"] (ah sW):={}
theorem qB (T:Txt K mg t):FnOk P w K mg base CX0 2 t.f_Jd t.d_Jd ["self","rod","side"] (mD t.c_Yard):=by
 refine T.F_Jd.ok scTh (fun vs H Q E h=>?_) (fun cdv A outer s H vs Q E hr h=>?_)
 ·obtain⟨_,_,_,_,_,rfl,_⟩:=h
  rfl
 ·obtain⟨A,y,L,r,z,rfl,hH,r0,r1,hz,q⟩:=h
  refine⟨_,(ab (al (aK (pv 0) T.cl_Yard T.M_J2 (nQ T) hr (sk T) .nil aH (aa (pv 1) ae)))
   (ab (al (pcl (nP T) hr T.m_Jb T.F_Jb.kp (sj T) (aa (pv 2) ae)))
   (ab (bO (pv 2) (fu (au (pv 0) rfl) (pv 1) cS))
   (af (al (aS (pv 0) T.cl_Yard T.M_J3 (gq T) hr (lS T) .nil aH)))))),?_⟩
  refine⟨_,U,A.p,A.dx,_,U,hH.get 1 U,(b5 _ _ _).2.2.2.2.2.2.2.2,_,U,A,y,L,r,U,hH,r0,r1,?_⟩
  refine⟨_,U,z,U,hz,?_⟩
  have hj:ixN y.sides.length r=some r.toNat:=by unfold ixN; rw[if_pos r0,if_pos r1]
  refine⟨_,U,_,U,A.p,_,A.dx,_,_,U,hH.get 1 U,T.cl_Yard,T.n_Yard_sides,bE _ _ _,_,U,A.s,_,r,r.toNat,U,U,hH.get 6 U,hj,?_⟩
  have h1:Has _ (yL t.c_Yard A { y with sides:=y.sides.set r.toNat (.int z) }++L):=hH.puti 6 U (.lst (y.sides.set r.toNat (.int z)))
  exact⟨_,U,A.p,A.dx,_,U,h1.get 1 U,(b5 _ _ _).2.2.2.2.2.2.1,A,_,L,U,h1,fun H' a h2=>q H' a h2⟩
theorem scRs:FnScope ["self"] ["self"] (ah sL):={}
theorem qt (T:Txt K mg t):FnOk P w K mg base CX0 1 t.f_Jo t.d_Jo ["self"] (oI t.c_Yard):=by
 refine T.F_Jo.ok scRs (fun vs H Q E h=>?_) (fun cdv A outer s H vs Q E hr h=>?_)
 ·obtain⟨_,_,_,rfl,_⟩:=h
  rfl
 ·obtain⟨A,y,L,rfl,hH,sm,q⟩:=h
  refine⟨_,(af (ao (a9 (fZ rfl) (by rfl) T.z_list (by rfl) (aa (a9 jp (by rfl) T.z_range (by rfl) (aa (aI aA (by rfl) T.z_len (by rfl) (aa (au (pv 0) rfl) ae)) ae)) ae)))),?_⟩
  have:=sm.s
  refine⟨_,U,A.p,_,A.dx,_,_,U,hH.get 1 U,T.cl_Yard,T.n_Yard_sides,bE _ _ _,A.s,_,U,.inl (SqL.of (hH.get 6 U)),_,U,fun a ha=>?_⟩
  have h1:=hH.alloc ha (.rng 0 y.sides.length)
  refine⟨a,_,U,h1.get 0 U,by omega,by omega,fun l hl=>?_⟩
  have h2:=h1.alloc hl (.lst (du ((y.sides.length:Int)).toNat))
  refine q _ l ?_
  exact h2.swap2.tail
theorem scSi:FnScope ["self","rod"] ["self","rod"] (ah sM):={}
theorem qu (T:Txt K mg t):FnOk P w K mg base CX0 2 t.f_Jn t.d_Jn ["self","rod"] (oH t.c_Yard):=by
 refine T.F_Jn.ok scSi (fun vs H Q E h=>?_) (fun cdv A outer s H vs Q E hr h=>?_)
 ·obtain⟨_,_,_,_,_,rfl,_⟩:=h
  rfl
 ·obtain⟨A,y,L,r,v,rfl,hH,r0,hv,q⟩:=h
  have r1:r<y.sides.length:=by have:=(List.getElem?_eq_some_iff.mp hv).1; omega
  have er:(r.toNat:Int)=r:=by omega
  refine⟨_,(ab (al (aK (pv 0) T.cl_Yard T.M_J2 (nQ T) hr (sk T) .nil aH (aa (pv 1) ae)))
   (af (ao (aG aC (au (pv 0) rfl) (pv 1))))),?_⟩
  refine⟨_,U,A.p,A.dx,_,U,hH.get 1 U,(b5 _ _ _).2.2.2.2.2.2.2.2,_,U,A,y,L,r,U,hH,r0,r1,?_⟩
  exact⟨_,U,A.p,_,A.dx,_,_,U,hH.get 1 U,T.cl_Yard,T.n_Yard_sides,bE _ _ _,_,U,A.s,_,r,v,U,U,SqL.of (hH.get 6 U),(by rw[<- er]; exact aY hv),q⟩
theorem scRo:FnScope ["self","piece"] ["self","piece"] (ah sG):={}
theorem qr (T:Txt K mg t):FnOk P w K mg base CX0 2 t.f_Jt t.d_Jt ["self","piece"] (qV t.c_Yard):=by
 refine T.F_Jt.ok scRo (fun vs H Q E h=>?_) (fun cdv A outer s H vs Q E hr h=>?_)
 ·obtain⟨_,_,_,_,_,_,rfl,_⟩:=h
  rfl
 ·obtain⟨A,y,L,n,u,v,rfl,hH,hk,hv,q⟩:=h
  have hu:=cn hr
  refine⟨_,(ab (al (aK (pv 0) T.cl_Yard T.M_J1 (kB T) hr (pV T) .nil aH (aa (pv 1) ae)))
   (ab (av (cU (c7 hu (pv 1) (au (pv 0) rfl)))
    (af bz)
    ak)
   (af (ao (cK hu (au (pv 0) rfl) (pv 1)))))),?_⟩
  refine⟨_,U,A.p,A.dx,_,U,hH.get 1 U,(b5 _ _ _).2.2.2.2.2.2.2.1,_,U,A,y,L,n,u,U,hH,hk,?_⟩
  refine⟨_,U,_,U,A.p,_,A.dx,_,_,U,hH.get 1 U,T.cl_Yard,T.n_Jo_under,dc _ _ _,A.r,_,U,DGet.k (k:=Sum.inl n) (hH.get 5 U),_,U,ifF (by rw[hv]; rfl) ?_⟩
  refine⟨_,U,A.p,_,A.dx,_,_,U,hH.get 1 U,T.cl_Yard,T.n_Jo_under,dc _ _ _,_,U,A.r,_,U,?_,q⟩
  rw[<- hv]
  exact DGet.k (k:=Sum.inl n) (hH.get 5 U)
theorem scLy:FnScope ["self","kind","note","rod","point","piece"] ["self","kind","note","rod"] (ah sH):={}
theorem kz (T:Txt K mg t):FnOk P w K mg base CX0 3 t.f_Js t.d_Js ["self","kind","note","rod"] (qX t.c_Yard):=by
 obtain⟨ds_nr,hd_J7_1,hb_J7_1⟩:=pZ T
 refine T.F_Js.ok scLy (fun vs H Q E h=>?_) (fun cdv A outer s H vs Q E hr h=>?_)
 ·obtain⟨_,_,_,_,_,_,rfl,_⟩:=h
  rfl
 ·obtain⟨A,y,L,k,note,rod,rfl,hH,sm,hnote,hrod,q⟩:=h
  have hu:=cn hr
  refine⟨_,(ab (am (i:=4) scLy.nd rfl (Or.inl rfl) (pcl (nO T) hr T.m_Jq T.F_Jq.kp (si T) (aa (pv 1) ae)))
   (ab (av (ai br (pv 1) aF (aj _))
    (af (al (pcl (ok_Jc T) hr T.m_Jc T.F_Jc.kp (b_Jc T) (aa (pv 2) ae))))
    ak)
   (ab (av (PW.pt (cT (cj (pv 4)) (cv (ai dN (pv 3) bn (aj _)))))
    (af (al (aK (pv 0) T.cl_Yard T.M_J2 (nQ T) hr (sk T) .nil aH (aa (pv 3) ae))))
    ak)
   (ab (am (i:=5) scLy.nd rfl (Or.inl rfl) (au (pv 0) rfl))
   (ab (lg (pv 0) ag rO)
   (ab (cI hu (au (pv 0) rfl) (pv 5) (pv 1) rfl)
   (ab (av (ai br (pv 1) aF (aj _))
    (af (cI hu (au (pv 0) rfl) (pv 5) (pv 2) rfl))
    ak)
   (ab (av (cj (pv 4))
    (af (cI hu (au (pv 0) rfl) (pv 5) (cV (ai d8 (pv 3) bn (aj _)) (aS (pv 0) T.cl_Yard T.M_J7 (ok_J7 T) hr hb_J7_1 hd_J7_1 aH) (pv 3)) rfl))
    ak)
   (ab (al (aS (pv 0) T.cl_Yard T.M_J3 (gq T) hr (lS T) .nil aH))
   (af (ao (pv 5)))))))))))),?_⟩
  refine⟨_,U,k,U,?_⟩
  refine⟨_,U,U,_,U,ifJ (fun hc g=>?_) ?_⟩
  ·rw[k.isBell] at hc
   have hb:=hnote (of_decide_eq_true hc)
   exact⟨_,U,note,U,hb.1,hb.2,g⟩
  refine⟨_,U,_,U,?_⟩
  refine(fun(g:_)=>if2 (fun hp=>⟨_,U,U,_,U,ifJ (fun hc g'=>?a) g⟩) (fun hp=>bT g)) ?b
  case a=>
   have hn:rod≠.non:=by simpa using hc
   obtain⟨r,rfl,r0,r1⟩:=hrod hp hn
   exact⟨_,U,A.p,A.dx,_,U,hH.get 1 U,(b5 _ _ _).2.2.2.2.2.2.2.2,_,U,A,y,L,r,U,hH,r0,r1,g'⟩
  refine⟨_,U,A.p,_,A.dx,_,_,U,hH.get 1 U,T.cl_Yard,T.n_Yard_next_piece,hX _ _ _,?_⟩
  refine⟨_,U,A.p,_,A.dx,_,_,U,hH.get 1 U,T.cl_Yard,T.n_Yard_next_piece,hX _ _ _,_,_,U,U,_,_,hH.get 1 U,(show 9<1000 by decide),?_⟩
  rw[eG]
  have h1:Has _ (yL t.c_Yard A { y with next:=y.next+1 }++L):=hH.puti 1 U (.ins t.c_Yard A.dx (fl A (y.next+1) y.eng))
  generalize upd H A.p _=H1 at h1 ⊢
  refine⟨_,U,_,U,A.p,_,A.dx,_,_,U,h1.get 1 U,T.cl_Yard,T.n_Yard_kinds,cG _ _ _,_,U,A.k,_,U,DPut.k (k:=Sum.inl y.next) (h1.get 3 U) (aB (show y.kinds.length<=1000000 by have:=sm.k; omega)),?_⟩
  have h2:Has _ (yL t.c_Yard A { y with next:=y.next+1,kinds:=aV y.kinds (Sum.inl y.next) (.str k.str) }++L):=h1.puti 3 U (.dK (aV y.kinds (Sum.inl y.next) (.str k.str)))
  generalize upd H1 A.k _=H2 at h2 ⊢
  refine⟨_,U,U,_,U,?_⟩
  rw[k.isBell]
  have fin:∀ (H3:Hp) (A3:YA) (y3:YR),A3.p=A.p->(∀ q,{ A3 with tr:=q }={ A with tr:=q })->{ y3 with trail:=[] }=ly y k note rod->Has H3 (yL t.c_Yard A3 y3++L) ->
    qI (qf (l9 t.c_Yard "end_trail" (dL t.c_Yard) [] E0 (oz 0) l8)) (sw (oz 5)) { nx:=fun _ H'=>Q .non H',rt:=Q } [some (.ref A.p),some (.str k.str),some (.int note),some rod,some (.bl k.point),some (.int y.next)] H3:=fun H3 A3 y3 e1 e2 e3 h3=>by
   have g1:=h3.get 1 rfl
   rw[e1] at g1
   refine⟨_,U,A.p,A3.dx,_,U,g1,(b5 _ _ _).2.2.2.2.2.2.1,A3,y3,L,(by rw[e1]; rfl),h3,fun H4 a h4=>⟨_,U,?_⟩⟩
   rw[e2,e3] at h4
   exact q H4 a h4
  refine ifd (fun hb=>?_) (fun hb=>?_)
  ·subst hb
   refine⟨_,U,_,U,A.p,_,A.dx,_,_,U,h2.get 1 U,T.cl_Yard,T.n_Yard_notes,bZ _ _ _,_,U,A.n,_,U,DPut.k (k:=Sum.inl y.next) (h2.get 4 U) (aB (show y.notes.length<=1000000 by have:=sm.n; omega)),?_⟩
   have h3:Has _ (yL t.c_Yard A { y with next:=y.next+1,kinds:=aV y.kinds (Sum.inl y.next) (.str Kd.bell.str),notes:=aV y.notes (Sum.inl y.next) (.int note) }++L):=h2.puti 4 U (.dK (aV y.notes (Sum.inl y.next) (.int note)))
   refine⟨_,U,_,U,bT ?_⟩
   exact fin _ A _ rfl (fun _=>rfl) rfl h3
  ·refine⟨_,U,_,U,if2 (fun hp=>?_) (fun hp=>?_)⟩
   ·refine⟨_,U,U,_,U,ifd (fun hn=>?_) (fun hn=>?_)⟩
    ·subst hn
     refine⟨_,U,A.p,A.dx,_,U,h2.get 1 U,(b5 _ _ _).2.1,A,_,L,1,U,h2,.inl rfl,sm.s,fun H3 a h3=>?_⟩
     refine⟨_,U,A.p,_,A.dx,_,_,U,h3.get 1 U,T.cl_Yard,T.n_Jo_under,dc _ _ _,_,U,A.r,_,U,DPut.k (k:=Sum.inl y.next) (h3.get 5 U) (aB (show y.rods.length<=1000000 by have:=sm.r; omega)),?_⟩
     have h4:Has _ (yL t.c_Yard { A with tr:=a } { y with next:=y.next+1,kinds:=aV y.kinds (Sum.inl y.next) (.str k.str),rods:=aV y.rods (Sum.inl y.next) (.int y.sides.length),sides:=y.sides++[.int 1],trail:=[] }++L):=h3.puti 5 U (.dK (aV y.rods (Sum.inl y.next) (.int y.sides.length)))
     exact fin _ { A with tr:=a } _ rfl (fun _=>rfl) (by unfold ly; rw[if_neg hb,if_pos hp,if_pos rfl,if_pos ⟨hp,U⟩]) h4
    ·refine⟨_,U,_,U,A.p,_,A.dx,_,_,U,h2.get 1 U,T.cl_Yard,T.n_Jo_under,dc _ _ _,_,U,A.r,_,U,DPut.k (k:=Sum.inl y.next) (h2.get 5 U) (aB (show y.rods.length<=1000000 by have:=sm.r; omega)),?_⟩
     have h3:Has _ (yL t.c_Yard A { y with next:=y.next+1,kinds:=aV y.kinds (Sum.inl y.next) (.str k.str),rods:=aV y.rods (Sum.inl y.next) rod }++L):=h2.puti 5 U (.dK (aV y.rods (Sum.inl y.next) rod))
     exact fin _ A _ rfl (fun _=>rfl) (by unfold ly; rw[if_neg hb,if_pos hp,if_neg hn,if_neg (fun z=>hn z.2)]) h3
   ·exact fin _ A _ rfl (fun _=>rfl) (by unfold ly; rw[if_neg hb,if_neg (by rw[hp]; exact Bool.false_ne_true),if_neg (fun z=>by rw[hp] at z; exact Bool.false_ne_true z.1)]) h2
end
noncomputable abbrev kE (n e:Int):List Key:=[Sum.inl n,Sum.inl e]
theorem dv (A:YA) (next:Int) (eng:V):(fl A next eng).lookup ("check_there" : Str)=none/\(fl A next eng).lookup ("mate" : Str)=none/\(fl A next eng).lookup ("link" : Str)=none/\(fl A next eng).lookup ("unlink" : Str)=none :=
 ⟨by kernel_rfl,by kernel_rfl,by kernel_rfl,by kernel_rfl⟩
noncomputable def eN (y:YR) (n e:Int):Prop:=∃ k:Kd,aD y.kinds (Sum.inl n)=some (.str k.str)/\0<=e/\e<k.many
noncomputable def fi (C:Addr):Sp:=fun vs H Q _=>∃ (A:YA) (y:YR) (L:Kn) (b:Addr) (n e:Int) (j:Nat),vs=[.ref A.p,.ref b]/\Has H (yL C A y++L)/\L[j]?=some (b,.tup [.int n,.int e])/\eN y n e/\Q .non H
noncomputable def oK (C:Addr):Sp:=fun vs H Q _=>∃ (A:YA) (y:YR) (L:Kn) (b:Addr) (n e:Int) (j:Nat),vs=[.ref A.p,.ref b]/\Has H (yL C A y++L)/\L[j]?=some (b,.tup [.int n,.int e])/\eN y n e/\Q ((aD y.mates (kE n e)).getD .non) H
noncomputable def oO (C:Addr):Sp:=fun vs H Q _=>∃ (A:YA) (y:YR) (L:Kn) (b1 b2:Addr) (n1 e1 n2 e2:Int) (j1 j2:Nat),vs=[.ref A.p,.ref b1,.ref b2]/\Has H (yL C A y++L)/\L[j1]?=some (b1,.tup [.int n1,.int e1])/\L[j2]?=some (b2,.tup [.int n2,.int e2]) /\
 eN y n1 e1/\eN y n2 e2/\¬ kE n1 e1=kE n2 e2/\aD y.mates (kE n1 e1)=none/\aD y.mates (kE n2 e2)=none/\y.mates.length<=30000 /\
 ∀ H' q,Has H' (yL C { A with tr:=q } { y with mates:=aV (aV y.mates (kE n1 e1) (.ref b2)) (kE n2 e2) (.ref b1),trail:=[] }++L)->Q .non H'
noncomputable def k6 (C:Addr):Sp:=fun vs H Q _=>∃ (A:YA) (y:YR) (L:Kn) (b1 b2:Addr) (n1 e1 n2 e2:Int) (j1 j2:Nat) (v:V),vs=[.ref A.p,.ref b1]/\Has H (yL C A y++L)/\L[j1]?=some (b1,.tup [.int n1,.int e1])/\L[j2]?=some (b2,.tup [.int n2,.int e2]) /\
 eN y n1 e1/\¬ kE n2 e2=kE n1 e1/\aD y.mates (kE n1 e1)=some (.ref b2)/\aD y.mates (kE n2 e2)=some v /\
 ∀ H' q,Has H' (yL C { A with tr:=q } { y with mates:=aN (aN y.mates (kE n1 e1)) (kE n2 e2),trail:=[] }++L)->Q .non H'
theorem cf {κ:Type} [DecidableEq κ] {kvs:List (κ×V)}{k j:κ} (h:¬ j=k):aD (aN kvs k) j=aD kvs j:=by
 induction kvs with
 | nil=>rfl
 | cons p r ih=>
  by_cases e:p.1=k
  ·rw[de e,ih,aZ (fun z=>h (z.symm.trans e))]
  ·rw[df e]
   by_cases e2:p.1=j
   ·rw[bj e2,bj e2]
   ·rw[aZ e2,aZ e2,ih]
theorem ci {κ:Type} [DecidableEq κ] {kvs:List (κ×V)}{k:κ}:aD (aN kvs k) k=none:=by
 induction kvs with
 | nil=>rfl
 | cons p r ih=>
  by_cases e:p.1=k
  ·rw[de e,ih]
  ·rw[df e,aZ e,ih]
section
variable {P:Program}{w:World}{K:PySem.W.Frag}{mg:Str->Option Value}{base:Heap}{t:Adr}
theorem scCt:FnScope ["self","end","piece","place"] ["self","end"] (ah tF):={}
theorem iU (T:Txt K mg t):FnOk P w K mg base CX0 3 t.f_J0 t.d_J0 ["self","end"] (fi t.c_Yard):=by
 refine T.F_J0.ok scCt (fun vs H Q E h=>?_) (fun cdv A outer s H vs Q E hr h=>?_)
 ·obtain⟨_,_,_,_,_,_,_,rfl,_⟩:=h
  rfl
 ·obtain⟨A,y,L,b,n,e,j,rfl,hH,hj,⟨k,hk,e0,e1⟩,q⟩:=h
  have hu:=cn hr
  refine⟨_,(ab (bO (pv 1) (cA rfl (az (ar (i:=2) scCt.nd rfl (Or.inl rfl)) (az (ar (i:=3) scCt.nd rfl (Or.inl rfl)) bX))))
   (ab (al (aK (pv 0) T.cl_Yard T.M_J1 (kB T) hr (pV T) .nil aH (aa (pv 2) ae)))
   (af (al (pcl (qy T) hr T.m_Ji T.F_Ji.kp (tP T) (aa (cK hu (au (pv 0) rfl) (pv 2)) (aa (pv 3) ae))))))),?_⟩
  have gb:=hH.get (j+9) (by simpa [yL] using hj)
  refine⟨_,U,b,_,U,SqT.of gb,U,_,_,U,_,_,U,U,?_⟩
  refine⟨_,U,A.p,A.dx,_,U,hH.get 1 U,(b5 _ _ _).2.2.2.2.2.2.2.1,_,U,A,y,L,n,_,U,hH,hk,?_⟩
  refine⟨_,U,A.p,_,A.dx,_,_,U,hH.get 1 U,T.cl_Yard,T.n_Yard_kinds,cG _ _ _,_,U,A.k,_,U,?_,_,U,k,e,U,e0,e1,q⟩
  rw[<- hk]
  exact DGet.k (k:=Sum.inl n) (hH.get 3 U)
theorem scMt:FnScope ["self","end"] ["self","end"] (ah sN):={}
theorem qv (T:Txt K mg t):FnOk P w K mg base CX0 4 t.f_Jm t.d_Jm ["self","end"] (oK t.c_Yard):=by
 refine T.F_Jm.ok scMt (fun vs H Q E h=>?_) (fun cdv A outer s H vs Q E hr h=>?_)
 ·obtain⟨_,_,_,_,_,_,_,rfl,_⟩:=h
  rfl
 ·obtain⟨A,y,L,b,n,e,j,rfl,hH,hj,th,q⟩:=h
  have hu:=cn hr
  refine⟨_,(ab (al (aK (pv 0) T.cl_Yard T.M_J0 (iU T) hr (ow T) .nil aH (aa (pv 1) ae)))
   (af (ao (iQ hu (au (pv 0) rfl) (pv 1) ⟨U,U,U,U⟩)))),?_⟩
  have gb:=hH.get (j+9) (by simpa [yL] using hj)
  refine⟨_,U,A.p,A.dx,_,U,hH.get 1 U,(dv _ _ _).1,_,U,A,y,L,b,n,e,j,U,hH,hj,th,?_⟩
  exact⟨_,U,A.p,_,A.dx,_,_,U,hH.get 1 U,T.cl_Yard,T.n_Yard_mates,bK _ _ _,A.m,U,.inr ⟨_,.inl (hH.get 7 U)⟩,_,U,_,DGet.t (k:=kE n e) (hH.get 7 U) gb,q⟩
theorem scLk:FnScope ["self","one","other","end"] ["self","one","other"] (ah sP):={}
theorem ok_Jk (T:Txt K mg t):FnOk P w K mg base CX0 4 t.f_Jk t.d_Jk ["self","one","other"] (oO t.c_Yard):=by
 refine T.F_Jk.ok scLk (fun vs H Q E h=>?_) (fun cdv A outer s H vs Q E hr h=>?_)
 ·obtain⟨_,_,_,_,_,_,_,_,_,_,_,rfl,_⟩:=h
  rfl
 ·obtain⟨A,y,L,b1,b2,n1,e1,n2,e2,j1,j2,rfl,hH,hj1,hj2,t1,t2,ne,v1,v2,hl,q⟩:=h
  have hu:=cn hr
  refine⟨_,(ab (al (aK (pv 0) T.cl_Yard T.M_J0 (iU T) hr (ow T) .nil aH (aa (pv 1) ae)))
   (ab (al (aK (pv 0) T.cl_Yard T.M_J0 (iU T) hr (ow T) .nil aH (aa (pv 2) ae)))
   (ab (av (ai (nF hr.units) (pv 1) (pv 2) (aj _))
    (af bz)
    ak)
   (ab (b9 PassesOwn.never rfl (rc (aO (aa (pv 1) (aa (pv 2) ae)))) (ar (i:=3) scLk.nd rfl (Or.inl rfl))
    (af (av (cU (nC hu (pv 3) (au (pv 0) rfl)))
      (af bz)
      ak)))
   (ab (cI hu (au (pv 0) rfl) (pv 1) (pv 2) rfl)
   (ab (cI hu (au (pv 0) rfl) (pv 2) (pv 1) rfl)
   (af (al (aS (pv 0) T.cl_Yard T.M_J3 (gq T) hr (lS T) .nil aH))))))))),?_⟩
  have g1:=hH.get (j1+9) (by simpa [yL] using hj1)
  have g2:=hH.get (j2+9) (by simpa [yL] using hj2)
  refine⟨_,U,A.p,A.dx,_,U,hH.get 1 U,(dv _ _ _).1,_,U,A,y,L,b1,n1,e1,j1,U,hH,hj1,t1,?_⟩
  refine⟨_,U,A.p,A.dx,_,U,hH.get 1 U,(dv _ _ _).1,_,U,A,y,L,b2,n2,e2,j2,U,hH,hj2,t2,?_⟩
  have ne':¬ [n1,e1]=[n2,e2]:=fun z=>ne (by cases z; rfl)
  refine⟨_,U,_,U,b1,b2,[n1,e1],[n2,e2],U,U,g1,g2,_,U,ifF (decide_eq_false ne') ?_⟩
  refine⟨_,U,_,U,(show 2<=sizeLine by decide),fun p hp=>?_⟩
  have h1:=(hH.alloc hp (.tup [.ref b1,.ref b2]))
  generalize upd H p _=H1 at h1 ⊢
  refine⟨p,U,⟨_,SqT.of (h1.get 0 U)⟩,pI (xs:=[.ref b1,.ref b2]) (fun i σ H'=>H'=H1/\∃ o,σ=[some (.ref A.p),some (.ref b1),some (.ref b2),o]) ⟨U,_,U⟩ (fun i σ H' _ ⟨e,_⟩=>by rw[e]; exact SqT.of (h1.get 0 U)) ?_ ?_⟩
  ·rintro i x σ H' hx ⟨rfl,o,rfl⟩
   have k1:=h1.get (j1+10) (by simpa [yL] using hj1)
   have k2:=h1.get (j2+10) (by simpa [yL] using hj2)
   match i,hx with
   | 0,hx=>
    cases hx
    refine⟨_,U,_,U,A.p,_,A.dx,_,_,U,h1.get 2 U,T.cl_Yard,T.n_Yard_mates,bK _ _ _,A.m,_,U,DGet.t (k:=kE n1 e1) (h1.get 8 U) k1,_,U,ifF (by rw[v1]; rfl) ⟨U,_,U⟩⟩
   | 1,hx=>
    cases hx
    refine⟨_,U,_,U,A.p,_,A.dx,_,_,U,h1.get 2 U,T.cl_Yard,T.n_Yard_mates,bK _ _ _,A.m,_,U,DGet.t (k:=kE n2 e2) (h1.get 8 U) k2,_,U,ifF (by rw[v2]; rfl) ⟨U,_,U⟩⟩
  ·rintro σ H' ⟨rfl,o,rfl⟩
   have h2:=h1.tail
   have k1:=h2.get (j1+9) (by simpa [yL] using hj1)
   refine⟨_,U,_,U,A.p,_,A.dx,_,_,U,h2.get 1 U,T.cl_Yard,T.n_Yard_mates,bK _ _ _,_,U,A.m,_,U,DPut.t (k:=kE n1 e1) (h2.get 7 U) k1 (aB (by omega)),?_⟩
   have h3:Has _ (yL t.c_Yard A { y with mates:=aV y.mates (kE n1 e1) (.ref b2) }++L):=h2.puti 7 U (.dT (aV y.mates (kE n1 e1) (.ref b2)))
   generalize upd H' A.m _=H3 at h3 ⊢
   have k2:=h3.get (j2+9) (by simpa [yL] using hj2)
   refine⟨_,U,_,U,A.p,_,A.dx,_,_,U,h3.get 1 U,T.cl_Yard,T.n_Yard_mates,bK _ _ _,_,U,A.m,_,U,DPut.t (k:=kE n2 e2) (h3.get 7 U) k2 (aB (Nat.le_trans (bu _ _ _) (by omega))),?_⟩
   have h4:Has _ (yL t.c_Yard A { y with mates:=aV (aV y.mates (kE n1 e1) (.ref b2)) (kE n2 e2) (.ref b1) }++L):=h3.puti 7 U (.dT (aV (aV y.mates (kE n1 e1) (.ref b2)) (kE n2 e2) (.ref b1)))
   exact⟨_,U,A.p,A.dx,_,U,h4.get 1 U,(b5 _ _ _).2.2.2.2.2.2.1,A,_,L,U,h4,fun H' a h2=>q H' a h2⟩
theorem scUl:FnScope ["self","end","other"] ["self","end"] (ah tj):={}
theorem ok_J8 (T:Txt K mg t):FnOk P w K mg base CX0 4 t.f_J8 t.d_J8 ["self","end"] (k6 t.c_Yard):=by
 refine T.F_J8.ok scUl (fun vs H Q E h=>?_) (fun cdv A outer s H vs Q E hr h=>?_)
 ·obtain⟨_,_,_,_,_,_,_,_,_,_,_,_,rfl,_⟩:=h
  rfl
 ·obtain⟨A,y,L,b1,b2,n1,e1,n2,e2,j1,j2,v,rfl,hH,hj1,hj2,t1,ne,v1,v2,q⟩:=h
  have hu:=cn hr
  refine⟨_,(ab (al (aK (pv 0) T.cl_Yard T.M_J0 (iU T) hr (ow T) .nil aH (aa (pv 1) ae)))
   (ab (av (cU (c7 hu (pv 1) (au (pv 0) rfl)))
    (af bz)
    ak)
   (ab (am (i:=2) scUl.nd rfl (Or.inl rfl) (cK hu (au (pv 0) rfl) (pv 1)))
   (ab (iJ hu (au (pv 0) rfl) (pv 1))
   (ab (iJ hu (au (pv 0) rfl) (pv 2))
   (af (al (aS (pv 0) T.cl_Yard T.M_J3 (gq T) hr (lS T) .nil aH)))))))),?_⟩
  have g1:=hH.get (j1+9) (by simpa [yL] using hj1)
  have g2:=hH.get (j2+9) (by simpa [yL] using hj2)
  refine⟨_,U,A.p,A.dx,_,U,hH.get 1 U,(dv _ _ _).1,_,U,A,y,L,b1,n1,e1,j1,U,hH,hj1,t1,?_⟩
  refine⟨_,U,_,U,A.p,_,A.dx,_,_,U,hH.get 1 U,T.cl_Yard,T.n_Yard_mates,bK _ _ _,A.m,_,U,DGet.t (k:=kE n1 e1) (hH.get 7 U) g1,_,U,ifF (by rw[v1]; rfl) ?_⟩
  refine⟨_,U,A.p,_,A.dx,_,_,U,hH.get 1 U,T.cl_Yard,T.n_Yard_mates,bK _ _ _,_,U,A.m,.ref b2,U,?_,?_⟩
  ·rw[<- v1]; exact DGet.t (k:=kE n1 e1) (hH.get 7 U) g1
  refine⟨_,U,A.p,_,A.dx,_,_,U,hH.get 1 U,T.cl_Yard,T.n_Yard_mates,bK _ _ _,_,U,A.m,b1,_,kE n1 e1,_,U,U,hH.get 7 U,g1,v1,?_⟩
  have h3:Has _ (yL t.c_Yard A { y with mates:=aN y.mates (kE n1 e1) }++L):=hH.puti 7 U (.dT (aN y.mates (kE n1 e1)))
  generalize upd H A.m _=H3 at h3 ⊢
  have k2:=h3.get (j2+9) (by simpa [yL] using hj2)
  refine⟨_,U,A.p,_,A.dx,_,_,U,h3.get 1 U,T.cl_Yard,T.n_Yard_mates,bK _ _ _,_,U,A.m,b2,_,kE n2 e2,v,U,U,h3.get 7 U,k2,(by rw[<- v2]; exact cf ne),?_⟩
  have h4:Has _ (yL t.c_Yard A { y with mates:=aN (aN y.mates (kE n1 e1)) (kE n2 e2) }++L):=h3.puti 7 U (.dT (aN (aN y.mates (kE n1 e1)) (kE n2 e2)))
  exact⟨_,U,A.p,A.dx,_,U,h4.get 1 U,(b5 _ _ _).2.2.2.2.2.2.1,A,_,L,U,h4,fun H' a h2=>q H' a h2⟩
end
theorem cw (A:YA) (next:Int) (eng:V):(fl A next eng).lookup ("put" : Str)=none/\(fl A next eng).lookup ("off" : Str)=none/\(fl A next eng).lookup ("carry" : Str)=none/\(fl A next eng).lookup ("pieces" : Str)=none/\(fl A next eng).lookup ("kind" : Str)=none /\
  (fl A next eng).lookup ("note" : Str)=none/\(fl A next eng).lookup ("engine" : Str)=none/\(fl A next eng).lookup ("bells" : Str)=none/\(fl A next eng).lookup ("steps" : Str)=none :=
 ⟨by kernel_rfl,by kernel_rfl,by kernel_rfl,by kernel_rfl,by kernel_rfl,by kernel_rfl,by kernel_rfl,by kernel_rfl,by kernel_rfl⟩
noncomputable def qW (C:Addr):Sp:=fun vs H Q _=>∃ (A:YA) (y:YR) (L:Kn) (b:Addr) (n e:Int) (j:Nat),vs=[.ref A.p,.ref b]/\Has H (yL C A y++L)/\L[j]?=some (b,.tup [.int n,.int e])/\eN y n e /\
 ∀ H' q,Has H' (yL C { A with tr:=q } { y with eng:=.ref b,trail:=[] }++L)->Q .non H'
noncomputable def k8 (C:Addr):Sp:=fun vs H Q _=>∃ (A:YA) (y:YR) (L:Kn),vs=[.ref A.p]/\Has H (yL C A y++L)/\Q y.eng H
noncomputable def mE (C:Addr):Sp:=fun vs H Q _=>∃ (A:YA) (y:YR) (L:Kn),vs=[.ref A.p]/\Has H (yL C A y++L)/\Q (.int y.trail.length) H
noncomputable def mL (C:Addr):Sp:=fun vs H Q _=>∃ (A:YA) (y:YR) (L:Kn),vs=[.ref A.p]/\Has H (yL C A y++L)/\∀ H' l,Has H' ((l,.lst y.rung)::(yL C A y++L))->Q (.ref l) H'
noncomputable def k7 (C:Addr):Sp:=fun vs H Q _=>∃ (A:YA) (y:YR) (L:Kn),vs=[.ref A.p]/\Has H (yL C A y++L)/\∀ H' l,Has H' ((l,.lst (y.kinds.map fun kv=>kV kv.1))::(yL C A y++L))->Q (.ref l) H'
noncomputable def mB (C:Addr):Sp:=fun vs H Q _=>∃ (A:YA) (y:YR) (L:Kn) (n:Int) (v:V),vs=[.ref A.p,.int n]/\Has H (yL C A y++L)/\aD y.kinds (Sum.inl n)=some v/\Q v H
noncomputable def mw (C:Addr):Sp:=fun vs H Q _=>∃ (A:YA) (y:YR) (L:Kn) (n:Int) (u v:V),vs=[.ref A.p,.int n]/\Has H (yL C A y++L)/\aD y.kinds (Sum.inl n)=some u/\aD y.notes (Sum.inl n)=some v/\Q v H
section
variable {P:Program}{w:World}{K:PySem.W.Frag}{mg:Str->Option Value}{base:Heap}{t:Adr}
theorem scPu:FnScope ["self","end"] ["self","end"] (ah sI):={}
theorem ok_Jr (T:Txt K mg t):FnOk P w K mg base CX0 4 t.f_Jr t.d_Jr ["self","end"] (qW t.c_Yard):=by
 refine T.F_Jr.ok scPu (fun vs H Q E h=>?_) (fun cdv A outer s H vs Q E hr h=>?_)
 ·obtain⟨_,_,_,_,_,_,_,rfl,_⟩:=h
  rfl
 ·obtain⟨A,y,L,b,n,e,j,rfl,hH,hj,th,q⟩:=h
  refine⟨_,(ab (al (aK (pv 0) T.cl_Yard T.M_J0 (iU T) hr (ow T) .nil aH (aa (pv 1) ae)))
   (ab (bt (pv 0) (pv 1) rfl)
   (af (al (aS (pv 0) T.cl_Yard T.M_J3 (gq T) hr (lS T) .nil aH))))),?_⟩
  refine⟨_,U,A.p,A.dx,_,U,hH.get 1 U,(dv _ _ _).1,_,U,A,y,L,b,n,e,j,U,hH,hj,th,?_⟩
  refine⟨_,U,_,U,A.p,_,A.dx,_,U,hH.get 1 U,T.cl_Yard,T.n_J9_end,(show 9<1000 by decide),?_⟩
  rw[bV]
  have h1:Has _ (yL t.c_Yard A { y with eng:=.ref b }++L):=hH.puti 1 U (.ins t.c_Yard A.dx (fl A y.next (.ref b)))
  exact⟨_,U,A.p,A.dx,_,U,h1.get 1 U,(b5 _ _ _).2.2.2.2.2.2.1,A,_,L,U,h1,fun H' a h2=>q H' a h2⟩
theorem scEg:FnScope ["self"] ["self"] (ah s8):={}
theorem kA (T:Txt K mg t):FnOk P w K mg base CX0 1 t.f_J9 t.d_J9 ["self"] (k8 t.c_Yard):=by
 refine T.F_J9.ok scEg (fun vs H Q E h=>?_) (fun cdv A outer s H vs Q E hr h=>?_)
 ·obtain⟨_,_,_,rfl,_⟩:=h
  rfl
 ·obtain⟨A,y,L,rfl,hH,q⟩:=h
  refine⟨_,(af (ao (au (pv 0) rfl))),?_⟩
  exact⟨_,U,A.p,_,A.dx,_,_,U,hH.get 1 U,T.cl_Yard,T.n_J9_end,hZ _ _ _,q⟩
theorem scSt:FnScope ["self"] ["self"] (ah sU):={}
theorem qA (T:Txt K mg t):FnOk P w K mg base CX0 1 t.f_Jf t.d_Jf ["self"] (mE t.c_Yard):=by
 refine T.F_Jf.ok scSt (fun vs H Q E h=>?_) (fun cdv A outer s H vs Q E hr h=>?_)
 ·obtain⟨_,_,_,rfl,_⟩:=h
  rfl
 ·obtain⟨A,y,L,rfl,hH,q⟩:=h
  refine⟨_,(af (ao (aI aA (by rfl) T.z_len (by rfl) (aa (au (pv 0) rfl) ae)))),?_⟩
  exact⟨_,U,A.p,_,A.dx,_,_,U,hH.get 1 U,T.cl_Yard,T.n_Yard_trail,jb _ _ _,A.tr,_,U,.inl (SqL.of (hH.get 0 U)),q⟩
theorem scBe:FnScope ["self"] ["self"] (ah sT):={}
theorem ok_Jg (T:Txt K mg t):FnOk P w K mg base CX0 1 t.f_Jg t.d_Jg ["self"] (mL t.c_Yard):=by
 refine T.F_Jg.ok scBe (fun vs H Q E h=>?_) (fun cdv A outer s H vs Q E hr h=>?_)
 ·obtain⟨_,_,_,rfl,_⟩:=h
  rfl
 ·obtain⟨A,y,L,rfl,hH,q⟩:=h
  refine⟨_,(af (ao (a9 cc (by rfl) T.z_list (by rfl) (aa (au (pv 0) rfl) ae)))),?_⟩
  exact⟨_,U,A.p,_,A.dx,_,_,U,hH.get 1 U,T.cl_Yard,T.n_Yard_rung,fc _ _ _,A.g,_,U,.inl (SqL.of (hH.get 8 U)),fun l hl=>q _ l (hH.alloc hl _)⟩
theorem scPc:FnScope ["self"] ["self"] (ah sZ):={}
theorem qC (T:Txt K mg t):FnOk P w K mg base CX0 1 t.f_Ja t.d_Ja ["self"] (k7 t.c_Yard):=by
 refine T.F_Ja.ok scPc (fun vs H Q E h=>?_) (fun cdv A outer s H vs Q E hr h=>?_)
 ·obtain⟨_,_,_,rfl,_⟩:=h
  rfl
 ·obtain⟨A,y,L,rfl,hH,q⟩:=h
  refine⟨_,(af (ao (a9 (ir rfl) (by rfl) T.z_list (by rfl) (aa (au (pv 0) rfl) ae)))),?_⟩
  exact⟨_,U,A.p,_,A.dx,_,_,U,hH.get 1 U,T.cl_Yard,T.n_Yard_kinds,cG _ _ _,A.k,_,U,.inl (hH.get 3 U),fun l hl=>q _ l (hH.alloc hl _)⟩
theorem scYk:FnScope ["self","piece"] ["self","piece"] (ah sO):={}
theorem qw (T:Txt K mg t):FnOk P w K mg base CX0 2 t.f_Jl t.d_Jl ["self","piece"] (mB t.c_Yard):=by
 refine T.F_Jl.ok scYk (fun vs H Q E h=>?_) (fun cdv A outer s H vs Q E hr h=>?_)
 ·obtain⟨_,_,_,_,_,rfl,_⟩:=h
  rfl
 ·obtain⟨A,y,L,n,v,rfl,hH,hv,q⟩:=h
  have hu:=cn hr
  refine⟨_,(ab (al (aK (pv 0) T.cl_Yard T.M_J1 (kB T) hr (pV T) .nil aH (aa (pv 1) ae)))
   (af (ao (cK hu (au (pv 0) rfl) (pv 1))))),?_⟩
  refine⟨_,U,A.p,A.dx,_,U,hH.get 1 U,(b5 _ _ _).2.2.2.2.2.2.2.1,_,U,A,y,L,n,v,U,hH,hv,?_⟩
  refine⟨_,U,A.p,_,A.dx,_,_,U,hH.get 1 U,T.cl_Yard,T.n_Yard_kinds,cG _ _ _,_,U,A.k,_,U,?_,q⟩
  rw[<- hv]
  exact DGet.k (k:=Sum.inl n) (hH.get 3 U)
theorem scYn:FnScope ["self","piece"] ["self","piece"] (ah sK):={}
theorem ok_Jp (T:Txt K mg t):FnOk P w K mg base CX0 2 t.f_Jp t.d_Jp ["self","piece"] (mw t.c_Yard):=by
 refine T.F_Jp.ok scYn (fun vs H Q E h=>?_) (fun cdv A outer s H vs Q E hr h=>?_)
 ·obtain⟨_,_,_,_,_,_,rfl,_⟩:=h
  rfl
 ·obtain⟨A,y,L,n,u,v,rfl,hH,hk,hv,q⟩:=h
  have hu:=cn hr
  refine⟨_,(ab (al (aK (pv 0) T.cl_Yard T.M_J1 (kB T) hr (pV T) .nil aH (aa (pv 1) ae)))
   (ab (av (cU (c7 hu (pv 1) (au (pv 0) rfl)))
    (af bz)
    ak)
   (af (ao (cK hu (au (pv 0) rfl) (pv 1)))))),?_⟩
  refine⟨_,U,A.p,A.dx,_,U,hH.get 1 U,(b5 _ _ _).2.2.2.2.2.2.2.1,_,U,A,y,L,n,u,U,hH,hk,?_⟩
  refine⟨_,U,_,U,A.p,_,A.dx,_,_,U,hH.get 1 U,T.cl_Yard,T.n_Yard_notes,bZ _ _ _,A.n,_,U,DGet.k (k:=Sum.inl n) (hH.get 4 U),_,U,ifF (by rw[hv]; rfl) ?_⟩
  refine⟨_,U,A.p,_,A.dx,_,_,U,hH.get 1 U,T.cl_Yard,T.n_Yard_notes,bZ _ _ _,_,U,A.n,_,U,?_,q⟩
  rw[<- hv]
  exact DGet.k (k:=Sum.inl n) (hH.get 4 U)
end
noncomputable abbrev En:=Addr×Int×Int
structure Wd where
 kf:Int->Option Kd
 nf:Int->Int
 rf:Int->Int
 mf:Int->Int->Option En
structure Sd where
 ss:List Int
 at_:Option En
 rg:List Int
noncomputable def Wd.sv (w:Wd) (s:Sd) (n:Int):Int:=s.ss.getD (w.rf n).toNat 0
noncomputable def Wd.ok (w:Wd) (z:En):Prop:=∃ k,w.kf z.2.1=some k/\0<=z.2.2/\z.2.2<k.many
noncomputable def aL (w:Wd) (s:Sd) (z:En) (k:Kd) (z':En):Sd :=
 ⟨if k.point then s.ss.set (w.rf z.2.1).toNat (k.side z.2.2 (w.sv s z.2.1)) else s.ss,some z',if k=.bell then s.rg++[w.nf z.2.1] else s.rg⟩
noncomputable def Wd.nx (w:Wd) (s:Sd):Option Sd :=
 match s.at_ with
 | none=>none
 | some z=>match w.kf z.2.1 with
  | none=>none
  | some k=>match k.out z.2.2 (w.sv s z.2.1) with
   | .int o=>(w.mf z.2.1 o).map (aL w s z k)
   | _=>none
noncomputable def Wd.why (w:Wd) (s:Sd):V :=
 match s.at_ with
 | none=>.str "none"
 | some z=>match w.kf z.2.1 with
  | none=>.non
  | some k=>match k.out z.2.2 (w.sv s z.2.1) with
   | .int o=>(match w.mf z.2.1 o with | none=>.str "loose" | some _=>.non)
   | _=>.str "stop"
noncomputable def Wd.go (w:Wd):Nat->Sd->Sd
 | 0,s=>s
 | n+1,s=>match w.nx s with | none=>s | some s'=>w.go n s'
noncomputable def Wd.hist (w:Wd):Nat->Sd->List Sd
 | 0,_=>[]
 | n+1,s=>match w.nx s with | none=>[] | some s'=>s::w.hist n s'
noncomputable def Wd.tv (w:Wd) (s:Sd) (z:En):V:=match w.kf z.2.1 with | some k=>if k.point then .int (w.sv s z.2.1) else .non | none=>.non
noncomputable def Wd.tr (w:Wd) (s:Sd):HO:=match s.at_ with | some z=>.tup [.ref z.1,w.tv s z] | none=>.tup []
noncomputable def trK (w:Wd) (ts:List (Addr×Sd)):Kn:=ts.map fun x=>(x.1,w.tr x.2)
noncomputable def trV (ts:List (Addr×Sd)):List V:=ts.map fun x=>V.ref x.1
noncomputable def enV:Option En->V
 | none=>.non
 | some z=>.ref z.1
structure Rep (w:Wd) (s:Sd) (y:YR):Prop where
 kd:∀ n k,w.kf n=some k->aD y.kinds (Sum.inl n)=some (.str k.str)
 no:∀ n k,w.kf n=some k->aD y.notes (Sum.inl n)=if k=.bell then some (.int (w.nf n)) else none
 ro:∀ n k,w.kf n=some k->aD y.rods (Sum.inl n)=if k.point=true then some (.int (w.rf n)) else none
 rr:∀ n k,w.kf n=some k->k.point=true->0<=w.rf n/\w.rf n<s.ss.length
 sd:y.sides=s.ss.map V.int
 s12:∀ x ∈ s.ss,x=1∨x=2
 mt:∀ n e,aD y.mates (kE n e)=(w.mf n e).map fun z=>V.ref z.1
 mo:∀ n e z,w.mf n e=some z->w.ok z
 en:y.eng=enV s.at_
 eo:∀ z,s.at_=some z->w.ok z
 rg:y.rung=s.rg.map V.int
structure Pool (w:Wd) (s:Sd) (L:Kn):Prop where
 m:∀ n e z,w.mf n e=some z->∃ j:Nat,L[j]?=some (z.1,HO.tup [.int z.2.1,.int z.2.2])
 e:∀ z,s.at_=some z->∃ j:Nat,L[j]?=some (z.1,HO.tup [.int z.2.1,.int z.2.2])
theorem Rep.s1 {w:Wd}{s:Sd}{y:YR} (R:Rep w s y) {n:Int}{k:Kd} (hk:w.kf n=some k) (hp:k.point=true):w.sv s n=1∨w.sv s n=2:=by
 obtain⟨h0,h1⟩:=R.rr n k hk hp
 refine R.s12 _ ?_
 unfold Wd.sv
 rw[List.getD_eq_getElem?_getD,getElem?_eq_getElem (by omega)]
 exact List.getElem_mem _
theorem Rep.sideAt {w:Wd}{s:Sd}{y:YR} (R:Rep w s y) {n:Int}{k:Kd} (hk:w.kf n=some k) (hp:k.point=true):y.sides[(w.rf n).toNat]?=some (.int (w.sv s n)):=by
 obtain⟨h0,h1⟩:=R.rr n k hk hp
 rw[R.sd,getElem?_map,getElem?_eq_getElem (by omega)]
 unfold Wd.sv
 rw[List.getD_eq_getElem?_getD,getElem?_eq_getElem (by omega)]
 rfl
theorem Kd.out_in {k:Kd}{e s o:Int} (e0:0<=e) (e1:e<k.many) (hs:k.point=true->s=1∨s=2) (h:k.out e s=.int o):0<=o/\o<k.many:=by
 unfold Kd.out at h
 by_cases c:k=.stop
 ·rw[if_pos c] at h; cases h
 rw[if_neg c] at h
 by_cases p:k.point=true
 ·rw[if_pos p] at h
  have m:=Kd.many_point p
  rcases hs p with r | r <;> split at h <;> (injection h with h; omega)
 ·rw[if_neg p] at h
  have m:k.many = 2:=by cases k <;> first | rfl | (exfalso; exact c rfl) | (exfalso; exact p rfl)
  injection h with h
  omega
theorem Kd.out_np {k:Kd} (h:¬ k.point=true) (e s s':Int):k.out e s=k.out e s':=by unfold Kd.out; rw[if_neg h,if_neg h]
theorem cD (w:Wd) (s:Sd) (z:En) (k:Kd) (z':En):(aL w s z k z').at_=some z':=rfl
theorem c8 {w:Wd}{s s':Sd} (h:w.nx s=some s'):∃ (z:En) (k:Kd) (o:Int) (z':En),s.at_=some z/\w.kf z.2.1=some k/\k.out z.2.2 (w.sv s z.2.1)=.int o/\w.mf z.2.1 o=some z'/\s'=aL w s z k z':=by
 unfold Wd.nx at h
 split at h
 ·cases h
 ·rename_i z hz
  split at h
  ·cases h
  ·rename_i k hk
   split at h
   ·rename_i o ho
    obtain⟨z',hm,e⟩:=Option.map_eq_some_iff.mp h
    exact⟨z,k,o,z',hz,hk,ho,hm,e.symm⟩
   ·cases h
theorem dk {w:Wd}{s:Sd}{z:En}{k:Kd}{o:Int}{z':En} (hz:s.at_=some z) (hk:w.kf z.2.1=some k) (ho:k.out z.2.2 (w.sv s z.2.1)=.int o) (hm:w.mf z.2.1 o=some z'):w.nx s=some (aL w s z k z'):=by
 unfold Wd.nx
 simp only[hz,hk,ho,hm,Option.map_some]
theorem jB {w:Wd}{s:Sd}{y y':YR}{z:En}{k:Kd}{z':En}{o:Int} (R:Rep w s y) (hz:s.at_=some z) (hk:w.kf z.2.1=some k) (hm:w.mf z.2.1 o=some z')
  (e1:y'.kinds=y.kinds) (e2:y'.notes=y.notes) (e3:y'.rods=y.rods) (e4:y'.mates=y.mates) (e5:y'.sides=(aL w s z k z').ss.map V.int) (e6:y'.eng=.ref z'.1) (e7:y'.rung=(aL w s z k z').rg.map V.int) :
  Rep w (aL w s z k z') y':=by
 have hl:(aL w s z k z').ss.length=s.ss.length:=by
  unfold aL; dsimp only; split
  ·exact List.length_set
  ·rfl
 refine⟨fun n k h=>by rw[e1]; exact R.kd n k h,fun n k h=>by rw[e2]; exact R.no n k h,fun n k h=>by rw[e3]; exact R.ro n k h,fun n k h1 h2=>by rw[hl]; exact R.rr n k h1 h2,e5,fun x hx=>?_,fun n e=>by rw[e4]; exact R.mt n e,R.mo,e6,fun u hu=>?_,e7⟩
 ·unfold aL at hx
  dsimp only at hx
  split at hx
  ·rename_i hp
   rcases List.mem_or_eq_of_mem_set hx with hx | hx
   ·exact R.s12 x hx
   ·obtain⟨k',h1,h2,h3⟩:=R.eo z hz
    rw[hk] at h1
    cases h1
    rw[hx]
    exact Kd.side12 h2 h3 (R.s1 hk hp)
  ·exact R.s12 x hx
 ·rw[cD] at hu
  cases hu
  exact R.mo _ _ _ hm
theorem Pool.step {w:Wd}{s s':Sd}{L:Kn} (p:Pool w s L) (h:w.nx s=some s'):Pool w s' L:=by
 obtain⟨z,k,o,z',_,_,_,hm,rfl⟩:=c8 h
 refine⟨p.m,fun u hu=>?_⟩
 rw[cD] at hu
 cases hu
 exact p.m _ _ _ hm
inductive Nxt (w:Wd) (s:Sd):List V->Prop
 | held (h:w.nx s=none) (x:Str) (e:w.why s=.str x):Nxt w s [.str x,.non,.non]
 | goes (z:En) (k:Kd) (o:Int) (z':En) (hz:s.at_=some z) (hk:w.kf z.2.1=some k) (ho:k.out z.2.2 (w.sv s z.2.1)=.int o) (hm:w.mf z.2.1 o=some z') :
   Nxt w s [.non,.ref z'.1,if k.point then .int (k.side z.2.2 (w.sv s z.2.1)) else .non]
noncomputable def mJ (C:Addr):Sp:=fun vs H Q _=>∃ (A:YA) (y:YR) (L:Kn) (w:Wd) (s:Sd) (z:En) (k:Kd) (z':En),vs=[.ref A.p,.ref z'.1,if k.point then .int (k.side z.2.2 (w.sv s z.2.1)) else .non]/\Has H (yL C A y++L)/\Rep w s y/\s.at_=some z/\w.kf z.2.1=some k /\
 (∃ j:Nat,L[j]?=some (z.1,HO.tup [.int z.2.1,.int z.2.2]))/\y.trail.length<=900000/\y.rung.length<=900000 /\
 ∀ H' a,Has H' (yL C A { y with sides:=(aL w s z k z').ss.map V.int,eng:=.ref z'.1,rung:=(aL w s z k z').rg.map V.int,trail:=y.trail++[.ref a] }++((a,w.tr s)::L))->Q .non H'
noncomputable def oJ (C:Addr):Sp:=fun vs H Q _=>∃ (A:YA) (y:YR) (L:Kn) (w:Wd) (s:Sd),vs=[.ref A.p]/\Has H (yL C A y++L)/\Rep w s y/\Pool w s L /\
 ∀ H' p xs,Nxt w s xs->Has H' ((p,.tup xs)::(yL C A y++L))->Q (.ref p) H'
noncomputable def oS (C:Addr):Sp:=fun vs H Q _=>∃ (A:YA) (y:YR) (L:Kn) (w:Wd) (s:Sd),vs=[.ref A.p]/\Has H (yL C A y++L)/\Rep w s y/\Pool w s L/\∀ H',Has H' (yL C A y++L)->Q (w.why s) H'
noncomputable def qU (C:Addr):Sp:=fun vs H Q _=>∃ (A:YA) (y:YR) (L:Kn) (w:Wd) (s:Sd) (ts:List (Addr×Sd)) (m:Int),vs=[.ref A.p,.int m]/\Has H (yL C A y++(trK w ts++L))/\Rep w s y/\Pool w s L/\y.trail=trV ts/\ts.length+m<=900000/\y.rung.length+m<=900000/\ts.length<=900000/\y.rung.length<=900000 /\
 ∀ H' y' ts',Has H' (yL C A y'++(trK w (ts++ts')++L))->Rep w (w.go m.toNat s) y'->y'.trail=trV (ts++ts')->ts'.map (·.2)=w.hist m.toNat s->y'.next=y.next->y'.kinds=y.kinds->y'.notes=y.notes->y'.rods=y.rods->y'.mates=y.mates->Pool w (w.go m.toNat s) L->Q (.int ts'.length) H'
theorem cC {w:Wd}{s:Sd} (h:s.at_=none):w.nx s=none/\w.why s=.str "none":=by
 unfold Wd.nx Wd.why; simp only[h]; exact⟨trivial,trivial⟩
theorem bJ {w:Wd}{s:Sd}{z:En}{k:Kd} (hz:s.at_=some z) (hk:w.kf z.2.1=some k) (ho:k.out z.2.2 (w.sv s z.2.1)=.non):w.nx s=none/\w.why s=.str "stop":=by
 unfold Wd.nx Wd.why; simp only[hz,hk,ho]; exact⟨trivial,trivial⟩
theorem bA {w:Wd}{s:Sd}{z:En}{k:Kd}{o:Int} (hz:s.at_=some z) (hk:w.kf z.2.1=some k) (ho:k.out z.2.2 (w.sv s z.2.1)=.int o) (hm:w.mf z.2.1 o=none):w.nx s=none/\w.why s=.str "loose":=by
 unfold Wd.nx Wd.why; simp only[hz,hk,ho,hm,Option.map_none]; exact⟨trivial,trivial⟩
theorem fg {w:Wd}{s:Sd}{z:En}{k:Kd}{o:Int}{z':En} (hz:s.at_=some z) (hk:w.kf z.2.1=some k) (ho:k.out z.2.2 (w.sv s z.2.1)=.int o) (hm:w.mf z.2.1 o=some z'):w.why s=.non:=by
 unfold Wd.why; simp only[hz,hk,ho,hm]
theorem Nxt.why {w:Wd}{s:Sd}{xs:List V} (h:Nxt w s xs):xs.length=3/\xs[0]?=some (w.why s):=by
 cases h with
 | held h x e=>rw[e]; exact⟨U,U⟩
 | goes z k o z' hz hk ho hm=>rw[fg hz hk ho hm]; exact⟨U,U⟩
theorem bg (w:Wd) {s s':Sd} (h:w.nx s=some s') (n:Nat):w.go (n+1) s=w.go n s':=by show(match w.nx s with | none=>s | some s'=>w.go n s')=_; rw[h]
theorem aX (w:Wd) {s s':Sd} (h:w.nx s=some s') (n:Nat):w.hist (n+1) s=s::w.hist n s':=by show(match w.nx s with | none=>[] | some s'=>s::w.hist n s')=_; rw[h]
theorem bh (w:Wd) {s:Sd} (h:w.nx s=none):∀ n,w.go n s=s
 | 0=>rfl
 | n+1=>by show(match w.nx s with | none=>s | some s'=>w.go n s')=_; rw[h]
theorem ba (w:Wd) {s:Sd} (h:w.nx s=none):∀ n,w.hist n s=[]
 | 0=>rfl
 | n+1=>by show(match w.nx s with | none=>[] | some s'=>s::w.hist n s')=_; rw[h]
theorem l6 (w:Wd) (ts:List (Addr×Sd)) (a:Addr) (s:Sd) (L:Kn):trK w (ts++[(a,s)])++L=trK w ts++((a,w.tr s)::L):=by
 unfold trK; rw[map_append,append_assoc]; rfl
theorem bM {w:Wd}{s:Sd}{z:En}{k:Kd}{z':En}:(aL w s z k z').rg.length<=s.rg.length+1:=by
 unfold aL; dsimp only; split
 ·simp
 ·omega
theorem nY (w:Wd):∀ (n:Nat) (s:Sd),(w.go n s).ss.length=s.ss.length
 | 0,s=>rfl
 | n+1,s=>by
  cases h:w.nx s with
  | none=>rw[bh w h]
  | some s'=>
   rw[bg w h,nY w n s']
   obtain⟨z,k,o,z',_,_,_,_,rfl⟩:=c8 h
   unfold aL; dsimp only; split
   ·exact List.length_set
   ·rfl
theorem Pool.app {w:Wd}{s:Sd}{L:Kn} (p:Pool w s L) (M:Kn):Pool w s (M++L):=by
 have sh:∀ {x:Addr×HO},(∃ j:Nat,L[j]?=some x)->∃ j:Nat,(M++L)[j]?=some x:=fun {x} ⟨j,h⟩=>⟨M.length+j,by rw[getElem?_append_right (by omega),show M.length+j - M.length=j by omega]; exact h⟩
 exact⟨fun n e z h=>sh (p.m n e z h),fun z h=>sh (p.e z h)⟩
noncomputable def nc (C:Addr) (A:YA) (y:YR) (L:Kn) (W:Wd) (s:Sd) (ts:List (Addr×Sd)) (m:Int) (r:Nat) (σ:St) (H:Hp):Prop :=
 ∃ (i:Nat) (y1:YR) (ts1:List (Addr×Sd)) (s1:Sd) (o1 o2 o3:Option V),r=m.toNat - i/\i<=m.toNat/\σ=[some (.ref A.p),some (.int m),some (.int i),o1,o2,o3]/\Has H (yL C A y1++(trK W (ts++ts1)++L))/\Rep W s1 y1/\Pool W s1 L/\y1.trail=trV (ts++ts1)/\ts1.length=i /\
  W.go m.toNat s=W.go (m.toNat - i) s1/\W.hist m.toNat s=ts1.map (·.2)++W.hist (m.toNat - i) s1/\y1.rung.length<=y.rung.length+i/\y1.next=y.next/\y1.kinds=y.kinds/\y1.notes=y.notes/\y1.rods=y.rods/\y1.mates=y.mates
section
variable {P:Program}{w:World}{K:PySem.W.Frag}{mg:Str->Option Value}{base:Heap}{t:Adr}
theorem scCy:FnScope ["self","end","side","piece","rod"] ["self","end","side"] (ah sV):={}
theorem ok_Je (T:Txt K mg t):FnOk P w K mg base CX0 1 t.f_Je t.d_Je ["self","end","side"] (mJ t.c_Yard):=by
 refine T.F_Je.ok scCy (fun vs H Q E h=>?_) (fun cdv A outer s H vs Q E hr h=>?_)
 ·obtain⟨_,_,_,_,_,_,_,_,rfl,_⟩:=h
  rfl
 ·obtain⟨A,y,L,W,s1,z,k,z',rfl,hH,R,hz,hk,⟨j,hj⟩,tl,rl,q⟩:=h
  have hu:=cn hr
  refine⟨_,(ab (am (i:=3) scCy.nd rfl (Or.inl rfl) (aG bv (au (pv 0) rfl) ag))
   (ab (am (i:=4) scCy.nd rfl (Or.inl rfl) (iQ hu (au (pv 0) rfl) (pv 3) ⟨U,U,U,U⟩))
   (ab (al (bP PySem.F.plainAttrs_list PySem.F.slot_list_append PySem.F.type_list_append aR (au (pv 0) rfl) (aa (aO (aa (au (pv 0) rfl) (aa (cV (ai d8 (pv 4) bn (aj _)) bn (aG aC (au (pv 0) rfl) (pv 4))) ae))) ae)))
   (ab (av (ai dN (pv 4) bn (aj _))
    (af (bO (pv 2) (fu (au (pv 0) rfl) (pv 4) cS)))
    ak)
   (ab (av (cU (nC hu (pv 3) (au (pv 0) rfl)))
    (af (al (bP PySem.F.plainAttrs_list PySem.F.slot_list_append PySem.F.type_list_append aR (au (pv 0) rfl) (aa (cK hu (au (pv 0) rfl) (pv 3)) ae))))
    ak)
   (af (bt (pv 0) (pv 1) rfl))))))),?_⟩
  have gz:=hH.get (j+9) (by simpa [yL] using hj)
  have en:y.eng=.ref z.1:=by rw[R.en,hz]; rfl
  refine⟨_,U,A.p,_,A.dx,_,_,U,hH.get 1 U,T.cl_Yard,T.n_J9_end,hZ _ _ _,z.1,_,_,_,en,U,SqT.of gz,U,?_⟩
  refine⟨_,U,A.p,_,A.dx,_,_,U,hH.get 1 U,T.cl_Yard,T.n_Jo_under,dc _ _ _,A.r,U,.inl ⟨_,.inl (hH.get 5 U)⟩,_,U,_,DGet.k (k:=Sum.inl z.2.1) (hH.get 5 U),?_⟩
  refine⟨_,U,A.p,_,A.dx,_,_,U,hH.get 1 U,T.cl_Yard,T.n_Yard_trail,jb _ _ _,.inl ⟨U,_,SqL.of (hH.get 0 U)⟩,?_⟩
  refine⟨_,U,A.p,_,A.dx,_,_,U,hH.get 1 U,T.cl_Yard,T.n_J9_end,hZ _ _ _,_,U,U,_,U,?_⟩
  rw[R.ro _ _ hk,en]
  have etr:W.tr s1=.tup [.ref z.1,if k.point then .int (W.sv s1 z.2.1) else .non]:=by unfold Wd.tr; rw[hz]; show HO.tup [.ref z.1,W.tv s1 z]=_; unfold Wd.tv; rw[hk]
  by_cases hp:k.point=true
  ·rw[if_pos hp] at etr ⊢
   try rw[if_pos hp]
   obtain⟨r0,r1⟩:=R.rr _ _ hk hp
   have sa:=R.sideAt hk hp
   refine ifF rfl ?_
   refine⟨_,U,A.p,_,A.dx,_,_,U,hH.get 1 U,T.cl_Yard,T.n_Yard_sides,bE _ _ _,_,U,A.s,_,W.rf z.2.1,_,U,U,SqL.of (hH.get 6 U),(by rw[show W.rf z.2.1=(((W.rf z.2.1).toNat:Nat):Int) by omega]; exact aY sa),?_⟩
   refine⟨(show 2<=sizeLine by decide),fun a ha=>?_⟩
   have h1:=hH.alloc ha (.tup [.ref z.1,.int (W.sv s1 z.2.1)])
   refine⟨A.tr,_,_,U,U,h1.get 1 U,aB (by omega),?_⟩
   have h2:=Has.comm (X:=[_]) (Y:=yL t.c_Yard A { y with trail:=y.trail++[.ref a] }) (R:=L) (h1.puti 1 U (.lst (y.trail++[.ref a])))
   generalize upd (upd H a _) A.tr _=H2 at h2 ⊢
   replace h2:Has H2 (yL t.c_Yard A { y with trail:=y.trail++[.ref a] }++((a,W.tr s1)::L)):=by rw[etr]; exact h2
   clear h1 ha
   refine⟨_,U,U,_,U,ifT rfl ?_⟩
   have sl:y.sides.length=s1.ss.length:=by rw[R.sd,length_map]
   have hjx:ixN y.sides.length (W.rf z.2.1)=some (W.rf z.2.1).toNat:=by unfold ixN; rw[if_pos r0,if_pos (by omega)]
   refine⟨_,U,_,U,A.p,_,A.dx,_,_,U,h2.get 1 U,T.cl_Yard,T.n_Yard_sides,bE _ _ _,_,U,A.s,_,_,_,U,U,h2.get 6 U,hjx,?_⟩
   have h3:=h2.puti 6 U (.lst (y.sides.set (W.rf z.2.1).toNat (.int (k.side z.2.2 (W.sv s1 z.2.1)))))
   have es:(aL W s1 z k z').ss.map V.int=y.sides.set (W.rf z.2.1).toNat (.int (k.side z.2.2 (W.sv s1 z.2.1))):=by unfold aL; dsimp only; rw[if_pos hp,List.map_set,R.sd]
   have hT:Has _ (yL t.c_Yard A { y with sides:=y.sides.set (W.rf z.2.1).toNat (.int (k.side z.2.2 (W.sv s1 z.2.1))),trail:=y.trail++[.ref a] }++((a,W.tr s1)::L)):=h3
   refine⟨_,U,_,U,A.p,_,A.dx,_,_,U,hT.get 1 U,T.cl_Yard,T.n_Yard_notes,bZ _ _ _,A.n,_,U,DGet.k (k:=Sum.inl z.2.1) (hT.get 4 U),_,U,if2 (fun hb=>?_) (fun hb=>?_)⟩
   ·have kb:k=.bell:=by
     rw[R.no _ _ hk] at hb
     by_cases c:k=.bell
     ·exact c
     ·rw[if_neg c] at hb; cases hb
    have nv:aD y.notes (Sum.inl z.2.1)=some (.int (W.nf z.2.1)):=by rw[R.no _ _ hk,if_pos kb]
    refine⟨_,U,A.p,_,A.dx,_,_,U,hT.get 1 U,T.cl_Yard,T.n_Yard_rung,fc _ _ _,.inl ⟨U,_,SqL.of (hT.get 8 U)⟩,_,U,A.p,_,A.dx,_,_,U,hT.get 1 U,T.cl_Yard,T.n_Yard_notes,bZ _ _ _,_,U,A.n,_,U,(by rw[<- nv]; exact DGet.k (k:=Sum.inl z.2.1) (hT.get 4 U)),A.g,_,_,U,U,hT.get 8 U,aB (show y.rung.length<=1000000 by omega),?_⟩
    have h4:Has _ (yL t.c_Yard A { y with sides:=y.sides.set (W.rf z.2.1).toNat (.int (k.side z.2.2 (W.sv s1 z.2.1))),rung:=y.rung++[.int (W.nf z.2.1)],trail:=y.trail++[.ref a] }++((a,W.tr s1)::L)):=hT.puti 8 U (.lst (y.rung++[.int (W.nf z.2.1)]))
    refine⟨_,U,_,U,A.p,_,A.dx,_,U,h4.get 1 U,T.cl_Yard,T.n_J9_end,(show 9<1000 by decide),?_⟩
    rw[bV]
    have h5:=h4.puti 1 U (.ins t.c_Yard A.dx (fl A y.next (.ref z'.1)))
    have er:(aL W s1 z k z').rg.map V.int=y.rung++[.int (W.nf z.2.1)]:=by unfold aL; dsimp only; rw[if_pos kb,map_append,R.rg]; rfl
    refine q _ a ?_
    rw[er,es]
    exact h5
   ·have kb:¬ k=.bell:=fun c=>by rw[R.no _ _ hk,if_pos c] at hb; cases hb
    refine⟨_,U,_,U,A.p,_,A.dx,_,U,hT.get 1 U,T.cl_Yard,T.n_J9_end,(show 9<1000 by decide),?_⟩
    rw[bV]
    have h5:=hT.puti 1 U (.ins t.c_Yard A.dx (fl A y.next (.ref z'.1)))
    have er:(aL W s1 z k z').rg.map V.int=y.rung:=by unfold aL; dsimp only; rw[if_neg kb,R.rg]
    refine q _ a ?_
    rw[er,es]
    exact h5
  ·rw[if_neg hp] at etr ⊢
   try rw[if_neg hp]
   refine ifT rfl ?_
   refine⟨(show 2<=sizeLine by decide),fun a ha=>?_⟩
   have h1:=hH.alloc ha (.tup [.ref z.1,.non])
   refine⟨A.tr,_,_,U,U,h1.get 1 U,aB (by omega),?_⟩
   have h2:=Has.comm (X:=[_]) (Y:=yL t.c_Yard A { y with trail:=y.trail++[.ref a] }) (R:=L) (h1.puti 1 U (.lst (y.trail++[.ref a])))
   generalize upd (upd H a _) A.tr _=H2 at h2 ⊢
   replace h2:Has H2 (yL t.c_Yard A { y with trail:=y.trail++[.ref a] }++((a,W.tr s1)::L)):=by rw[etr]; exact h2
   clear h1 ha
   refine⟨_,U,U,_,U,ifF rfl ?_⟩
   have h3:=h2
   have es:(aL W s1 z k z').ss.map V.int=y.sides:=by unfold aL; dsimp only; rw[if_neg hp,R.sd]
   have hT:Has _ (yL t.c_Yard A { y with sides:=y.sides,trail:=y.trail++[.ref a] }++((a,W.tr s1)::L)):=h3
   refine⟨_,U,_,U,A.p,_,A.dx,_,_,U,hT.get 1 U,T.cl_Yard,T.n_Yard_notes,bZ _ _ _,A.n,_,U,DGet.k (k:=Sum.inl z.2.1) (hT.get 4 U),_,U,if2 (fun hb=>?_) (fun hb=>?_)⟩
   ·have kb:k=.bell:=by
     rw[R.no _ _ hk] at hb
     by_cases c:k=.bell
     ·exact c
     ·rw[if_neg c] at hb; cases hb
    have nv:aD y.notes (Sum.inl z.2.1)=some (.int (W.nf z.2.1)):=by rw[R.no _ _ hk,if_pos kb]
    refine⟨_,U,A.p,_,A.dx,_,_,U,hT.get 1 U,T.cl_Yard,T.n_Yard_rung,fc _ _ _,.inl ⟨U,_,SqL.of (hT.get 8 U)⟩,_,U,A.p,_,A.dx,_,_,U,hT.get 1 U,T.cl_Yard,T.n_Yard_notes,bZ _ _ _,_,U,A.n,_,U,(by rw[<- nv]; exact DGet.k (k:=Sum.inl z.2.1) (hT.get 4 U)),A.g,_,_,U,U,hT.get 8 U,aB (show y.rung.length<=1000000 by omega),?_⟩
    have h4:Has _ (yL t.c_Yard A { y with sides:=y.sides,rung:=y.rung++[.int (W.nf z.2.1)],trail:=y.trail++[.ref a] }++((a,W.tr s1)::L)):=hT.puti 8 U (.lst (y.rung++[.int (W.nf z.2.1)]))
    refine⟨_,U,_,U,A.p,_,A.dx,_,U,h4.get 1 U,T.cl_Yard,T.n_J9_end,(show 9<1000 by decide),?_⟩
    rw[bV]
    have h5:=h4.puti 1 U (.ins t.c_Yard A.dx (fl A y.next (.ref z'.1)))
    have er:(aL W s1 z k z').rg.map V.int=y.rung++[.int (W.nf z.2.1)]:=by unfold aL; dsimp only; rw[if_pos kb,map_append,R.rg]; rfl
    refine q _ a ?_
    rw[er,es]
    exact h5
   ·have kb:¬ k=.bell:=fun c=>by rw[R.no _ _ hk,if_pos c] at hb; cases hb
    refine⟨_,U,_,U,A.p,_,A.dx,_,U,hT.get 1 U,T.cl_Yard,T.n_J9_end,(show 9<1000 by decide),?_⟩
    rw[bV]
    have h5:=hT.puti 1 U (.ins t.c_Yard A.dx (fl A y.next (.ref z'.1)))
    have er:(aL W s1 z k z').rg.map V.int=y.rung:=by unfold aL; dsimp only; rw[if_neg kb,R.rg]
    refine q _ a ?_
    rw[er,es]
    exact h5
theorem scNs:FnScope ["yard","stand","piece","end","kind","side","out","behind","mate"] ["yard"] (ah sS):={}
theorem qz (T:Txt K mg t):FnOk P w K mg base CX0 5 t.f_Jh t.d_Jh ["yard"] (oJ t.c_Yard):=by
 refine T.F_Jh.ok scNs (fun vs H Q E h=>?_) (fun cdv A outer s H vs Q E hr h=>?_)
 ·obtain⟨_,_,_,_,_,rfl,_⟩:=h
  rfl
 ·obtain⟨A,y,L,W,s1,rfl,hH,R,PL,q⟩:=h
  have three:3<=sizeLine:=by decide
  refine⟨_,(ab (am (i:=1) scNs.nd rfl (Or.inl rfl) (aS (pv 0) T.cl_Yard T.M_J9 (kA T) hr (pU T) .nil aH))
   (ab (av (ai d8 (pv 1) bn (aj _))
    (af (ao (aO (aa aF (aa bn (aa bn ae))))))
    ak)
   (ab (bO (pv 1) (cA rfl (az (ar (i:=2) scNs.nd rfl (Or.inl rfl)) (az (ar (i:=3) scNs.nd rfl (Or.inl rfl)) bX))))
   (ab (am (i:=4) scNs.nd rfl (Or.inl rfl) (aK (pv 0) T.cl_Yard T.M_Jl (qw T) hr (tN T) .nil aH (aa (pv 2) ae)))
   (ab (am (i:=5) scNs.nd rfl (Or.inl rfl) (cV (cj (pcl (nO T) hr T.m_Jq T.F_Jq.kp (si T) (aa (pv 4) ae))) (aK (pv 0) T.cl_Yard T.M_Jn (qu T) hr (tL T) .nil aH (aa (aK (pv 0) T.cl_Yard T.M_Jt (qr T) hr (tJ T) .nil aH (aa (pv 2) ae)) ae)) bn))
   (ab (bO (pcl (ok_Ju T) hr T.m_Ju T.F_Ju.kp (b_Ju T) (aa (pv 4) (aa (pv 3) (aa (pv 5) ae)))) (cA rfl (az (ar (i:=6) scNs.nd rfl (Or.inl rfl)) (az (ar (i:=7) scNs.nd rfl (Or.inl rfl)) bX))))
   (ab (av (ai d8 (pv 6) bn (aj _))
    (af (ao (aO (aa aF (aa bn (aa bn ae))))))
    ak)
   (ab (am (i:=8) scNs.nd rfl (Or.inl rfl) (aK (pv 0) T.cl_Yard T.M_Jm (qv T) hr (tM T) .nil aH (aa (aO (aa (pv 2) (aa (pv 6) ae))) ae)))
   (ab (av (ai d8 (pv 8) bn (aj _))
    (af (ao (aO (aa aF (aa bn (aa bn ae))))))
    ak)
   (af (ao (aO (aa bn (aa (pv 8) (aa (pv 7) ae))))))))))))))),?_⟩
  refine⟨_,U,A.p,A.dx,_,U,hH.get 1 U,(cw _ _ _).2.2.2.2.2.2.1,A,y,L,U,hH,?_⟩
  refine⟨_,U,U,_,U,?_⟩
  rw[R.en]
  cases hz:s1.at_ with
  | none=>
   obtain⟨n1,n2⟩:=cC (w:=W) hz
   exact dE ⟨three,fun p hp=>q _ p _ (.held n1 _ n2) (hH.alloc hp _)⟩
  | some z=>
   obtain⟨j,hj⟩:=PL.e z hz
   obtain⟨k,hk,e0,e1⟩:=R.eo z hz
   have gz:=hH.get (j+9) (by simpa [yL] using hj)
   have vk:aD y.kinds (Sum.inl z.2.1)=some (.str k.str):=R.kd _ _ hk
   refine bT ?_
   refine⟨_,U,z.1,_,U,SqT.of gz,U,_,_,U,_,_,U,U,?_⟩
   refine⟨_,U,A.p,A.dx,_,U,hH.get 1 U,(cw _ _ _).2.2.2.2.1,_,U,A,y,L,z.2.1,_,U,hH,vk,?_⟩
   refine⟨_,U,k,U,_,U,?_⟩
   have thr:∀ o:Int,k.out z.2.2 (W.sv s1 z.2.1)=.int o->eN y z.2.1 o:=fun o ho=>by
    have:=Kd.out_in e0 e1 (fun hp=>R.s1 hk hp) ho
    exact⟨k,vk,this.1,this.2⟩
   refine if2 (fun hp=>?_) (fun hp=>?_)
   ·obtain⟨r0,r1⟩:=R.rr _ _ hk hp
    have vr:aD y.rods (Sum.inl z.2.1)=some (.int (W.rf z.2.1)):=by rw[R.ro _ _ hk,if_pos hp]
    refine⟨_,U,A.p,A.dx,_,U,hH.get 1 U,(b5 _ _ _).2.2.2.2.2.1,_,U,A.p,A.dx,_,U,hH.get 1 U,(b5 _ _ _).2.2.2.2.1,_,U,A,y,L,z.2.1,_,_,U,hH,vk,vr,A,y,L,W.rf z.2.1,_,U,hH,r0,R.sideAt hk hp,?_⟩
    refine⟨_,U,_,U,_,U,k,z.2.2,W.sv s1 z.2.1,V.int (W.sv s1 z.2.1),U,e0,e1,(fun h=>⟨U,R.s1 hk hp⟩),fun p hp1=>?_⟩
    have h1:=hH.alloc hp1 (.tup [k.out z.2.2 (W.sv s1 z.2.1),if k.point then .int (k.side z.2.2 (W.sv s1 z.2.1)) else V.int (W.sv s1 z.2.1)])
    refine⟨p,_,U,SqT.of (h1.get 0 U),U,_,_,U,_,_,U,U,?_⟩
    replace h1:=h1.tail
    generalize upd H p _=H1 at h1 ⊢
    refine⟨_,U,U,_,U,?_⟩
    by_cases c:k.out z.2.2 (W.sv s1 z.2.1)=.non
    ·obtain⟨n1,n2⟩:=bJ hz hk c
     exact ifT (decide_eq_true c) ⟨three,fun p hp=>q _ p _ (.held n1 _ n2) (h1.alloc hp _)⟩
    ·refine ifF (decide_eq_false c) ?_
     obtain⟨o,ho⟩:=Kd.out_int (k:=k) (fun e=>c (by unfold Kd.out; rw[if_pos e])) z.2.2 (W.sv s1 z.2.1)
     rw[ho]
     refine⟨_,U,A.p,A.dx,_,U,h1.get 1 U,(dv _ _ _).2.1,_,U,_,U,(show 2<=sizeLine by decide),fun b hb=>?_⟩
     have h2:=Has.comm (X:=[(b,.tup [.int z.2.1,.int o])]) (Y:=yL t.c_Yard A y) (R:=L) (h1.alloc hb (.tup [.int z.2.1,.int o]))
     generalize upd H1 b _=H2 at h2 ⊢
     refine⟨A,y,_,b,z.2.1,o,0,U,h2,U,thr o ho,?_⟩
     have h3:=(Has.comm (X:=yL t.c_Yard A y) (Y:=[(b,.tup [.int z.2.1,.int o])]) (R:=L) h2).tail
     refine⟨_,U,U,_,U,?_⟩
     rw[R.mt]
     cases hm:W.mf z.2.1 o with
     | none=>
      obtain⟨n1,n2⟩:=bA hz hk ho hm
      exact dE ⟨three,fun p hp=>q _ p _ (.held n1 _ n2) (h3.alloc hp _)⟩
     | some z'=>
      exact bT ⟨_,U,_,U,three,fun p hp=>q _ p _ (.goes z k o z' hz hk ho hm) (by rw[if_pos (by assumption:k.point=true)]; have:=h3.alloc hp (.tup [.non,.ref z'.1,.int (k.side z.2.2 (W.sv s1 z.2.1))]); simpa [*] using this)⟩
   ·refine⟨_,U,_,U,_,U,k,z.2.2,W.sv s1 z.2.1,V.non,U,e0,e1,(fun h=>absurd h (by rw[hp]; decide)),fun p hp1=>?_⟩
    have h1:=hH.alloc hp1 (.tup [k.out z.2.2 (W.sv s1 z.2.1),if k.point then .int (k.side z.2.2 (W.sv s1 z.2.1)) else V.non])
    refine⟨p,_,U,SqT.of (h1.get 0 U),U,_,_,U,_,_,U,U,?_⟩
    replace h1:=h1.tail
    generalize upd H p _=H1 at h1 ⊢
    refine⟨_,U,U,_,U,?_⟩
    by_cases c:k.out z.2.2 (W.sv s1 z.2.1)=.non
    ·obtain⟨n1,n2⟩:=bJ hz hk c
     exact ifT (decide_eq_true c) ⟨three,fun p hp=>q _ p _ (.held n1 _ n2) (h1.alloc hp _)⟩
    ·refine ifF (decide_eq_false c) ?_
     obtain⟨o,ho⟩:=Kd.out_int (k:=k) (fun e=>c (by unfold Kd.out; rw[if_pos e])) z.2.2 (W.sv s1 z.2.1)
     rw[ho]
     refine⟨_,U,A.p,A.dx,_,U,h1.get 1 U,(dv _ _ _).2.1,_,U,_,U,(show 2<=sizeLine by decide),fun b hb=>?_⟩
     have h2:=Has.comm (X:=[(b,.tup [.int z.2.1,.int o])]) (Y:=yL t.c_Yard A y) (R:=L) (h1.alloc hb (.tup [.int z.2.1,.int o]))
     generalize upd H1 b _=H2 at h2 ⊢
     refine⟨A,y,_,b,z.2.1,o,0,U,h2,U,thr o ho,?_⟩
     have h3:=(Has.comm (X:=yL t.c_Yard A y) (Y:=[(b,.tup [.int z.2.1,.int o])]) (R:=L) h2).tail
     refine⟨_,U,U,_,U,?_⟩
     rw[R.mt]
     cases hm:W.mf z.2.1 o with
     | none=>
      obtain⟨n1,n2⟩:=bA hz hk ho hm
      exact dE ⟨three,fun p hp=>q _ p _ (.held n1 _ n2) (h3.alloc hp _)⟩
     | some z'=>
      exact bT ⟨_,U,_,U,three,fun p hp=>q _ p _ (.goes z k o z' hz hk ho hm) (by exact h3.alloc hp _)⟩
theorem scHe:FnScope ["yard"] ["yard"] (ah mY):={}
theorem ph (T:Txt K mg t):FnOk P w K mg base CX0 6 t.f_held t.d_held ["yard"] (oS t.c_Yard):=by
 refine T.F_held.ok scHe (fun vs H Q E h=>?_) (fun cdv A outer s H vs Q E hr h=>?_)
 ·obtain⟨_,_,_,_,_,rfl,_⟩:=h
  rfl
 ·obtain⟨A,y,L,W,s1,rfl,hH,R,PL,q⟩:=h
  refine⟨_,(af (ao (aG bv (pcl (qz T) hr T.m_Jh T.F_Jh.kp (tQ T) (aa (pv 0) ae)) ag))),?_⟩
  refine⟨_,U,A,y,L,W,s1,U,hH,R,PL,fun H1 p xs nx h1=>?_⟩
  exact⟨p,_,_,_,U,U,SqT.of (h1.get 0 U),aY (j:=0) nx.why.2,q _ h1.tail⟩
theorem scRn:FnScope ["yard","most","done","why","end","side"] ["yard","most"] (ah qi):={}
theorem cX (T:Txt K mg t):FnOk P w K mg base CX0 6 t.f_run t.d_run ["yard","most"] (qU t.c_Yard):=by
 refine T.F_run.ok scRn (fun vs H Q E h=>?_) (fun cdv A outer s H vs Q E hr h=>?_)
 ·obtain⟨_,_,_,_,_,_,_,rfl,_⟩:=h
  rfl
 ·obtain⟨A,y,L,W,s0,ts,m,rfl,hH,R,PL,tl,b1,b2,b3,b4,q⟩:=h
  refine⟨_,(ab (am (i:=2) scRn.nd rfl (Or.inl rfl) ag)
   (ab (cm PassesOwn.never (ai cW (pv 2) (pv 1) (aj _))
    (ab (bO (pcl (qz T) hr T.m_Jh T.F_Jh.kp (tQ T) (aa (pv 0) ae)) (cA rfl (az (ar (i:=3) scRn.nd rfl (Or.inl rfl)) (az (ar (i:=4) scRn.nd rfl (Or.inl rfl)) (az (ar (i:=5) scRn.nd rfl (Or.inl rfl)) bX)))))
     (ab (av (ai dN (pv 3) bn (aj _))
      (af iK)
      ak)
     (ab (al (aK (pv 0) T.cl_Yard T.M_Je (ok_Je T) hr (b_Je T) .nil aH (aa (pv 4) (aa (pv 5) ae))))
     (af (ft (i:=2) scRn.nd rfl (Or.inl rfl) ag fL))))))
   (af (ao (pv 2))))),?_⟩
  refine⟨nc t.c_Yard A y L W s0 ts m,⟨_,0,y,[],s0,_,_,_,U,Nat.zero_le _,U,by rw[append_nil]; exact hH,R,PL,by rw[append_nil]; exact tl,U,U,U,Nat.le_refl _,U,U,U,U,U⟩,?_⟩
  rintro r σ H1 ⟨i,y1,ts1,s1,o1,o2,o3,rfl,im,rfl,h1,R1,P1,tl1,li,eg,eh,rg,f1,f2,f3,f4,f5⟩
  refine⟨_,U,_,U,_,_,U,U,_,U,if2 (fun hc=>?_) (fun hc=>?_)⟩
  ·have hlt:(i:Int)<m:=of_decide_eq_true hc
   refine⟨fun σ' H'=>∃ r',r'<m.toNat - i/\nc t.c_Yard A y L W s0 ts m r' σ' H',fun _ _ h=>h,?_⟩
   refine⟨_,U,A,y1,_,W,s1,U,h1,R1,P1.app _,fun H2 p xs nx h2=>?_⟩
   cases nx with
   | held hn x e=>
    refine⟨p,_,U,SqT.of (h2.get 0 U),U,_,_,U,_,_,U,_,_,U,U,?_⟩
    refine⟨_,U,U,_,U,ifT rfl ?_⟩
    rw[bh W hn] at eg
    rw[ba W hn,append_nil] at eh
    refine⟨_,U,?_⟩
    have:=q H2 y1 ts1 h2.tail (by rw[eg]; exact R1) tl1 eh.symm f1 f2 f3 f4 f5 (by rw[eg]; exact P1)
    rw[li] at this
    exact this
   | goes z k o z' hz hk ho hm=>
    have hn:=dk hz hk ho hm
    refine⟨p,_,U,SqT.of (h2.get 0 U),U,_,_,U,_,_,U,_,_,U,U,?_⟩
    refine⟨_,U,U,_,U,ifF rfl ?_⟩
    replace h2:=h2.tail
    have tll:y1.trail.length=ts.length+i:=by rw[tl1]; unfold trV; rw[length_map,length_append,li]
    refine⟨_,U,A.p,A.dx,_,U,h2.get 1 U,(cw _ _ _).2.2.1,_,U,_,U,A,y1,_,W,s1,z,k,z',U,h2,R1,hz,hk,(P1.app _).e z hz,by omega,by omega,fun H3 a h3=>?_⟩
    refine⟨_,U,_,_,U,U,?_⟩
    have em:m.toNat - i=(m.toNat - (i+1))+1:=by omega
    rw[em,bg W hn] at eg
    rw[em,aX W hn] at eh
    refine⟨m.toNat - (i+1),by omega,i+1,{ y1 with sides:=(aL W s1 z k z').ss.map V.int,eng:=.ref z'.1,rung:=(aL W s1 z k z').rg.map V.int,trail:=y1.trail++[.ref a] },ts1++[(a,s1)],aL W s1 z k z',_,_,_,U,by omega,U,?_,jB R1 hz hk hm rfl rfl rfl rfl rfl rfl rfl,P1.step hn,?_,by simp[li],eg,by rw[eh]; simp,?_,f1,f2,f3,f4,f5⟩
    ·rw[<- append_assoc ts ts1,l6]
     exact h3.perm (List.Perm.append_left _ List.perm_middle.symm)
    ·show y1.trail++[.ref a]=_
     rw[tl1]; unfold trV; simp
    ·show((aL W s1 z k z').rg.map V.int).length<=_
     have:=bM (w:=W) (s:=s1) (z:=z) (k:=k) (z':=z')
     have e:=congrArg List.length R1.rg
     rw[length_map] at e ⊢
     omega
  ·have hge:¬ (i:Int)<m:=of_decide_eq_false hc
   have e0:m.toNat - i=0:=by omega
   rw[e0] at eg eh
   refine⟨_,U,?_⟩
   have:=q H1 y1 ts1 h1 (by rw[eg]; exact R1) tl1 (by rw[eh]; exact(append_nil _).symm) f1 f2 f3 f4 f5 (by rw[eg]; exact P1)
   rw[li] at this
   exact this
end
theorem d4 (w:Wd) (s:Sd) (h:∀ z,s.at_=some z->w.ok z):w.why s=.non∨∃ x,w.why s=.str x:=by
 cases hz:s.at_ with
 | none=>exact .inr ⟨_,(cC hz).2⟩
 | some z=>
  obtain⟨k,hk,_⟩:=h z hz
  by_cases c:k.out z.2.2 (w.sv s z.2.1)=.non
  ·exact .inr ⟨_,(bJ hz hk c).2⟩
  ·obtain⟨o,ho⟩:=Kd.out_int (k:=k) (fun e=>c (by unfold Kd.out; rw[if_pos e])) z.2.2 (w.sv s z.2.1)
   cases hm:w.mf z.2.1 o with
   | none=>exact .inr ⟨_,(bA hz hk ho hm).2⟩
   | some z'=>exact .inl (fg hz hk ho hm)
noncomputable def fJ (ks:List Kd):List (Key×V):=ks.zipIdx.map fun p=>((Sum.inl (p.2:Int):Key),V.str p.1.str)
theorem lz (ks:List Kd) (k:Kd):fJ (ks++[k])=fJ ks++[((Sum.inl (ks.length:Int):Key),V.str k.str)]:=by
 unfold fJ
 rw[List.zipIdx_append,map_append]
 simp
theorem eC (ks:List Kd):(fJ ks).length=ks.length:=by unfold fJ; simp
theorem j0 (f:Kd->V):∀ (ks:List Kd) (n m:Nat),aD ((ks.zipIdx n).map fun p=>((Sum.inl (p.2:Int):Key),f p.1)) (Sum.inl (m:Int))=if n<=m then(ks[m - n]?).map f else none
 | [],n,m=>by simp[lY]
 | k::ks,n,m=>by
  rw[List.zipIdx_cons,map_cons]
  by_cases e:n=m
  ·subst e
   rw[bj rfl]; simp
  ·rw[aZ (fun z=>e (by injection z with z; exact Int.ofNat.inj z)),j0 f ks (n+1) m]
   by_cases c:n<=m
   ·rw[if_pos c,if_pos (by omega)]
    obtain⟨d,rfl⟩:∃ d,m=n+1+d:=⟨m - (n+1),by omega⟩
    rw[show n+1+d - (n+1)=d by omega,show n+1+d - n=d+1 by omega]
    rfl
   ·rw[if_neg c,if_neg (by omega)]
theorem d6 (ks:List Kd) (m:Nat):aD (fJ ks) (Sum.inl (m:Int))=(ks[m]?).map fun k=>V.str k.str:=by
 have:=j0 (fun k=>V.str k.str) ks 0 m
 rw[if_pos (Nat.zero_le _)] at this
 exact this
structure Blt (y:YR) (ks:List Kd) (ns rs ss:List Int):Prop where
 nx:y.next=ks.length
 kd:y.kinds=fJ ks
 nl:ns.length=ks.length
 rl:rs.length=ks.length
 no:∀ (i:Nat),aD y.notes (Sum.inl (i:Int))=if ks[i]?=some .bell then some (.int (ns.getD i 0)) else none
 ro:∀ (i:Nat),aD y.rods (Sum.inl (i:Int))=if (ks[i]?.map Kd.point)=some true then some (.int (rs.getD i 0)) else none
 rr:∀ (i:Nat),(ks[i]?.map Kd.point)=some true->0<=rs.getD i 0/\rs.getD i 0<ss.length
 nlen:y.notes.length<=ks.length
 rlen:y.rods.length<=ks.length
 sd:y.sides=ss.map V.int
 s12:∀ s ∈ ss,s=1∨s=2
 sl:ss.length<=ks.length
 mt:y.mates=[]
 en:y.eng=.non
 rg:y.rung=[]
 tl:y.trail=[]
 nr:∀ x ∈ ns,0<=x/\x<=9999
 rn:∀ (i:Nat),(ks[i]?.map Kd.point)=some false->rs.getD i 0<0
theorem Blt.nil:Blt y0 [] [] [] []:=⟨U,U,U,U,(fun i=>rfl),(fun i=>rfl),(fun i h=>by simp at h),Nat.le_refl _,Nat.le_refl _,U,(fun _ h=>nomatch h),Nat.le_refl _,U,U,U,U,(fun _ h=>nomatch h),(fun i h=>by simp at h)⟩
theorem Blt.small {y:YR}{ks:List Kd}{ns rs ss:List Int} (h:Blt y ks ns rs ss) (hk:ks.length<=1000):fV y :=
 ⟨by rw[h.kd,eC]; omega,by have:=h.nlen; omega,by have:=h.rlen; omega,by have:=h.sl; rw[h.sd,length_map]; omega,by rw[h.mt]; decide,by rw[h.rg]; decide,by rw[h.tl]; decide⟩
theorem da {xs:List Int}{x:Int}{i:Nat} (h:i<xs.length):(xs++[x]).getD i 0=xs.getD i 0:=by simp[List.getD,getElem?_append_left h]
theorem db {xs:List Int}{x:Int}:(xs++[x]).getD xs.length 0=x:=by simp[List.getD]
theorem Blt.lay {y:YR}{ks:List Kd}{ns rs ss:List Int} (h:Blt y ks ns rs ss) (k:Kd) (z note bar:Int) (rod:V) (ss':List Int) (hz:0<=z/\z<=9999) (hb:k=.bell->note=z)
  (hp:k.point=true->(rod=.non/\bar=ss.length/\ss'=ss++[1])∨(rod=.int bar/\0<=bar/\bar<ss.length/\ss'=ss)) (hn:k.point=false->ss'=ss/\bar<0) :
  Blt (ly y k note rod) (ks++[k]) (ns++[z]) (rs++[bar]) ss':=by
 have hnl:=h.nl
 have hrl:=h.rl
 have up:ss.length<=ss'.length/\ss'.length<=ss.length+1:=by
  cases e:k.point with
  | false=>rw[(hn e).1]; omega
  | true=>rcases hp e with ⟨_,_,r⟩ | ⟨_,_,_,r⟩ <;> rw[r] <;> simp
 have fresh:aD y.kinds (Sum.inl (ks.length:Int))=none:=by rw[h.kd,d6,List.getElem?_eq_none (Nat.le_refl _)]; rfl
 have ne:∀ {i:Nat},¬ i=ks.length->¬ (Sum.inl (i:Int):Key)=Sum.inl (ks.length:Int):=fun {i} c e=>c (by injection e with e; exact Int.ofNat.inj e)
 have out:∀ {i:Nat},¬ i=ks.length->¬ i<ks.length->(ks++[k])[i]?=none/\ks[i]?=none:=fun {i} c1 c2=>⟨List.getElem?_eq_none (by simp; omega),List.getElem?_eq_none (by omega)⟩
 refine⟨?_,?_,by simp[hnl],by simp[hrl],fun i=>?_,fun i=>?_,fun i hi=>?_,?_,?_,?_,?_,?_,h.mt,h.en,h.rg,U,?_,fun i hi=>?_⟩
 ·show y.next+1=_
  rw[h.nx]; simp
 ·show aV y.kinds (Sum.inl y.next) (.str k.str)=_
  rw[h.nx,nh _ fresh,h.kd,lz]
 ·show aD (if k=.bell then aV y.notes (Sum.inl y.next) (.int note) else y.notes) _=_
  rw[h.nx]
  by_cases c:i=ks.length
  ·subst c
   rw[List.getElem?_concat_length]
   by_cases kb:k=.bell
   ·rw[if_pos kb,bN,if_pos rfl,if_pos (by rw[kb]),<- hnl,db,hb kb]
   ·rw[if_neg kb,h.no,List.getElem?_eq_none (Nat.le_refl _),if_neg (by intro z; cases z),if_neg (by intro z; exact kb (Option.some.inj z))]
  ·have e:aD (if k=.bell then aV y.notes (Sum.inl (ks.length:Int)) (.int note) else y.notes) (Sum.inl (i:Int))=aD y.notes (Sum.inl (i:Int)):=by
    by_cases kb:k=.bell
    ·rw[if_pos kb,bN,if_neg (ne c)]
    ·rw[if_neg kb]
   rw[e,h.no]
   by_cases c2:i<ks.length
   ·rw[getElem?_append_left c2,da (by omega)]
   ·rw[(out c c2).1,(out c c2).2,if_neg (by intro z; cases z),if_neg (by intro z; cases z)]
 ·show aD (if k.point=true then aV y.rods (Sum.inl y.next) (if rod=.non then .int y.sides.length else rod) else y.rods) _=_
  rw[h.nx]
  by_cases c:i=ks.length
  ·subst c
   rw[List.getElem?_concat_length,<- hrl,db,hrl]
   cases kp:k.point with
   | true=>
    rw[if_pos rfl,bN,if_pos rfl,if_pos (show Option.map Kd.point (some k)=some true by simp[kp])]
    rcases hp kp with ⟨r1,r2,_⟩ | ⟨r1,_,_,_⟩
    ·rw[if_pos r1,h.sd,length_map,r2]
    ·rw[r1,if_neg (by intro z; cases z)]
   | false=>
    rw[if_neg Bool.false_ne_true,h.ro,List.getElem?_eq_none (Nat.le_refl _),if_neg (by intro z; cases z),if_neg (by simp[kp])]
  ·have e:aD (if k.point=true then aV y.rods (Sum.inl (ks.length:Int)) (if rod=.non then .int y.sides.length else rod) else y.rods) (Sum.inl (i:Int))=aD y.rods (Sum.inl (i:Int)):=by
    by_cases kb:k.point=true
    ·rw[if_pos kb,bN,if_neg (ne c)]
    ·rw[if_neg kb]
   rw[e,h.ro]
   by_cases c2:i<ks.length
   ·rw[getElem?_append_left c2,da (by omega)]
   ·rw[(out c c2).1,(out c c2).2,if_neg (by intro z; cases z),if_neg (by intro z; cases z)]
 ·by_cases c:i=ks.length
  ·subst c
   rw[List.getElem?_concat_length] at hi
   rw[<- hrl,db]
   rcases hp (by simpa using hi) with ⟨_,r2,r3⟩ | ⟨_,r2,r3,r4⟩
   ·refine⟨by omega,?_⟩
    rw[r3,r2,length_append,length_singleton]
    omega
   ·rw[r4]; exact⟨r2,r3⟩
  ·by_cases c2:i<ks.length
   ·rw[getElem?_append_left c2] at hi
    rw[da (by omega)]
    have:=h.rr i hi
    exact⟨this.1,by omega⟩
   ·rw[(out c c2).1] at hi; cases hi
 ·show(if k=.bell then aV y.notes (Sum.inl y.next) (.int note) else y.notes).length<=_
  have:=h.nlen
  have:=bu y.notes (Sum.inl y.next) (.int note)
  rw[length_append,length_singleton]
  split <;> omega
 ·show(if k.point=true then aV y.rods (Sum.inl y.next) (if rod=.non then .int y.sides.length else rod) else y.rods).length<=_
  have:=h.rlen
  have:=bu y.rods (Sum.inl y.next) (if rod=.non then .int y.sides.length else rod)
  rw[length_append,length_singleton]
  split <;> omega
 ·show(if k.point=true/\rod=.non then y.sides++[.int 1] else y.sides)=_
  cases kp:k.point with
  | true=>
   rcases hp kp with ⟨r1,_,r3⟩ | ⟨r1,_,_,r4⟩
   ·rw[if_pos ⟨U,r1⟩,h.sd,r3,map_append]; rfl
   ·rw[if_neg (by rw[r1]; intro z; cases z.2),h.sd,r4]
  | false=>rw[if_neg (fun z=>Bool.false_ne_true z.1),h.sd,(hn kp).1]
 ·intro s hs
  cases kp:k.point with
  | true=>
   rcases hp kp with ⟨r1,_,r3⟩ | ⟨r1,_,_,r4⟩
   ·rw[r3,mem_append] at hs
    rcases hs with hs | hs
    ·exact h.s12 s hs
    ·exact .inl (by simpa using hs)
   ·rw[r4] at hs; exact h.s12 s hs
  | false=>rw[(hn kp).1] at hs; exact h.s12 s hs
 ·have:=h.sl
  rw[length_append,length_singleton]
  omega
 ·intro x hx
  rw[mem_append] at hx
  rcases hx with hx | hx
  ·exact h.nr x hx
  ·rw[mem_singleton.mp hx]; exact hz
 ·by_cases c:i=ks.length
  ·subst c
   rw[List.getElem?_concat_length] at hi
   rw[<- hrl,db]
   exact(hn (by simpa using hi)).2
  ·by_cases c2:i<ks.length
   ·rw[getElem?_append_left c2] at hi
    rw[da (by omega)]
    exact h.rn i hi
   ·rw[(out c c2).1] at hi; cases hi
noncomputable def mH:Sp:=fun vs H Q _=>vs=[]/\∀ p,H p=none->Q (.ref p) (upd H p (.lst [.str "line",.str "bell",.str "still",.str "lazy",.str "turning",.str "stop"]))
noncomputable def oQ:Sp:=fun vs H Q _=>∃ (x:Int) (L:Kn),vs=[.int x]/\Has H L/\∀ (k:Kd) H',Has H' L->Q (.str k.str) H'
noncomputable def oG:Sp:=fun vs H Q _=>∃ x:Int,vs=[.int x]/\∀ n:Int,1<=n->n<=24->Q (.int n) H
noncomputable def ksV (ks:List Kd):List V:=ks.map fun k=>V.str k.str
noncomputable def mK (C:Addr):Sp:=fun vs H Q _=>∃ (d:Addr) (ds:List Int) (a n:Int) (L:Kn) (j:Nat),vs=[.ref d,.int a,.int n]/\Has H L/\L[j]?=some (d,.lst (ds.map V.int))/\0<=a/\0<=n/\n<=24/\a+3*n<=ds.length /\
 ∀ H' A y (ks:List Kd) (ns rs ss:List Int) (tp sd rr nn kk:Addr),Blt y ks ns rs ss->(ks.length:Int)=n ->
  Has H' ((tp,.tup [.ref A.p,.ref kk,.ref nn,.ref rr,.ref sd])::(yL C A y++([(sd,.lst (ss.map V.int)),(rr,.lst (rs.map V.int)),(nn,.lst (ns.map V.int)),(kk,.lst (ksV ks))]++L)))->Q (.ref tp) H'
theorem Kd.of11 (x:Int):∃ k:Kd,atI ([V.str "line",.str "bell",.str "still",.str "lazy",.str "turning",.str "stop"]++[V.str "lazy",.str "turning",.str "bell",.str "still",.str "line"]) (x % 11)=some (.str k.str):=by
 have l0:=Int.emod_nonneg x (show(11:Int)≠0 by decide)
 have l1:=Int.emod_lt_of_pos x (show(0:Int)<11 by decide)
 generalize x % 11=m at *
 obtain⟨n,rfl⟩:=Int.eq_ofNat_of_zero_le l0
 have h:n<11:=Int.ofNat_lt.mp l1
 clear l0 l1
 rcases n with _ | n
 ·exact⟨.line,U⟩
 rcases n with _ | n
 ·exact⟨.bell,U⟩
 rcases n with _ | n
 ·exact⟨.still,U⟩
 rcases n with _ | n
 ·exact⟨.lazy,U⟩
 rcases n with _ | n
 ·exact⟨.turning,U⟩
 rcases n with _ | n
 ·exact⟨.stop,U⟩
 rcases n with _ | n
 ·exact⟨.lazy,U⟩
 rcases n with _ | n
 ·exact⟨.turning,U⟩
 rcases n with _ | n
 ·exact⟨.bell,U⟩
 rcases n with _ | n
 ·exact⟨.still,U⟩
 rcases n with _ | n
 ·exact⟨.line,U⟩
 exact absurd h (by omega)
theorem atD {ds:List Int}{i:Int} (h0:0<=i) (h1:i<ds.length):atI (ds.map V.int) i=some (.int (ds.getD i.toNat 0)):=by
 obtain⟨m,rfl⟩:∃ m:Nat,i=m:=⟨i.toNat,by omega⟩
 have hl:m<ds.length:=by omega
 rw[Int.toNat_natCast]
 refine aY ?_
 rw[getElem?_map,getElem?_eq_getElem hl]
 simp[List.getD,getElem?_eq_getElem hl]
section
variable {P:Program}{w:World}{K:PySem.W.Frag}{mg:Str->Option Value}{base:Heap}{t:Adr}
theorem scKs:FnScope [] [] (ah kc):={}
theorem nK (T:Txt K mg t):FnOk P w K mg base CX0 1 t.f_kinds t.d_kinds [] mH:=by
 refine T.F_kinds.ok scKs (fun vs H Q E h=>?_) (fun cdv A outer s H vs Q E hr h=>?_)
 ·obtain⟨rfl,_⟩:=h
  rfl
 ·obtain⟨rfl,q⟩:=h
  refine⟨_,(af (ao (bI (aa aF (aa aF (aa aF (aa aF (aa aF (aa aF ae))))))))),?_⟩
  exact⟨(show 6<=sizeLine by decide),fun p hp=>q p hp⟩
theorem scKn:FnScope ["_law_draw"] ["_law_draw"] (ah mX):={}
theorem pf (T:Txt K mg t):FnOk P w K mg base CX0 2 t.f_kind t.d_kind ["_law_draw"] oQ:=by
 refine T.F_kind.ok scKn (fun vs H Q E h=>?_) (fun cdv A outer s H vs Q E hr h=>?_)
 ·obtain⟨_,_,rfl,_⟩:=h
  rfl
 ·obtain⟨x,L,rfl,hH,q⟩:=h
  refine⟨_,(af (ao (aG aC (aq pc (nB (nK T) (hr.mono (by decide)) (by rfl) T.m_kinds T.F_kinds.kp (pQ T) .nil aH) (bI (aa aF (aa aF (aa aF (aa aF (aa aF ae))))))) (aq aW (pv 0) ag)))),?_⟩
  refine⟨U,fun p1 hp1=>?_⟩
  have h1:=hH.alloc hp1 (.lst [.str "line",.str "bell",.str "still",.str "lazy",.str "turning",.str "stop"])
  refine⟨(show 5<=sizeLine by decide),fun p2 hp2=>?_⟩
  have h2:=h1.alloc hp2 (.lst [.str "lazy",.str "turning",.str "bell",.str "still",.str "line"])
  refine⟨p1,p2,_,_,U,U,SqL.of (h2.get 1 U),SqL.of (h2.get 0 U),(show 11<=sizeLine by decide),fun p3 hp3=>?_⟩
  have h3:=h2.alloc hp3 (.lst ([V.str "line",.str "bell",.str "still",.str "lazy",.str "turning",.str "stop"]++[V.str "lazy",.str "turning",.str "bell",.str "still",.str "line"]))
  obtain⟨k,hk⟩:=Kd.of11 x
  refine⟨_,U,_,_,U,U,(show(0:Int)<11 by decide),p3,_,_,_,U,U,SqL.of (h3.get 0 U),hk,?_⟩
  exact q k _ h3.tail.tail.tail
theorem scSz:FnScope ["_law_draw"] ["_law_draw"] (ah mU):={}
theorem pe (T:Txt K mg t):FnOk P w K mg base CX0 1 t.f_size t.d_size ["_law_draw"] oG:=by
 refine T.F_size.ok scSz (fun vs H Q E h=>?_) (fun cdv A outer s H vs Q E hr h=>?_)
 ·obtain⟨_,rfl,_⟩:=h
  rfl
 ·obtain⟨x,rfl,q⟩:=h
  refine⟨_,(ab (av (ai br (aq aW (aq bY (pv 0) ag) ag) ag (aj _))
    (af (ao ag))
    ak)
   (af (ao (aq bf ag (aq aW (pv 0) ag))))),?_⟩
  refine⟨_,U,_,_,U,U,⟨by decide,by decide⟩,_,_,U,U,(show(0:Int)<6 by decide),U,_,U,if2 (fun _=>?_) (fun _=>?_)⟩
  ·exact q 24 (by decide) (by decide)
  ·refine⟨_,U,_,_,U,U,(show(0:Int)<9 by decide),_,_,U,U,?_⟩
   have l0:=Int.emod_nonneg x (show(9:Int)≠0 by decide)
   have l1:=Int.emod_lt_of_pos x (show(0:Int)<9 by decide)
   exact q _ (by omega) (by omega)
theorem scBu:FnScope ["_law_d","_law_at","_law_many_here","_law_yard","_law_kinds_here","_law_notes","_law_rods","_law_sides","_law_piece","_law_kind_here","_law_note","_law_way","_law_bar"] ["_law_d","_law_at","_law_many_here"] (ah kh):={}
theorem nN (T:Txt K mg t):FnOk P w K mg base CX0 5 t.f_built t.d_built ["_law_d","_law_at","_law_many_here"] (mK t.c_Yard):=by
 obtain⟨_,hd_Js_2,hb_Js_2⟩:=pY T
 obtain⟨_,hd_Js_3,hb_Js_3⟩:=pX T
 obtain⟨_,hd_Js_4,hb_Js_4⟩:=pW T
 refine T.F_built.ok scBu (fun vs H Q E h=>?_) (fun cdv A outer s H vs Q E hr h=>?_)
 ·obtain⟨_,_,_,_,_,_,rfl,_⟩:=h
  rfl
 ·obtain⟨d,ds,a,n,L,j,rfl,hH,hj,a0,n0,n24,hds,q⟩:=h
  refine⟨_,(ab (am (i:=3) scBu.nd rfl (Or.inl rfl) (iM T.mk_Yard (qx T) (hr.mono (by decide)) (by rfl) T.m_Yard (tO T) .nil aH))
   (ab (am (i:=4) scBu.nd rfl (Or.inl rfl) (bI ae))
   (ab (am (i:=5) scBu.nd rfl (Or.inl rfl) (bI ae))
   (ab (am (i:=6) scBu.nd rfl (Or.inl rfl) (bI ae))
   (ab (am (i:=7) scBu.nd rfl (Or.inl rfl) (bI ae))
   (ab (b9 PassesOwn.never rfl (bS (by rfl) T.z_range (aa (pv 2) ae)) (ar (i:=8) scBu.nd rfl (Or.inl rfl))
    (ab (am (i:=9) scBu.nd rfl (Or.inl rfl) (pcl (pf T) hr T.m_kind T.F_kind.kp (r8 T) (aa (aG aC (pv 0) (aq bf (pv 1) (aq cN ag (pv 8)))) ae)))
     (ab (am (i:=10) scBu.nd rfl (Or.inl rfl) (aq aW (aG aC (pv 0) (aq bf (aq bf (pv 1) (aq cN ag (pv 8))) ag)) ag))
     (ab (am (i:=11) scBu.nd rfl (Or.inl rfl) (aG aC (pv 0) (aq bf (aq bf (pv 1) (aq cN ag (pv 8))) ag)))
     (ab (am (i:=12) scBu.nd rfl (Or.inl rfl) (aq cM ag ag))
     (ab (av (ai br (pv 9) aF (aj _))
      (af (al (aK (pv 3) T.cl_Yard T.M_Js (kz T) hr hb_Js_3 hd_Js_3 aH (aa (pv 9) (aa (pv 10) ae)))))
      (af (av (ai cW (pcl (eU T) hr T.m_many T.F_many.kp (iu T) (aa (pv 9) ae)) ag (aj _))
        (af (al (aK (pv 3) T.cl_Yard T.M_Js (kz T) hr hb_Js_2 hd_Js_2 aH (aa (pv 9) ae))))
        (af (av (PW.pt (cT (ai br (aq aW (pv 11) ag) ag (aj _)) (cv (ai dj (aI aA (by rfl) T.z_len (by rfl) (aa (pv 7) ae)) ag (aj _)))))
          (ab (am (i:=12) scBu.nd rfl (Or.inl rfl) (aq aW (aq bY (pv 11) ag) (aI aA (by rfl) T.z_len (by rfl) (aa (pv 7) ae))))
           (af (al (aK (pv 3) T.cl_Yard T.M_Js (kz T) hr hb_Js_4 hd_Js_4 aH (aa (pv 9) (aa ag (aa (pv 12) ae)))))))
          (ab (am (i:=12) scBu.nd rfl (Or.inl rfl) (aI aA (by rfl) T.z_len (by rfl) (aa (pv 7) ae)))
           (ab (al (bP PySem.F.plainAttrs_list PySem.F.slot_list_append PySem.F.type_list_append aR (pv 7) (aa ag ae)))
           (af (al (aK (pv 3) T.cl_Yard T.M_Js (kz T) hr hb_Js_2 hd_Js_2 aH (aa (pv 9) ae)))))))))))
     (ab (al (bP PySem.F.plainAttrs_list PySem.F.slot_list_append PySem.F.type_list_append aR (pv 4) (aa (pv 9) ae)))
     (ab (al (bP PySem.F.plainAttrs_list PySem.F.slot_list_append PySem.F.type_list_append aR (pv 5) (aa (pv 10) ae)))
     (af (al (bP PySem.F.plainAttrs_list PySem.F.slot_list_append PySem.F.type_list_append aR (pv 6) (aa (pv 12) ae))))))))))))
   (af (ao (aO (aa (pv 3) (aa (pv 4) (aa (pv 5) (aa (pv 6) (aa (pv 7) ae)))))))))))))),?_⟩
  intro p1 dx1 hp1 hdx1 ne1
  refine⟨p1,dx1,_,U,(hH.alloc hdx1 (.own p1)).alloc (by rw[aJ (Ne.symm ne1)]; exact hp1) (.ins t.c_Yard dx1 []),fun H2 A1 e1 h2=>⟨U,?_⟩⟩
  subst e1
  refine⟨by decide,fun kk hkk=>?_⟩
  have h3:=h2.alloc hkk (.lst [])
  generalize upd H2 kk _=H3 at h3 ⊢
  refine⟨by decide,fun nn hnn=>?_⟩
  have h4:=h3.alloc hnn (.lst [])
  generalize upd H3 nn _=H4 at h4 ⊢
  refine⟨by decide,fun rr hrr=>?_⟩
  have h5:=h4.alloc hrr (.lst [])
  generalize upd H4 rr _=H5 at h5 ⊢
  refine⟨by decide,fun sd hsd=>?_⟩
  have h6:=Has.comm (X:=[(sd,.lst []),(rr,.lst []),(nn,.lst []),(kk,.lst [])]) (Y:=yL t.c_Yard A1 y0) (R:=L) (h5.alloc hsd (.lst []))
  generalize upd H5 sd _=H6 at h6 ⊢
  refine⟨_,U,n,U,by omega,by omega,bU (fun i σ H'=>∃ (A1:YA) (y:YR) (ks:List Kd) (ns rs ss:List Int) (o1 o2 o3 o4 o5:Option V),Blt y ks ns rs ss/\ks.length=i/\σ=[some (.ref d),some (.int a),some (.int n),some (.ref A1.p),some (.ref kk),some (.ref nn),some (.ref rr),some (.ref sd),o1,o2,o3,o4,o5] /\
   Has H' (yL t.c_Yard A1 y++([(sd,.lst (ss.map V.int)),(rr,.lst (rs.map V.int)),(nn,.lst (ns.map V.int)),(kk,.lst (ksV ks))]++L))) ⟨_,_,_,_,_,_,_,_,_,_,_,Blt.nil,U,U,h6⟩ ?_ ?_⟩
  ·clear h2 h3 h4 h5 h6
   rintro i σ H6 hi ⟨A1,y,ks,ns,rs,ss,o1,o2,o3,o4,o5,B,lk,rfl,h6⟩
   have i24:i<24:=by omega
   have hnl:=B.nl
   have hrl:=B.rl
   have hsl:=B.sl
   have hd1:SqL K H6 d (ds.map V.int):=SqL.of (h6.get (j+13) (by simpa [yL] using hj))
   refine⟨_,U,_,U,_,U,_,_,U,U,(.inl ⟨by decide,by decide⟩),_,_,U,U,d,_,_,_,U,U,hd1,atD (by omega) (by omega),_,_,U,h6,fun k H7 h7=>?_⟩
   have hd2:SqL K H7 d (ds.map V.int):=SqL.of (h7.get (j+13) (by simpa [yL] using hj))
   clear h6
   refine⟨_,U,_,U,_,U,_,_,U,U,(.inl ⟨by decide,by decide⟩),_,_,U,U,_,_,U,U,d,_,_,_,U,U,hd2,atD (by omega) (by omega),_,_,U,U,(show(0:Int)<10000 by decide),?_⟩
   refine⟨_,U,_,U,_,U,_,_,U,U,(.inl ⟨by decide,by decide⟩),_,_,U,U,_,_,U,U,d,_,_,_,U,U,hd2,atD (by omega) (by omega),?_⟩
   refine⟨_,_,U,U,?_⟩
   dsimp only
   have z0:=Int.emod_nonneg (ds.getD (a+3*(0+(i:Int))+1).toNat 0) (show(10000:Int)≠0 by decide)
   have z1:=Int.emod_lt_of_pos (ds.getD (a+3*(0+(i:Int))+1).toNat 0) (show(0:Int)<10000 by decide)
   generalize ds.getD (a+3*(0+(i:Int))+1).toNat 0 % 10000=z at z0 z1 ⊢
   generalize ds.getD (a+3*(0+(i:Int))+2).toNat 0=way
   have hz:0<=z/\z<=9999:=⟨z0,by omega⟩
   refine⟨_,U,U,_,U,?_⟩
   rw[k.isBell]
   refine ifd (fun kb=>?_) (fun kb=>?_)
   ·refine⟨_,U,A1.p,A1.dx,_,U,h7.get 1 U,(b5 _ _ _).1,_,U,_,U,A1,y,_,k,z,.non,U,h7,B.small (by omega),fun _=>hz,fun _ h=>absurd rfl h,fun H9 q9 h9=>?_⟩
    have kp:k.point=false:=by rw[kb]; rfl
    refine⟨_,U,.inl ⟨U,_,SqL.of (h9.get 12 U)⟩,_,U,kk,_,_,U,U,h9.get 12 U,aB (by unfold ksV; rw[length_map]; omega),?_⟩
    have h10:=h9.puti 12 U (.lst (ksV ks++[.str k.str]))
    refine⟨_,U,.inl ⟨U,_,SqL.of (h10.get 11 U)⟩,_,U,nn,_,_,U,U,h10.get 11 U,aB (by rw[length_map]; omega),?_⟩
    have h11:=h10.puti 11 U (.lst (ns.map V.int++[.int z]))
    refine⟨_,U,.inl ⟨U,_,SqL.of (h11.get 10 U)⟩,_,U,rr,_,_,U,U,h11.get 10 U,aB (by rw[length_map]; omega),?_⟩
    have h12:=h11.puti 10 U (.lst (rs.map V.int++[.int (0 - 1)]))
    refine⟨{ A1 with tr:=q9 },_,ks++[k],ns++[z],rs++[(0 - 1)],ss,_,_,_,_,_,(B.lay k z z (0 - 1) .non ss hz (fun _=>rfl) (fun h=>absurd (kp.symm.trans h) (by decide)) (fun _=>⟨U,by decide⟩)),by simp[lk],U,?_⟩
    have e1:ksV (ks++[k])=ksV ks++[.str k.str]:=by unfold ksV; rw[map_append]; rfl
    rw[e1,map_append (l₁:=ns),map_append (l₁:=rs)]
    exact h12
   ·refine⟨_,U,k,U,_,_,U,U,_,U,if2 (fun km=>?_) (fun km=>?_)⟩
    ·refine⟨_,U,A1.p,A1.dx,_,U,h7.get 1 U,(b5 _ _ _).1,_,U,A1,y,_,k,0,.non,U,h7,B.small (by omega),fun h=>absurd h kb,fun _ h=>absurd rfl h,fun H9 q9 h9=>?_⟩
     have kp:k.point = false:=by cases k <;> first | rfl | (exfalso; revert km; decide)
     refine⟨_,U,.inl ⟨U,_,SqL.of (h9.get 12 U)⟩,_,U,kk,_,_,U,U,h9.get 12 U,aB (by unfold ksV; rw[length_map]; omega),?_⟩
     have h10:=h9.puti 12 U (.lst (ksV ks++[.str k.str]))
     refine⟨_,U,.inl ⟨U,_,SqL.of (h10.get 11 U)⟩,_,U,nn,_,_,U,U,h10.get 11 U,aB (by rw[length_map]; omega),?_⟩
     have h11:=h10.puti 11 U (.lst (ns.map V.int++[.int z]))
     refine⟨_,U,.inl ⟨U,_,SqL.of (h11.get 10 U)⟩,_,U,rr,_,_,U,U,h11.get 10 U,aB (by rw[length_map]; omega),?_⟩
     have h12:=h11.puti 10 U (.lst (rs.map V.int++[.int (0 - 1)]))
     refine⟨{ A1 with tr:=q9 },_,ks++[k],ns++[z],rs++[(0 - 1)],ss,_,_,_,_,_,(B.lay k z 0 (0 - 1) .non ss hz (fun h=>absurd h kb) (fun h=>absurd (kp.symm.trans h) (by decide)) (fun _=>⟨U,by decide⟩)),by simp[lk],U,?_⟩
     have e1:ksV (ks++[k])=ksV ks++[.str k.str]:=by unfold ksV; rw[map_append]; rfl
     rw[e1,map_append (l₁:=ns),map_append (l₁:=rs)]
     exact h12
    ·have kp:k.point = true:=by cases k <;> first | rfl | (exfalso; revert km; decide) | exact absurd rfl kb
     have hsd:SqL K H7 sd (ss.map V.int):=SqL.of (h7.get 9 U)
     have h8:Has (upd H7 sd (.lst (ss.map V.int++[.int 1]))) (yL t.c_Yard A1 y++([(sd,.lst ((ss++[1]).map V.int)),(rr,.lst (rs.map V.int)),(nn,.lst (ns.map V.int)),(kk,.lst (ksV ks))]++L)):=by
      rw[map_append]
      exact h7.puti 9 U (.lst (ss.map V.int++[.int 1]))
     refine⟨_,U,_,_,U,U,(show(0:Int)<3 by decide),U,_,U,if2 (fun _=>⟨_,U,sd,_,U,.inl hsd,_,_,U,U,_,U,if2 (fun hs=>?_) (fun hs=>?_)⟩) (fun _=>bT ?_)⟩
     ·have s0:0<ss.length:=by
       have:=of_decide_eq_true hs
       rw[length_map] at this
       omega
      refine⟨_,U,_,_,U,U,⟨by decide,by decide⟩,_,U,sd,_,U,.inl hsd,_,_,U,U,(show(0:Int)<((ss.map V.int).length:Int) by rw[length_map]; omega),?_⟩
      rw[length_map]
      dsimp only
      have b0:=Int.emod_nonneg (way / 3) (show((ss.length:Nat):Int)≠0 by omega)
      have b1:=Int.emod_lt_of_pos (way / 3) (show(0:Int)<((ss.length:Nat):Int) by omega)
      generalize way / 3 % (ss.length:Int)=bar at b0 b1 ⊢
      refine⟨_,U,A1.p,A1.dx,_,U,h7.get 1 U,(b5 _ _ _).1,_,U,_,U,A1,y,_,k,0,.int bar,U,h7,B.small (by omega),fun h=>absurd h kb,fun _ _=>⟨bar,U,b0,by rw[B.sd,length_map]; exact b1⟩,fun H9 q9 h9=>?_⟩
      refine⟨_,U,.inl ⟨U,_,SqL.of (h9.get 12 U)⟩,_,U,kk,_,_,U,U,h9.get 12 U,aB (by unfold ksV; rw[length_map]; omega),?_⟩
      have h10:=h9.puti 12 U (.lst (ksV ks++[.str k.str]))
      refine⟨_,U,.inl ⟨U,_,SqL.of (h10.get 11 U)⟩,_,U,nn,_,_,U,U,h10.get 11 U,aB (by rw[length_map]; omega),?_⟩
      have h11:=h10.puti 11 U (.lst (ns.map V.int++[.int z]))
      refine⟨_,U,.inl ⟨U,_,SqL.of (h11.get 10 U)⟩,_,U,rr,_,_,U,U,h11.get 10 U,aB (by rw[length_map]; omega),?_⟩
      have h12:=h11.puti 10 U (.lst (rs.map V.int++[.int bar]))
      refine⟨{ A1 with tr:=q9 },_,ks++[k],ns++[z],rs++[bar],ss,_,_,_,_,_,(B.lay k z 0 bar (.int bar) ss hz (fun h=>absurd h kb) (fun _=>.inr ⟨U,b0,b1,U⟩) (fun h=>absurd (kp.symm.trans h) (by decide))),by simp[lk],U,?_⟩
      have e1:ksV (ks++[k])=ksV ks++[.str k.str]:=by unfold ksV; rw[map_append]; rfl
      rw[e1,map_append (l₁:=ns),map_append (l₁:=rs)]
      exact h12
     all_goals
      refine⟨_,U,sd,_,U,.inl hsd,?_⟩
      refine⟨_,U,.inl ⟨U,_,hsd⟩,sd,_,_,U,U,h7.get 9 U,aB (by rw[length_map]; omega),?_⟩
      refine⟨_,U,A1.p,A1.dx,_,U,h8.get 1 U,(b5 _ _ _).1,_,U,A1,y,_,k,0,.non,U,h8,B.small (by omega),fun h=>absurd h kb,fun _ h=>absurd rfl h,fun H9 q9 h9=>?_⟩
      refine⟨_,U,.inl ⟨U,_,SqL.of (h9.get 12 U)⟩,_,U,kk,_,_,U,U,h9.get 12 U,aB (by unfold ksV; rw[length_map]; omega),?_⟩
      have h10:=h9.puti 12 U (.lst (ksV ks++[.str k.str]))
      refine⟨_,U,.inl ⟨U,_,SqL.of (h10.get 11 U)⟩,_,U,nn,_,_,U,U,h10.get 11 U,aB (by rw[length_map]; omega),?_⟩
      have h11:=h10.puti 11 U (.lst (ns.map V.int++[.int z]))
      refine⟨_,U,.inl ⟨U,_,SqL.of (h11.get 10 U)⟩,_,U,rr,_,_,U,U,h11.get 10 U,aB (by rw[length_map]; omega),?_⟩
      have h12:=h11.puti 10 U (.lst (rs.map V.int++[.int (((ss.map V.int).length:Int))]))
      refine⟨{ A1 with tr:=q9 },_,ks++[k],ns++[z],rs++[(((ss.map V.int).length:Int))],(ss++[1]),_,_,_,_,_,(B.lay k z 0 (((ss.map V.int).length:Int)) .non (ss++[1]) hz (fun h=>absurd h kb) (fun _=>.inl ⟨U,by rw[length_map],U⟩) (fun h=>absurd (kp.symm.trans h) (by decide))),by simp[lk],U,?_⟩
      have e1:ksV (ks++[k])=ksV ks++[.str k.str]:=by unfold ksV; rw[map_append]; rfl
      rw[e1,map_append (l₁:=ns),map_append (l₁:=rs)]
      exact h12
  ·rintro σ H6 ⟨A1,y,ks,ns,rs,ss,o1,o2,o3,o4,o5,B,lk,rfl,h6⟩
   refine⟨_,U,_,U,_,U,_,U,_,U,(show 5<=sizeLine by decide),fun tp htp=>?_⟩
   exact q _ A1 y ks ns rs ss tp sd rr nn kk B (by omega) (h6.alloc htp _)
end
noncomputable def aU (ks:List Kd):List (Int×Int):=ks.zipIdx.flatMap fun p=>(List.range p.1.many.toNat).map fun e:Nat=>((p.2:Int),(e:Int))
theorem fT (ks:List Kd) (k:Kd):aU (ks++[k])=aU ks++(List.range k.many.toNat).map fun e:Nat=>((ks.length:Int),(e:Int)):=by
 unfold aU
 rw[List.zipIdx_append,List.flatMap_append]
 simp
noncomputable def esK (es:List (Addr×Int×Int)):Kn:=es.map fun x=>(x.1,HO.tup [.int x.2.1,.int x.2.2])
noncomputable def esV (es:List (Addr×Int×Int)):List V:=es.map fun x=>V.ref x.1
theorem jf (ks:List Kd):(aU ks).length<=3*ks.length:=by
 unfold aU
 have:∀ (l:List (Kd×Nat)),(l.flatMap fun p=>(List.range p.1.many.toNat).map fun e:Nat=>((p.2:Int),(e:Int))).length<=3*l.length:=by
  intro l
  induction l with
  | nil=>simp
  | cons p l ih=>
   rw[List.flatMap_cons,length_append,length_map,List.length_range,length_cons]
   have:p.1.many.toNat<=3:=by cases p.1 <;> decide
   omega
 have h:=this ks.zipIdx
 rw[List.length_zipIdx] at h
 exact h
theorem b6 {ks:List Kd}{n e:Int} (h:(n,e) ∈ aU ks):∃ (i:Nat) (k:Kd),n=i/\ks[i]?=some k/\0<=e/\e<k.many:=by
 unfold aU at h
 obtain⟨p,hp,hq⟩:=List.mem_flatMap.mp h
 obtain⟨x,hx,he⟩:=mem_map.mp hq
 rw[mem_range] at hx
 cases he
 refine⟨p.2,p.1,U,?_,by omega,by omega⟩
 have:=List.mem_zipIdx_iff_getElem?.mp hp
 simpa using this
noncomputable def oU:Sp:=fun vs H Q _=>∃ (kk:Addr) (ks:List Kd) (L:Kn) (j:Nat),vs=[.ref kk]/\Has H L/\L[j]?=some (kk,.lst (ksV ks))/\ks.length<=1000 /\
 ∀ H' (el:Addr) (es:List (Addr×Int×Int)),es.map (·.2)=aU ks->Has H' ((el,.lst (esV es))::(esK es++L))->Q (.ref el) H'
section
variable {P:Program}{w:World}{K:PySem.W.Frag}{mg:Str->Option Value}{base:Heap}{t:Adr}
theorem scEn:FnScope ["_law_kinds_here","_law_ends_here","_law_piece","_law_kind_here","_law_place"] ["_law_kinds_here"] (ah m7):={}
theorem gX (T:Txt K mg t):FnOk P w K mg base CX0 2 t.f_ends t.d_ends ["_law_kinds_here"] oU:=by
 refine T.F_ends.ok scEn (fun vs H Q E h=>?_) (fun cdv A outer s H vs Q E hr h=>?_)
 ·obtain⟨_,_,_,_,rfl,_⟩:=h
  rfl
 ·obtain⟨kk,ks,L,j,rfl,hH,hj,hk,q⟩:=h
  refine⟨_,(ab (am (i:=1) scEn.nd rfl (Or.inl rfl) (bI ae))
   (ab (b9 PassesOwn.never rfl (o6 (by rfl) T.z_enumerate (aa (pv 0) ae)) (cA rfl (az (ar (i:=2) scEn.nd rfl (Or.inl rfl)) (az (ar (i:=3) scEn.nd rfl (Or.inl rfl)) bX)))
    (af (b9 PassesOwn.never rfl (bS (by rfl) T.z_range (aa (pcl (eU T) hr T.m_many T.F_many.kp (iu T) (aa (pv 3) ae)) ae)) (ar (i:=4) scEn.nd rfl (Or.inl rfl))
      (af (al (bP PySem.F.plainAttrs_list PySem.F.slot_list_append PySem.F.type_list_append aR (pv 1) (aa (aO (aa (pv 2) (aa (pv 4) ae))) ae)))))))
   (af (ao (pv 1))))),?_⟩
  refine⟨by decide,fun el hel=>?_⟩
  have h1:=hH.alloc hel (.lst [])
  generalize upd H el _=H1 at h1 ⊢
  have gk:∀ {H:Hp}{x:HO}{M:Kn},Has H ((el,x)::(M++L))->SqL K H kk (ksV ks):=fun {H x M} h=>SqL.of (h.get (M.length+j+1) (by
   rw[List.getElem?_cons_succ,getElem?_append_right (by omega),show M.length+j - M.length=j by omega]; exact hj))
  refine⟨_,U,kk,U,⟨_,gk (M:=[]) h1⟩,n6 (xs:=ksV ks) (fun i σ H'=>∃ (es:List (Addr×Int×Int)) (o1 o2 o3:Option V),es.map (·.2)=aU (ks.take i)/\σ=[some (.ref kk),some (.ref el),o1,o2,o3]/\Has H' ((el,.lst (esV es))::(esK es++L)))
   ⟨[],_,_,_,U,U,h1⟩ (fun i σ H' _ z_=>z_.elim fun es z_=>z_.elim fun _ z_=>z_.elim fun _ z_=>z_.elim fun _ z_=>z_.elim fun _ z_=>z_.elim fun _ h=>gk h) ?_ ?_⟩
  ·rintro i x σ H2 p hx ⟨es,o1,o2,o3,hes,rfl,h2⟩ hp
   have hi:i<ks.length:=by
    have:=(List.getElem?_eq_some_iff.mp hx).1
    unfold ksV at this
    rw[length_map] at this; exact this
   have ex:x=.str (ks[i]).str:=by
    unfold ksV at hx
    rw[getElem?_map,getElem?_eq_getElem hi] at hx
    exact(Option.some.inj hx).symm
   subst ex
   have h3:=h2.alloc hp (.tup [.int i,.str (ks[i]).str])
   refine⟨p,_,U,SqT.of (h3.get 0 U),U,_,_,U,_,_,U,U,?_⟩
   have h4:=h3.tail
   generalize upd H2 p _=H3 at h4 ⊢
   clear h2 h3 hp
   have hm:1<=(ks[i]).many/\(ks[i]).many<=3:=by cases ks[i] <;> decide
   have hti:(ks.take i).length=i:=by rw[length_take]; omega
   have hen:(aU (ks.take i)).length<=3000:=Nat.le_trans (jf _) (by omega)
   refine⟨_,U,ks[i],U,_,U,by omega,by omega,bU (fun e σ H'=>∃ (es:List (Addr×Int×Int)) (o3:Option V),es.map (·.2)=aU (ks.take i)++(List.range e).map (fun e:Nat=>((i:Int),(e:Int)))/\σ=[some (.ref kk),some (.ref el),some (.int i),some (.str (ks[i]).str),o3]/\Has H' ((el,.lst (esV es))::(esK es++L)))
    ⟨es,_,by rw[hes]; simp,U,h4⟩ ?_ ?_⟩
   ·clear h4 hes es o3
    rintro e σ H4 he ⟨es,o3,hes,rfl,h4⟩
    have hle:es.length<=3003:=by
     have:=congrArg List.length hes
     rw[length_map,length_append,length_map,List.length_range] at this
     omega
    refine⟨_,U,.inl ⟨U,_,SqL.of (h4.get 0 U)⟩,_,U,_,U,(show 2<=sizeLine by decide),fun b hb=>?_⟩
    have h5:=h4.alloc hb (.tup [.int i,.int (0+e)])
    refine⟨el,_,_,U,U,h5.get 1 U,aB (by unfold esV; rw[length_map]; omega),?_⟩
    have h6:=(h5.puti 1 U (.lst (esV es++[.ref b]))).swap2.perm (List.Perm.cons _ (List.perm_append_comm_assoc [_] (esK es) L))
    refine⟨es++[(b,(i:Int),0+(e:Int))],_,?_,U,?_⟩
    ·rw[map_append,hes,List.range_succ,map_append,append_assoc]
     simp
    ·have e1:esV (es++[(b,(i:Int),0+(e:Int))])=esV es++[.ref b]:=by unfold esV; rw[map_append]; rfl
     have e2:esK (es++[(b,(i:Int),0+(e:Int))])++L=esK es++([(b,.tup [.int i,.int (0+e)])]++L):=by unfold esK; rw[map_append,append_assoc]; rfl
     rw[e1,e2]
     exact h6
   ·rintro σ H4 ⟨es,o3,hes,rfl,h4⟩
    refine⟨es,_,_,_,?_,U,h4⟩
    rw[hes,List.take_succ,getElem?_eq_getElem hi]
    show _=aU (ks.take i++[ks[i]])
    rw[fT,hti]
  ·rintro σ H2 ⟨es,o1,o2,o3,hes,rfl,h2⟩
   refine⟨_,U,?_⟩
   refine q _ el es ?_ h2
   rw[hes]
   unfold ksV
   rw[length_map,List.take_length]
end
theorem ff {es:List (Addr×Int×Int)}{i:Nat}{x:Addr×Int×Int} (L:Kn) (h:es[i]?=some x):(esK es++L)[i]?=some (x.1,.tup [.int x.2.1,.int x.2.2]):=by
 have hi:=(List.getElem?_eq_some_iff.mp h).1
 rw[getElem?_append_left (by unfold esK; rw[length_map]; exact hi)]
 unfold esK
 rw[getElem?_map,h]
 rfl
theorem ig {es:List (Addr×Int×Int)}{i:Nat}{x:Addr×Int×Int} (h:es[i]?=some x):(esV es)[i]?=some (.ref x.1):=by
 unfold esV
 rw[getElem?_map,h]
 rfl
theorem dw {α β:Type} (f:α->β):∀ (l:List α) (k:Nat),(l.map f).eraseIdx k=(l.eraseIdx k).map f
 | [],_=>rfl
 | _::_,0=>rfl
 | a::l,k+1=>by
  show f a::(l.map f).eraseIdx k=f a::(l.eraseIdx k).map f
  rw[dw f l k]
theorem cs {α:Type}:∀ (l:List α) (k:Nat) (h:k<l.length),(l[k]::l.eraseIdx k).Perm l
 | [],k,h=>absurd h (Nat.not_lt_zero k)
 | a::l,0,h=>List.Perm.refl _
 | a::l,k+1,h=>(List.Perm.swap _ _ _).trans (List.Perm.cons a (cs l k (by simpa using h)))
theorem je (ks:List Kd):(aU ks).Nodup:=by
 have H:∀ i,i<=ks.length->(aU (ks.take i)).Nodup:=by
  intro i
  induction i with
  | zero=>intro _; exact List.Pairwise.nil
  | succ i ih=>
   intro hi
   have hlt:i<ks.length:=by omega
   rw[List.take_succ,getElem?_eq_getElem hlt]
   show(aU (ks.take i++[ks[i]])).Nodup
   rw[fT]
   refine List.nodup_append.mpr ⟨ih (by omega),?_,?_⟩
   ·refine List.Pairwise.map _ (fun a b hab hc=>hab ?_) List.nodup_range
    have:=congrArg Prod.snd hc
    exact Int.ofNat.inj this
   ·intro a ha b hb e
    subst e
    obtain⟨x,_,hx⟩:=mem_map.mp hb
    obtain⟨j,k,e1,e2,_⟩:=b6 (n:=a.1) (e:=a.2) ha
    have:a.1=((ks.take i).length:Int):=by rw[<- hx]
    have hj:=(List.getElem?_eq_some_iff.mp e2).1
    rw[length_take] at this hj
    omega
 have:=H ks.length (Nat.le_refl _)
 rwa [List.take_length] at this
noncomputable def cb (es:List En) (m:List (List Key×V)) (n e:Int):Option En:=match aD m (kE n e) with | some (.ref b)=>es.find? fun x=>decide (x.1=b) | _=>none
noncomputable def MIn (es:List En) (m:List (List Key×V)):Prop:=∀ k v,aD m k=some v->∃ z ∈ es,v=.ref z.1
theorem cE {es:List En}{m:List (List Key×V)} (h:MIn es m) (n e:Int):aD m (kE n e)=(cb es m n e).map fun z=>V.ref z.1:=by
 unfold cb
 cases hv:aD m (kE n e) with
 | none=>rfl
 | some v=>
  obtain⟨z,hz,rfl⟩:=h _ _ hv
  dsimp only
  cases hf:es.find? fun x=>decide (x.1=z.1) with
  | none=>exact absurd (List.find?_eq_none.mp hf z hz) (by simp)
  | some x=>have:=List.find?_some hf; rw[Option.map_some,of_decide_eq_true this]
theorem cY {es:List En}{m:List (List Key×V)}{n e:Int}{z:En} (h:cb es m n e=some z):z ∈ es:=by
 unfold cb at h
 split at h
 ·exact List.mem_of_find?_eq_some h
 ·cases h
theorem MIn.nil (es:List En):MIn es []:=fun k v h=>by cases h
theorem MIn.put {es:List En}{m:List (List Key×V)} (h:MIn es m) {x:En} (hx:x ∈ es) (k:List Key):MIn es (aV m k (.ref x.1)):=fun j v hv=>by
 rw[bN] at hv
 split at hv
 ·exact⟨x,hx,(Option.some.inj hv).symm⟩
 ·exact h j v hv
theorem MIn.mono {es es':List En}{m:List (List Key×V)} (h:MIn es m) (s:∀ x ∈ es,x ∈ es'):MIn es' m:=fun k v hv=>let ⟨z,hz,e⟩:=h k v hv; ⟨z,s z hz,e⟩
noncomputable def wOf (ks:List Kd) (ns rs:List Int) (es:List En) (m:List (List Key×V)):Wd:=⟨fun n=>if 0<=n then ks[n.toNat]? else none,fun n=>ns.getD n.toNat 0,fun n=>rs.getD n.toNat 0,cb es m⟩
theorem qd {ks:List Kd}{ns rs:List Int}{es:List En}{m:List (List Key×V)}{n:Int}{k:Kd} (h:(wOf ks ns rs es m).kf n=some k):∃ i:Nat,n=i/\ks[i]?=some k:=by
 unfold wOf at h
 dsimp only at h
 split at h
 ·exact⟨n.toNat,by omega,h⟩
 ·cases h
theorem lX {ks:List Kd}{ns rs:List Int}{es:List En}{m:List (List Key×V)} (i:Nat):(wOf ks ns rs es m).kf i=ks[i]?:=by
 unfold wOf; dsimp only; rw[if_pos (by omega),Int.toNat_natCast]
theorem gL {ks:List Kd}{ns rs:List Int}{es:List En}{m:List (List Key×V)}{z:En} (h:z.2 ∈ aU ks):(wOf ks ns rs es m).ok z:=by
 obtain⟨i,k,e1,e2,e3,e4⟩:=b6 (n:=z.2.1) (e:=z.2.2) h
 exact⟨k,by rw[e1,lX]; exact e2,e3,e4⟩
theorem Rep.of {y y':YR}{ks:List Kd}{ns rs ss ss':List Int}{es:List En}{m:List (List Key×V)}{u:Option En} (B:Blt y ks ns rs ss) (hm:MIn es m) (he:∀ x ∈ es,x.2 ∈ aU ks) (hl:ss'.length=ss.length) (h12:∀ x ∈ ss',x=1∨x=2) (hu:∀ z,u=some z->z.2 ∈ aU ks)
  (e1:y'.kinds=y.kinds) (e2:y'.notes=y.notes) (e3:y'.rods=y.rods) (e4:y'.mates=m) (e5:y'.sides=ss'.map V.int) (e6:y'.eng=enV u) (e7:y'.rung=[]) :
  Rep (wOf ks ns rs es m) ⟨ss',u,[]⟩ y':=by
 refine⟨fun n k h=>?_,fun n k h=>?_,fun n k h=>?_,fun n k h hp=>?_,e5,h12,fun n e=>by rw[e4]; exact cE hm n e,fun n e z h=>gL (he z (cY h)),e6,fun z hz=>gL (hu z hz),e7⟩
 all_goals obtain⟨i,rfl,hk⟩:=qd h
 ·rw[e1,B.kd,d6,hk]; rfl
 ·rw[e2,B.no,hk]
  by_cases c:k=.bell
  ·rw[if_pos (by rw[c]),if_pos c]; unfold wOf; dsimp only; rw[Int.toNat_natCast]
  ·rw[if_neg (fun z=>c (Option.some.inj z)),if_neg c]
 ·rw[e3,B.ro,hk]
  by_cases c:k.point=true
  ·rw[if_pos (by simp[c]),if_pos c]; unfold wOf; dsimp only; rw[Int.toNat_natCast]
  ·rw[if_neg (by simp[c]),if_neg c]
 ·have:=B.rr i (by rw[hk]; simp[hp])
  show 0<=rs.getD (i:Int).toNat 0/\rs.getD (i:Int).toNat 0<(ss'.length:Int)
  rw[Int.toNat_natCast,hl]
  exact this
theorem pK {es:List En}{M R:Kn}{z:En} (h:z ∈ es):∃ j:Nat,(M++(esK es++R))[j]?=some (z.1,HO.tup [.int z.2.1,.int z.2.2]):=by
 obtain⟨i,hi⟩:=List.mem_iff_getElem?.mp h
 exact⟨M.length+i,by rw[getElem?_append_right (by omega),show M.length+i - M.length=i by omega]; exact ff R hi⟩
theorem fS {y:YR}{ks:List Kd}{ns rs ss:List Int} (B:Blt y ks ns rs ss) {y':YR} (e:y'.kinds=y.kinds) {p:Int×Int} (h:p ∈ aU ks):eN y' p.1 p.2:=by
 obtain⟨i,k,e1,e2,e3,e4⟩:=b6 (n:=p.1) (e:=p.2) h
 exact⟨k,by rw[e,e1,B.kd,d6,e2]; rfl,e3,e4⟩
theorem iI {n:Nat}{x:Int} (h:0<n):∃ k:Nat,k<n/\x % (n:Int)=k/\seqIndex? (x % (n:Int)) n=some k/\-(2 ^ 63)<=x % (n:Int)/\(n<=1000000->x % (n:Int)<2 ^ 63):=by
 have b0:=Int.emod_nonneg x (show((n:Nat):Int)≠0 by omega)
 have b1:=Int.emod_lt_of_pos x (show(0:Int)<((n:Nat):Int) by omega)
 refine⟨(x % (n:Int)).toNat,by omega,by omega,?_,by omega,fun hn=>by omega⟩
 generalize x % (n:Int)=i at b0 b1
 unfold seqIndex?
 dsimp only
 rw[if_neg (show ¬ i<0 by omega),if_pos (show(decide (0<=i) && decide (i<(n:Int)))=true by rw[decide_eq_true b0,decide_eq_true b1]; rfl)]
noncomputable def Wsym (mf:Int->Int->Option En):Prop:=∀ n e z,mf n e=some z->¬ z.2=(n,e)/\∃ z',mf z.2.1 z.2.2=some z'/\z'.2=(n,e)
noncomputable def pB (mf:Int->Int->Option En) (x z:En) (n e:Int):Option En:=if (n,e)=z.2 then some x else if (n,e)=x.2 then some z else mf n e
noncomputable def px (mf:Int->Int->Option En) (p1 p2:Int×Int) (n e:Int):Option En:=if (n,e)=p1∨(n,e)=p2 then none else mf n e
theorem Wsym.link {mf:Int->Int->Option En} (S:Wsym mf) {x z:En} (hx:mf x.2.1 x.2.2=none) (hz:mf z.2.1 z.2.2=none) (ne:¬ x.2=z.2):Wsym (pB mf x z):=by
 intro n e u h
 unfold pB at h
 by_cases c1:(n,e)=z.2
 ·rw[if_pos c1] at h
  cases h
  refine⟨fun q=>ne (q.trans c1),z,?_,c1.symm⟩
  show(if (x.2.1,x.2.2)=z.2 then some x else if (x.2.1,x.2.2)=x.2 then some z else mf x.2.1 x.2.2)=some z
  rw[if_neg (show ¬ (x.2.1,x.2.2)=z.2 from ne),if_pos rfl]
 ·rw[if_neg c1] at h
  by_cases c2:(n,e)=x.2
  ·rw[if_pos c2] at h
   cases h
   refine⟨fun q=>ne (c2.symm.trans q.symm),x,?_,c2.symm⟩
   show(if (z.2.1,z.2.2)=z.2 then some x else if (z.2.1,z.2.2)=x.2 then some z else mf z.2.1 z.2.2)=some x
   rw[if_pos rfl]
  ·rw[if_neg c2] at h
   obtain⟨a,z',b,c⟩:=S n e u h
   refine⟨a,z',?_,c⟩
   have d1:¬ (u.2.1,u.2.2)=z.2:=fun q=>by
    rw[show u.2.1=z.2.1 from congrArg Prod.fst q,show u.2.2=z.2.2 from congrArg Prod.snd q,hz] at b
    cases b
   have d2:¬ (u.2.1,u.2.2)=x.2:=fun q=>by
    rw[show u.2.1=x.2.1 from congrArg Prod.fst q,show u.2.2=x.2.2 from congrArg Prod.snd q,hx] at b
    cases b
   show(if (u.2.1,u.2.2)=z.2 then some x else if (u.2.1,u.2.2)=x.2 then some z else mf u.2.1 u.2.2)=some z'
   rw[if_neg d1,if_neg d2]
   exact b
theorem Wsym.unlink {mf:Int->Int->Option En} (S:Wsym mf) {n1 e1:Int}{z:En} (h:mf n1 e1=some z):Wsym (px mf (n1,e1) z.2):=by
 intro n e u hu
 unfold px at hu
 by_cases c:(n,e)=(n1,e1)∨(n,e)=z.2
 ·rw[if_pos c] at hu
  cases hu
 ·rw[if_neg c] at hu
  obtain⟨a,z',b,d⟩:=S n e u hu
  refine⟨a,z',?_,d⟩
  have no:¬ ((u.2.1,u.2.2)=(n1,e1)∨(u.2.1,u.2.2)=z.2):=by
   rintro(q | q)
   ·rw[show u.2.1=n1 from congrArg Prod.fst q,show u.2.2=e1 from congrArg Prod.snd q,h] at b
    cases b
    exact c (.inr d.symm)
   ·obtain⟨_,z2,b2,d2⟩:=S n1 e1 z h
    rw[show u.2.1=z.2.1 from congrArg Prod.fst q,show u.2.2=z.2.2 from congrArg Prod.snd q,b2] at b
    cases b
    exact c (.inl (d.symm.trans d2))
  show(if (u.2.1,u.2.2)=(n1,e1)∨(u.2.1,u.2.2)=z.2 then none else mf u.2.1 u.2.2)=some z'
  rw[if_neg no]
  exact b
theorem fe {es:List En} (eu:∀ x ∈ es,∀ z ∈ es,x.1=z.1->x=z) {x:En} (hx:x ∈ es):(es.find? fun u=>decide (u.1=x.1))=some x:=by
 cases hf:es.find? fun u=>decide (u.1=x.1) with
 | none=>exact absurd (List.find?_eq_none.mp hf x hx) (by simp)
 | some u=>
  have h0:=List.find?_some hf
  have h1:u.1=x.1:=of_decide_eq_true h0
  rw[eu u (List.mem_of_find?_eq_some hf) x hx h1]
theorem lu {es:List En} (eu:∀ x ∈ es,∀ z ∈ es,x.1=z.1->x=z) {m:List (List Key×V)}{x z:En} (hx:x ∈ es) (hz:z ∈ es) :
  cb es (aV (aV m (kE x.2.1 x.2.2) (.ref z.1)) (kE z.2.1 z.2.2) (.ref x.1))=pB (cb es m) x z:=by
 have ke:∀ (n e:Int) (u:En),kE n e=kE u.2.1 u.2.2↔(n,e)=u.2:=fun n e u=>by
  constructor
  ·intro h
   injection h with h1 h2
   injection h2 with h2 _
   injection h1 with h1
   injection h2 with h2
   rw[h1,h2]
  ·intro h
   rw[<- h]
 funext n e
 unfold cb pB
 rw[bN,bN]
 by_cases c1:(n,e)=z.2
 ·rw[if_pos ((ke _ _ _).mpr c1),if_pos c1]
  show(es.find? fun u=>decide (u.1=x.1))=some x
  exact fe eu hx
 ·rw[if_neg (fun h=>c1 ((ke _ _ _).mp h)),if_neg c1]
  by_cases c2:(n,e)=x.2
  ·rw[if_pos ((ke _ _ _).mpr c2),if_pos c2]
   exact fe eu hz
  ·rw[if_neg (fun h=>c2 ((ke _ _ _).mp h)),if_neg c2]
theorem gv {es:List En}{m:List (List Key×V)}{n e:Int} (h:aD m (kE n e)=none):cb es m n e=none:=by unfold cb; rw[h]
theorem lf {κ:Type} [DecidableEq κ] {kvs:List (κ×V)}{k:κ}{v:V}{x:κ} (h:x ∈ (aV kvs k v).map (·.1)):x ∈ kvs.map (·.1)∨x=k:=by
 unfold aV at h
 split at h
 ·left
  rw[map_map] at h
  obtain⟨p,hp,e⟩:=mem_map.mp h
  refine mem_map.mpr ⟨p,hp,?_⟩
  rw[<- e]
  show p.1=(if p.1=k then(p.1,v) else p).1
  split <;> rfl
 ·rw[map_append,mem_append] at h
  rcases h with h | h
  ·exact .inl h
  ·right; simpa using h
theorem oe {ks:List Kd}{m:List (List Key×V)} (h:∀ k ∈ m.map (·.1),∃ p ∈ aU ks,k=kE p.1 p.2) {k0:List Key} (h0:∃ p ∈ aU ks,k0=kE p.1 p.2) (v:V):∀ k ∈ (aV m k0 v).map (·.1),∃ p ∈ aU ks,k=kE p.1 p.2:=fun k hk=>by
 rcases lf hk with hk | rfl
 ·exact h k hk
 ·exact h0
theorem rS {ks:List Kd} (hk:ks.length<=50) {p:Int×Int} (h:p ∈ aU ks):∃ n e:Nat,n<50/\e<3/\kE p.1 p.2=kE n e:=by
 obtain⟨i,k,e1,e2,e3,e4⟩:=b6 (n:=p.1) (e:=p.2) h
 have il:=(List.getElem?_eq_some_iff.mp e2).1
 have km:k.many<=3:=by cases k <;> decide
 refine⟨i,p.2.toNat,by omega,by omega,?_⟩
 rw[e1,show((p.2.toNat:Nat):Int)=p.2 by omega]
noncomputable def sp_Jx (C:Addr):Sp:=fun vs H Q _=>∃ (A:YA) (y:YR) (L:Kn) (kk d:Addr) (ks:List Kd) (ns rs ss ds:List Int) (a n:Int) (jk jd:Nat),vs=[.ref A.p,.ref kk,.ref d,.int a,.int n]/\Has H (yL C A y++L)/\Blt y ks ns rs ss/\L[jk]?=some (kk,.lst (ksV ks))/\L[jd]?=some (d,.lst (ds.map V.int))/\ks.length<=1000/\0<=a/\0<=n/\n<=10000/\a+2*n<=ds.length /\
 ∀ (H':Hp) (q mh:Addr) (m:List (List Key×V)) (es:List En),MIn es m->Wsym (cb es m)->es.map (·.2)=aU ks->m.length<=2*n.toNat->(∀ k ∈ m.map (·.1),∃ p ∈ aU ks,k=kE p.1 p.2)->Has H' (yL C { A with tr:=q } { y with mates:=m,trail:=[] }++((mh,.dT m)::(esK es++L)))->Q (.ref mh) H'
noncomputable def sp_Jy (C:Addr):Sp:=fun vs H Q _=>∃ (A:YA) (y:YR) (L:Kn) (sd d:Addr) (ss ds:List Int) (a:Int) (jd:Nat),vs=[.ref A.p,.ref sd,.ref d,.int a]/\Has H (yL C A y++((sd,.lst (ss.map V.int))::L))/\y.sides=ss.map V.int/\y.trail=[]/\L[jd]?=some (d,.lst (ds.map V.int))/\0<=a/\a+ss.length<=ds.length/\ss.length<=10000 /\
 ∀ (H':Hp) (q:Addr) (ss':List Int),ss'.length=ss.length->(∀ x ∈ ss',x=1∨x=2)->Has H' (yL C { A with tr:=q } { y with sides:=ss'.map V.int,trail:=[] }++((sd,.lst (ss'.map V.int))::L))->Q .non H'
noncomputable def mG:Sp:=fun vs H Q _=>∃ x:Int,vs=[.int x]/\∀ n:Int,0<=n->n<=40->Q (.int n) H
section
variable {P:Program}{w:World}{K:PySem.W.Frag}{mg:Str->Option Value}{base:Heap}{t:Adr}
theorem scLs:FnScope ["_law_draw"] ["_law_draw"] (ah ka):={}
theorem nJ (T:Txt K mg t):FnOk P w K mg base CX0 1 t.f_links t.d_links ["_law_draw"] mG:=by
 refine T.F_links.ok scLs (fun vs H Q E h=>?_) (fun cdv A outer s H vs Q E hr h=>?_)
 ·obtain⟨_,rfl,_⟩:=h
  rfl
 ·obtain⟨x,rfl,q⟩:=h
  refine⟨_,(ab (av (ai dj (aq aW (pv 0) ag) ag (aj _))
    (af (ao ag))
    ak)
   (af (ao (aq aW (aq bY (pv 0) ag) ag)))),?_⟩
  refine⟨_,U,_,_,U,U,(show(0:Int)<3 by decide),_,_,U,U,_,U,if2 (fun _=>?_) (fun _=>?_)⟩
  ·exact q 40 (by decide) (by decide)
  ·refine⟨_,U,_,_,U,U,⟨by decide,by decide⟩,_,_,U,U,(show(0:Int)<40 by decide),?_⟩
   have l0:=Int.emod_nonneg (x / 3) (show(40:Int)≠0 by decide)
   have l1:=Int.emod_lt_of_pos (x / 3) (show(0:Int)<40 by decide)
   exact q _ (by omega) (by omega)
theorem scLd:FnScope ["_law_yard","_law_kinds_here","_law_d","_law_at","_law_many_here","_law_free","_law_mates","_law_turn","_law_one","_law_other"] ["_law_yard","_law_kinds_here","_law_d","_law_at","_law_many_here"] (ah sC):={}
theorem ok_Jx (T:Txt K mg t):FnOk P w K mg base CX0 5 t.f_Jx t.d_Jx ["_law_yard","_law_kinds_here","_law_d","_law_at","_law_many_here"] (sp_Jx t.c_Yard):=by
 refine T.F_Jx.ok scLd (fun vs H Q E h=>?_) (fun cdv A outer s H vs Q E hr h=>?_)
 ·obtain⟨_,_,_,_,_,_,_,_,_,_,_,_,_,_,rfl,_⟩:=h
  rfl
 ·obtain⟨A,y,L,kk,d,ks,ns,rs,ss,ds,a,n,jk,jd,rfl,hH,B,hjk,hjd,kl,a0,n0,n1,hds,q⟩:=h
  have hu:=cn hr
  refine⟨_,(ab (am (i:=5) scLd.nd rfl (Or.inl rfl) (pcl (gX T) hr T.m_ends T.F_ends.kp (jV T) (aa (pv 1) ae)))
   (ab (am (i:=6) scLd.nd rfl (Or.inl rfl) iO)
   (ab (b9 PassesOwn.never rfl (bS (by rfl) T.z_range (aa (pv 4) ae)) (ar (i:=7) scLd.nd rfl (Or.inl rfl))
    (af (av (ai dj (aI aA (by rfl) T.z_len (by rfl) (aa (pv 5) ae)) ag (aj _))
      (ab (am (i:=8) scLd.nd rfl (Or.inl rfl) (bP PySem.F.plainAttrs_list PySem.F.slot_list_pop PySem.F.type_list_pop iW (pv 5) (aa (aq aW (aG aC (pv 2) (aq bf (pv 3) (aq cN ag (pv 7)))) (aI aA (by rfl) T.z_len (by rfl) (aa (pv 5) ae))) ae)))
       (ab (am (i:=9) scLd.nd rfl (Or.inl rfl) (bP PySem.F.plainAttrs_list PySem.F.slot_list_pop PySem.F.type_list_pop iW (pv 5) (aa (aq aW (aG aC (pv 2) (aq bf (aq bf (pv 3) (aq cN ag (pv 7))) ag)) (aI aA (by rfl) T.z_len (by rfl) (aa (pv 5) ae))) ae)))
       (ab (al (aK (pv 0) T.cl_Yard T.M_Jk (ok_Jk T) hr (b_Jk T) .nil aH (aa (pv 8) (aa (pv 9) ae))))
       (ab (cI hu (pv 6) (pv 8) (pv 9) rfl)
       (af (cI hu (pv 6) (pv 9) (pv 8) rfl))))))
      ak)))
   (af (ao (pv 6)))))),?_⟩
  refine⟨_,U,kk,ks,_,jk+9,U,hH,(by simpa [yL] using hjk),kl,fun H1 fl_ es hes h1=>?_⟩
  intro mh hmh
  have h2:Has (upd H1 mh (.dT [])) (yL t.c_Yard A y++((fl_,.lst (esV es))::(mh,.dT [])::(esK es++L))) :=
   Has.comm (X:=(fl_,.lst (esV es))::(mh,.dT [])::esK es) (Y:=yL t.c_Yard A y) (R:=L) (h1.alloc hmh (.dT [])).swap2
  generalize upd H1 mh _=H2 at h2 ⊢
  clear h1 hmh hH
  have emem:∀ x ∈ es,x.2 ∈ aU ks:=fun x hx=>by rw[<- hes]; exact mem_map.mpr ⟨x,hx,U⟩
  have enod:(es.map (·.2)).Nodup:=by rw[hes]; exact je ks
  have elen:es.length<=3000:=by have:=congrArg List.length hes; rw[length_map] at this; have:=jf ks; omega
  refine⟨_,U,_,U,by omega,by omega,bU (fun i σ H'=>∃ (q1:Addr) (m:List (List Key×V)) (fs:List En) (o1 o2 o3:Option V),MIn es m/\Wsym (cb es m)/\(∀ x ∈ fs,x ∈ es)/\(fs.map (·.2)).Nodup/\(∀ x ∈ fs,aD m (kE x.2.1 x.2.2)=none)/\m.length<=2*i/\fs.length<=3000/\(∀ k ∈ m.map (·.1),∃ p ∈ aU ks,k=kE p.1 p.2) /\
   σ=[some (.ref A.p),some (.ref kk),some (.ref d),some (.int a),some (.int n),some (.ref fl_),some (.ref mh),o1,o2,o3]/\Has H' (yL t.c_Yard { A with tr:=q1 } { y with mates:=m,trail:=[] }++((fl_,.lst (esV fs))::(mh,.dT m)::(esK es++L))))
   ⟨A.tr,[],es,_,_,_,MIn.nil es,(fun n e z h=>by cases h),fun _ h=>h,enod,fun _ _=>rfl,Nat.zero_le _,elen,(fun k hk=>(nomatch hk)),rfl,?_⟩ ?_ ?_⟩
  ·have e:({ y with mates:=[],trail:=[] }:YR)=y:=by rw[<- B.mt,<- B.tl]
   rw[e]; exact h2
  ·clear h2
   rintro i σ H2 hi ⟨q1,m,fs,o1,o2,o3,M,WS,fin,fnd,fno,ml,flen,ekm,rfl,h2⟩
   have gd:∀ {H:Hp}{A1:YA}{y1:YR}{f1 m1:HO},Has H (yL t.c_Yard A1 y1++((fl_,f1)::(mh,m1)::(esK es++L)))->SqL K H d (ds.map V.int):=fun {H A1 y1 f1 m1} h=>SqL.of (h.get (es.length+jd+11) (by
    show(esK es++L)[es.length+jd]?=_
    have e:(esK es).length=es.length:=by unfold esK; rw[length_map]
    rw[getElem?_append_right (by omega),show es.length+jd - (esK es).length=jd by omega]
    exact hjd))
   have gs:∀ {H:Hp}{A1:YA}{y1:YR}{f1 m1:HO},Has H (yL t.c_Yard A1 y1++((fl_,f1)::(mh,m1)::(esK es++L)))->∀ x ∈ es,H x.1=some (.tup [.int x.2.1,.int x.2.2]):=fun {H A1 y1 f1 m1} h x hx=>by
    obtain⟨j,hj⟩:=List.mem_iff_getElem?.mp hx
    exact h.get (j+11) (ff L hj)
   have evl:∀ l:List En,(esV l).length=l.length:=fun l=>by unfold esV; rw[length_map]
   have evx:∀ (l:List En) (k:Nat),(esV l).eraseIdx k=esV (l.eraseIdx k):=fun l k=>by unfold esV; rw[dw]
   refine⟨_,U,fl_,_,U,.inl (SqL.of (h2.get 9 U)),_,_,U,U,_,U,if2 (fun hc=>?_) (fun hc=>?_)⟩
   ·have f2:1<fs.length:=by
     have:=of_decide_eq_true hc
     rw[evl] at this
     omega
    obtain⟨k1,k1l,k1e,k1s,k1a,k1b⟩:=iI (n:=fs.length) (x:=ds.getD (a+2*(0+(i:Int))).toNat 0) (by omega)
    refine⟨_,U,.inl ⟨U,_,SqL.of (h2.get 9 U)⟩,?_⟩
    refine⟨_,U,_,U,_,U,_,_,U,U,(.inl ⟨by decide,by decide⟩),_,_,U,U,d,_,_,_,U,U,gd h2,atD (by omega) (by omega),_,U,fl_,_,U,.inl (SqL.of (h2.get 9 U)),_,_,U,U,(show(0:Int)<((esV fs).length:Int) by rw[evl]; omega),?_⟩
    rw[evl]
    refine⟨fl_,_,_,k1,.ref (fs[k1]).1,U,U,h2.get 9 U,k1a,k1b (by omega),(by rw[evl]; exact k1s),ig (getElem?_eq_getElem k1l),?_⟩
    rw[evx]
    have h3:=h2.puti 9 U (.lst (esV (fs.eraseIdx k1)))
    generalize upd H2 fl_ _=H3 at h3 ⊢
    have pm1:=cs fs k1 k1l
    have l1:(fs.eraseIdx k1).length=fs.length - 1:=List.length_eraseIdx_of_lt k1l
    generalize hx:fs[k1]=x at *
    have nd1:(x.2::(fs.eraseIdx k1).map (·.2)).Nodup:=(pm1.map (fun x:En=>x.2)).nodup_iff.mpr fnd
    have xin:x ∈ fs:=by rw[<- hx]; exact List.getElem_mem _
    have sub1:∀ z ∈ fs.eraseIdx k1,z ∈ fs:=fun z hz=>List.mem_of_mem_eraseIdx hz
    generalize fs.eraseIdx k1=fs1 at *
    obtain⟨k2,k2l,k2e,k2s,k2a,k2b⟩:=iI (n:=fs1.length) (x:=ds.getD (a+2*(0+(i:Int))+1).toNat 0) (by omega)
    refine⟨_,U,.inl ⟨U,_,SqL.of (h3.get 9 U)⟩,?_⟩
    refine⟨_,U,_,U,_,U,_,_,U,U,(.inl ⟨by decide,by decide⟩),_,_,U,U,_,_,U,U,d,_,_,_,U,U,gd h3,atD (by omega) (by omega),_,U,fl_,_,U,.inl (SqL.of (h3.get 9 U)),_,_,U,U,(show(0:Int)<((esV fs1).length:Int) by rw[evl]; omega),?_⟩
    rw[evl]
    refine⟨fl_,_,_,k2,.ref (fs1[k2]).1,U,U,h3.get 9 U,k2a,k2b (by omega),(by rw[evl]; exact k2s),ig (getElem?_eq_getElem k2l),?_⟩
    rw[evx]
    have h4:=h3.puti 9 U (.lst (esV (fs1.eraseIdx k2)))
    generalize upd H3 fl_ _=H4 at h4 ⊢
    have pm2:=cs fs1 k2 k2l
    have l2:(fs1.eraseIdx k2).length=fs1.length - 1:=List.length_eraseIdx_of_lt k2l
    generalize hz:fs1[k2]=z at *
    rw[List.nodup_cons] at nd1
    have nd2:(z.2::(fs1.eraseIdx k2).map (·.2)).Nodup:=(pm2.map (fun x:En=>x.2)).nodup_iff.mpr nd1.2
    have zin:z ∈ fs1:=by rw[<- hz]; exact List.getElem_mem _
    have sub2:∀ z ∈ fs1.eraseIdx k2,z ∈ fs1:=fun z hz=>List.mem_of_mem_eraseIdx hz
    generalize fs1.eraseIdx k2=fs2 at *
    rw[List.nodup_cons] at nd2
    have kne:∀ {u v:En},¬ u.2=v.2->¬ kE u.2.1 u.2.2=kE v.2.1 v.2.2:=fun {u v} c e=>c (by
     injection e with e1 e2
     injection e2 with e2 _
     injection e1 with e1
     injection e2 with e2
     exact Prod.ext e1 e2)
    have xe:=fin x xin
    have ze:=fin z (sub1 z zin)
    have xz:¬ x.2=z.2:=fun e=>nd1.1 (by rw[e]; exact mem_map.mpr ⟨z,zin,U⟩)
    obtain⟨ix,hix⟩:=List.mem_iff_getElem?.mp xe
    obtain⟨iz,hiz⟩:=List.mem_iff_getElem?.mp ze
    refine⟨_,U,A.p,A.dx,_,U,h4.get 1 U,(dv _ _ _).2.2.1,_,U,_,U,{ A with tr:=q1 },_,_,x.1,z.1,x.2.1,x.2.2,z.2.1,z.2.2,ix+2,iz+2,U,h4,ff _ hix,ff _ hiz,fS B rfl (emem x xe),fS B rfl (emem z ze),kne xz,fno x xin,fno z (sub1 z zin),(show m.length<=30000 by omega),fun H5 q5 h5=>?_⟩
    refine⟨_,U,_,U,_,U,mh,_,U,DPut.t (k:=kE x.2.1 x.2.2) (h5.get 10 U) (gs h5 x xe) (aB (by omega)),?_⟩
    have h6:=h5.puti 10 U (.dT (aV m (kE x.2.1 x.2.2) (.ref z.1)))
    refine⟨_,U,_,U,_,U,mh,_,U,DPut.t (k:=kE z.2.1 z.2.2) (h6.get 10 U) (gs h6 z ze) (aB (Nat.le_trans (bu _ _ _) (by omega))),?_⟩
    have h7:=h6.puti 10 U (.dT (aV (aV m (kE x.2.1 x.2.2) (.ref z.1)) (kE z.2.1 z.2.2) (.ref x.1)))
    have eu:∀ x ∈ es,∀ z ∈ es,x.1=z.1->x=z:=fun u hu v hv e=>by
     have g1:=gs h5 u hu
     rw[e,gs h5 v hv] at g1
     have g2:=Option.some.inj g1
     injection g2 with g2
     injection g2 with g3 g4
     injection g4 with g4 _
     injection g3 with g3
     injection g4 with g4
     exact Prod.ext e (Prod.ext g3.symm g4.symm)
    refine⟨q5,_,fs2,_,_,_,(M.put ze _).put xe _,(by rw[lu eu xe ze]; exact WS.link (gv (fno x xin)) (gv (fno z (sub1 z zin))) xz),fun u hu=>fin u (sub1 u (sub2 u hu)),nd2.2,fun u hu=>?_,?_,by omega,(oe (oe ekm ⟨_,emem x xe,U⟩ _) ⟨_,emem z ze,U⟩ _),U,h7⟩
    ·rw[bN,if_neg (kne (fun e=>nd2.1 (by rw[<- e]; exact mem_map.mpr ⟨u,hu,U⟩))),bN,if_neg (kne (fun e=>nd1.1 (by rw[<- e]; exact mem_map.mpr ⟨u,sub2 u hu,U⟩)))]
     exact fno u (sub1 u (sub2 u hu))
    ·have b1:=bu m (kE x.2.1 x.2.2) (.ref z.1)
     have b2:=bu (aV m (kE x.2.1 x.2.2) (.ref z.1)) (kE z.2.1 z.2.2) (.ref x.1)
     omega
   ·exact⟨q1,m,fs,_,_,_,M,WS,fin,fnd,fno,by omega,flen,ekm,U,h2⟩
  ·rintro σ H2 ⟨q1,m,fs,o1,o2,o3,M,WS,fin,fnd,fno,ml,flen,ekm,rfl,h2⟩
   refine⟨_,U,q _ q1 mh m es M WS hes ml ekm ?_⟩
   exact(Has.comm (X:=yL t.c_Yard { A with tr:=q1 } { y with mates:=m,trail:=[] }) (Y:=[(fl_,.lst (esV fs))]) (R:=(mh,.dT m)::(esK es++L)) h2).tail
theorem scTw:FnScope ["_law_yard","_law_sides","_law_d","_law_at","_law_rod"] ["_law_yard","_law_sides","_law_d","_law_at"] (ah sB):={}
theorem ok_Jy (T:Txt K mg t):FnOk P w K mg base CX0 5 t.f_Jy t.d_Jy ["_law_yard","_law_sides","_law_d","_law_at"] (sp_Jy t.c_Yard):=by
 refine T.F_Jy.ok scTw (fun vs H Q E h=>?_) (fun cdv A outer s H vs Q E hr h=>?_)
 ·obtain⟨_,_,_,_,_,_,_,_,_,rfl,_⟩:=h
  rfl
 ·obtain⟨A,y,L,sd,d,ss,ds,a,jd,rfl,hH,hsd,htr,hjd,a0,hds,sl,q⟩:=h
  refine⟨_,(af (b9 PassesOwn.never rfl (bS (by rfl) T.z_range (aa (aI aA (by rfl) T.z_len (by rfl) (aa (pv 1) ae)) ae)) (ar (i:=4) scTw.nd rfl (Or.inl rfl))
    (ab (bO (aq bf ag (aq aW (aG aC (pv 2) (aq bf (pv 3) (pv 4))) ag)) (fu (pv 1) (pv 4) cS))
     (af (al (aK (pv 0) T.cl_Yard T.M_Jd (qB T) hr (tS T) .nil aH (aa (pv 4) (aa (aG aC (pv 1) (pv 4)) ae)))))))),?_⟩
  have gd:∀ {H:Hp}{A1:YA}{y1:YR}{x1:HO},Has H (yL t.c_Yard A1 y1++((sd,x1)::L))->SqL K H d (ds.map V.int):=fun {H A1 y1 x1} h=>SqL.of (h.get (jd+10) (by simpa [yL] using hjd))
  refine⟨_,U,sd,_,U,.inl (SqL.of (hH.get 9 U)),_,U,by omega,by rw[length_map]; omega,bU (fun i σ H'=>∃ (q1:Addr) (s1:List Int) (o1:Option V),s1.length=ss.length/\(∀ j,j<i->∀ x,s1[j]?=some x->x=1∨x=2)/\σ=[some (.ref A.p),some (.ref sd),some (.ref d),some (.int a),o1] /\
   Has H' (yL t.c_Yard { A with tr:=q1 } { y with sides:=s1.map V.int,trail:=[] }++((sd,.lst (s1.map V.int))::L))) ⟨A.tr,ss,_,U,fun j hj=>absurd hj (Nat.not_lt_zero _),U,?_⟩ ?_ ?_⟩
  ·have e:({ y with sides:=ss.map V.int,trail:=[] }:YR)=y:=by rw[<- hsd,<- htr]
   rw[e]; exact hH
  ·rintro i σ H1 hi ⟨q1,s1,o1,l1,hs,rfl,h1⟩
   have hi':i<s1.length:=by rw[l1]; rw[length_map] at hi; omega
   refine⟨_,U,_,U,_,U,_,_,U,U,d,_,_,_,U,U,gd h1,atD (by omega) (by rw[length_map] at hi; omega),_,_,U,U,(show(0:Int)<2 by decide),_,_,U,U,?_⟩
   dsimp only
   have b0:=Int.emod_nonneg (ds.getD (a+(0+(i:Int))).toNat 0) (show(2:Int)≠0 by decide)
   have b1:=Int.emod_lt_of_pos (ds.getD (a+(0+(i:Int))).toNat 0) (show(0:Int)<2 by decide)
   generalize ds.getD (a+(0+(i:Int))).toNat 0 % 2=b at b0 b1 ⊢
   have hz:1+b=1∨1+b=2:=by omega
   have ejx:ixN (s1.map V.int).length (0+(i:Int))=some i:=by unfold ixN; rw[length_map,if_pos (by omega),if_pos (by omega)]; congr 1; omega
   refine⟨_,U,_,U,sd,_,_,_,U,U,h1.get 9 U,ejx,?_⟩
   have h2:=h1.puti 9 U (.lst ((s1.map V.int).set i (.int (1+b))))
   have ga:atI ((s1.map V.int).set i (.int (1+b))) (0+(i:Int))=some (.int (1+b)):=by
    rw[show 0+(i:Int)=((i:Nat):Int) by omega]
    exact aY (by rw[List.getElem?_set_self (by rw[length_map]; exact hi')])
   refine⟨_,U,A.p,A.dx,_,U,h2.get 1 U,(b5 _ _ _).2.2.1,_,U,_,U,_,U,sd,_,_,_,U,U,SqL.of (h2.get 9 U),ga,{ A with tr:=q1 },_,_,0+(i:Int),1+b,U,h2,by omega,(show 0+(i:Int)<((s1.map V.int).length:Int) by rw[length_map]; omega),hz,fun H3 q3 h3=>?_⟩
   refine⟨q3,s1.set i (1+b),_,by rw[List.length_set]; exact l1,fun j hj x hx=>?_,U,?_⟩
   ·by_cases c:j=i
    ·subst c
     rw[List.getElem?_set_self hi'] at hx
     cases hx
     exact hz
    ·rw[List.getElem?_set_ne (fun e=>c e.symm)] at hx
     exact hs j (by omega) x hx
   ·rw[List.map_set]
    rw[show(0+(i:Int)).toNat=i by omega] at h3
    exact h3
  ·rintro σ H1 ⟨q1,s1,o1,l1,hs,rfl,h1⟩
   refine q _ q1 s1 l1 (fun x hx=>?_) h1
   obtain⟨j,hj⟩:=List.mem_iff_getElem?.mp hx
   exact hs j (by have:=(List.getElem?_eq_some_iff.mp hj).1; rw[length_map]; omega) x hj
end
noncomputable def sp_Jw:Sp:=fun vs H Q _=>∃ (k:Kd) (e s:Int),vs=[.str k.str,.int e,.int s]/\0<=e/\e<k.many/\∀ p,H p=none->Q (.ref p) (upd H p (.tup [k.out e s,.int (k.side e s)]))
section
variable {P:Program}{w:World}{K:PySem.W.Frag}{mg:Str->Option Value}{base:Heap}{t:Adr}
theorem scPs:FnScope ["_law_kind_here","_law_place","_law_side"] ["_law_kind_here","_law_place","_law_side"] (ah sD):={}
theorem qq (T:Txt K mg t):FnOk P w K mg base CX0 1 t.f_Jw t.d_Jw ["_law_kind_here","_law_place","_law_side"] sp_Jw:=by
 refine T.F_Jw.ok scPs (fun vs H Q E h=>?_) (fun cdv A outer s H vs Q E hr h=>?_)
 ·obtain⟨_,_,_,rfl,_⟩:=h
  rfl
 ·obtain⟨k,e,z,rfl,e0,e1,q⟩:=h
  have two:2<=sizeLine:=by decide
  refine⟨_,(ab (av (ai br (pv 0) aF (aj _))
    (af (ao (aO (aa bn (aa (pv 2) ae)))))
    ak)
   (ab (av (PW.pt (dM (ai br (pv 0) aF (aj _)) (dC (ai br (pv 0) aF (aj _)))))
    (af (ao (aO (aa (aq cM ag (pv 1)) (aa (pv 2) ae)))))
    ak)
   (ab (av (PW.pt (cT (ai dj (pv 1) ag (aj _)) (cv (ai br (pv 0) aF (aj _)))))
    (af (ao (aO (aa ag (aa (pv 1) ae)))))
    ak)
   (ab (av (ai dj (pv 1) ag (aj _))
    (af (ao (aO (aa ag (aa (pv 2) ae)))))
    ak)
   (ab (av (ai br (pv 0) aF (aj _))
    (af (ao (aO (aa (pv 2) (aa (aq cM ag (pv 2)) ae)))))
    ak)
   (af (ao (aO (aa (pv 2) (aa (pv 2) ae)))))))))),?_⟩
  refine⟨_,U,U,_,U,?_⟩
  rw[k.isStop]
  refine ifd (fun h=>?_) (fun h1=>?_)
  ·subst h; exact⟨_,U,two,fun p hp=>q p hp⟩
  have np:k.point=false->∀ p,H p=none->Q (.ref p) (upd H p (.tup [.int (1 - e),.int z])):=fun hk p hp=>by
   have:=q p hp
   unfold Kd.out Kd.side at this
   rw[if_neg h1,if_neg (by rw[hk]; exact Bool.false_ne_true),if_neg (by rw[hk]; exact Bool.false_ne_true)] at this
   exact this
  refine⟨_,U,U,_,U,?_⟩
  rw[k.isLine]
  refine ifd (fun h=>dE ?_) (fun h2=>?_)
  ·subst h; exact⟨_,U,_,_,U,U,_,U,two,np rfl⟩
  refine⟨_,U,U,_,U,?_⟩
  rw[k.isBell]
  refine ifd (fun h=>?_) (fun h3=>?_)
  ·subst h; exact⟨_,U,_,_,U,U,_,U,two,np rfl⟩
  have hk:k.point=true:=by cases k <;> first | rfl | contradiction
  have q':∀ p,H p=none->Q (.ref p) (upd H p (.tup [if e=0 then .int z else .int 0,.int (if e=0 then(if k=.turning then 3 - z else z) else(if k=.lazy then e else z))])):=fun p hp=>by
   have:=q p hp
   rw[Kd.out_point hk] at this
   unfold Kd.side at this
   rw[if_pos hk] at this
   exact this
  refine⟨_,U,_,_,U,U,_,U,?_⟩
  refine ifd (fun hp=>?_) (fun hp=>?_)
  ·have he:¬ e=0:=by omega
   rw[if_neg he] at q'
   refine⟨_,U,U,_,U,?_⟩
   rw[k.isLazy]
   refine ifd (fun h=>?_) (fun h=>?_)
   ·rw[if_neg he,if_pos h] at q'
    exact⟨_,U,two,q'⟩
   ·rw[if_neg he,if_neg h] at q'
    refine⟨_,U,_,_,U,U,_,U,ifT (decide_eq_true (by omega)) ?_⟩
    exact⟨_,U,two,q'⟩
  ·have he:e=0:=by omega
   rw[if_pos he,if_pos he] at q'
   refine bT ?_
   refine⟨_,U,_,_,U,U,_,U,ifF (decide_eq_false (by omega)) ?_⟩
   refine⟨_,U,U,_,U,?_⟩
   rw[k.isTurning]
   refine ifd (fun h=>?_) (fun h=>?_)
   ·rw[if_pos h] at q'
    exact⟨_,U,_,U,_,_,U,U,two,q'⟩
   ·rw[if_neg h] at q'
    exact⟨_,U,_,U,two,q'⟩
end
structure Lw (W:Wd) (ks:List Kd) (ns rs:List Int) (m:List (List Key×V)):Prop where
 kf:∀ n k,W.kf n=some k->∃ i:Nat,n=i/\ks[i]?=some k
 nf:∀ i:Nat,W.nf i=ns.getD i 0
 rf:∀ i:Nat,W.rf i=rs.getD i 0
 nl:ns.length=ks.length
 rl:rs.length=ks.length
 rn:∀ (i:Nat) k,ks[i]?=some k->(k.point=true↔0<=rs.getD i 0)
 mt:∀ n e,aD m (kE n e)=(W.mf n e).map fun z=>V.ref z.1
structure Okw (W:Wd) (s:Sd):Prop where
 rr:∀ n k,W.kf n=some k->k.point=true->0<=W.rf n/\W.rf n<s.ss.length
 s12:∀ x ∈ s.ss,x=1∨x=2
 mo:∀ n e z,W.mf n e=some z->W.ok z
 eo:∀ z,s.at_=some z->W.ok z
theorem Rep.okw {W:Wd}{s:Sd}{y:YR} (R:Rep W s y):Okw W s:=⟨R.rr,R.s12,R.mo,R.eo⟩
theorem Okw.s1 {w:Wd}{s:Sd} (R:Okw w s) {n:Int}{k:Kd} (hk:w.kf n=some k) (hp:k.point=true):w.sv s n=1∨w.sv s n=2:=by
 obtain⟨h0,h1⟩:=R.rr n k hk hp
 refine R.s12 _ ?_
 unfold Wd.sv
 rw[List.getD_eq_getElem?_getD,getElem?_eq_getElem (by omega)]
 exact List.getElem_mem _
theorem Okw.step {w:Wd}{s:Sd}{z:En}{k:Kd}{z':En}{o:Int} (R:Okw w s) (hz:s.at_=some z) (hk:w.kf z.2.1=some k) (hm:w.mf z.2.1 o=some z'):Okw w (aL w s z k z'):=by
 have hl:(aL w s z k z').ss.length=s.ss.length:=by
  unfold aL; dsimp only; split
  ·exact List.length_set
  ·rfl
 refine⟨fun n k h1 h2=>by rw[hl]; exact R.rr n k h1 h2,fun x hx=>?_,R.mo,fun u hu=>?_⟩
 ·unfold aL at hx
  dsimp only at hx
  split at hx
  ·rename_i hp
   rcases List.mem_or_eq_of_mem_set hx with hx | hx
   ·exact R.s12 x hx
   ·obtain⟨k',h1,h2,h3⟩:=R.eo z hz
    rw[hk] at h1
    cases h1
    rw[hx]
    exact Kd.side12 h2 h3 (R.s1 hk hp)
  ·exact R.s12 x hx
 ·rw[cD] at hu
  cases hu
  exact R.mo _ _ _ hm
theorem c9 {ks:List Kd}{i:Nat}{k:Kd} (h:ks[i]?=some k):(ksV ks)[i]?=some (.str k.str):=by unfold ksV; rw[getElem?_map,h]; rfl
theorem cr {l:List Int}{i:Nat} (h:i<l.length):(l.map V.int)[i]?=some (.int (l.getD i 0)):=by
 rw[getElem?_map,getElem?_eq_getElem h]; simp[List.getD,getElem?_eq_getElem h]
noncomputable def jX (sd gg kk nn rr mh:Addr) (R:Kn) (W:Wd) (s:Sd) (m:Int) (r:Nat) (σ:St) (H:Hp):Prop :=
 ∃ (i:Nat) (s1:Sd) (o1 o2 o3 o4 o5:Option V),r=m.toNat - i/\i<=m.toNat/\σ=[some (.ref kk),some (.ref nn),some (.ref rr),some (.ref sd),some (.ref mh),some (.ref gg),some (enV s1.at_),some (.int m),some (.int i),o1,o2,o3,o4,o5] /\
  Has H ((sd,.lst (s1.ss.map V.int))::(gg,.lst (s1.rg.map V.int))::R)/\Okw W s1/\Pool W s1 R/\W.go m.toNat s=W.go (m.toNat - i) s1/\(W.hist m.toNat s).length=i+(W.hist (m.toNat - i) s1).length/\s1.rg.length<=s.rg.length+i
noncomputable def oF:Sp:=fun vs H Q _=>∃ (sd gg kk nn rr mh:Addr) (R:Kn) (W:Wd) (s:Sd) (m:Int) (ks:List Kd) (ns rs:List Int) (dm:List (List Key×V)) (jk jn jr jm:Nat),vs=[.ref kk,.ref nn,.ref rr,.ref sd,.ref mh,.ref gg,enV s.at_,.int m] /\
 Has H ((sd,.lst (s.ss.map V.int))::(gg,.lst (s.rg.map V.int))::R)/\Lw W ks ns rs dm/\Okw W s/\Pool W s R/\R[jk]?=some (kk,.lst (ksV ks))/\R[jn]?=some (nn,.lst (ns.map V.int))/\R[jr]?=some (rr,.lst (rs.map V.int))/\R[jm]?=some (mh,.dT dm)/\s.rg.length+m<=900000 /\
 ∀ H' tp,Has H' ((tp,.tup [enV (W.go m.toNat s).at_,.int (W.hist m.toNat s).length])::(sd,.lst ((W.go m.toNat s).ss.map V.int))::(gg,.lst ((W.go m.toNat s).rg.map V.int))::R)->Okw W (W.go m.toNat s)->Pool W (W.go m.toNat s) R->(W.go m.toNat s).rg.length<=s.rg.length+m.toNat->Q (.ref tp) H'
section
variable {P:Program}{w:World}{K:PySem.W.Frag}{mg:Str->Option Value}{base:Heap}{t:Adr}
theorem scWk:FnScope ["_law_kinds_here","_law_notes","_law_rods","_law_sides","_law_mates","_law_rung","_law_at","_law_most","_law_done","_law_piece","_law_place","_law_side","_law_out","_law_behind"] ["_law_kinds_here","_law_notes","_law_rods","_law_sides","_law_mates","_law_rung","_law_at","_law_most"] (ah mQ):={}
theorem gU (T:Txt K mg t):FnOk P w K mg base CX0 3 t.f_walk t.d_walk ["_law_kinds_here","_law_notes","_law_rods","_law_sides","_law_mates","_law_rung","_law_at","_law_most"] oF:=by
 refine T.F_walk.ok scWk (fun vs H Q E h=>?_) (fun cdv A outer s H vs Q E hr h=>?_)
 ·obtain⟨_,_,_,_,_,_,_,_,_,_,_,_,_,_,_,_,_,_,rfl,_⟩:=h
  rfl
 ·obtain⟨sd,gg,kk,nn,rr,mh,R,W,s0,m,ks,ns,rs,dm,jk,jn,jr,jm,rfl,hH,lw,O,PL,hjk,hjn,hjr,hjm,bd,q⟩:=h
  have hu:=cn hr
  refine⟨_,(ab (am (i:=8) scWk.nd rfl (Or.inl rfl) ag)
   (ab (cm PassesOwn.never (PW.pt (cT (ai cW (pv 8) (pv 7) (aj _)) (cv (ai dN (pv 6) bn (aj _)))))
    (ab (bO (pv 6) (cA rfl (az (ar (i:=9) scWk.nd rfl (Or.inl rfl)) (az (ar (i:=10) scWk.nd rfl (Or.inl rfl)) bX))))
     (ab (am (i:=11) scWk.nd rfl (Or.inl rfl) ag)
     (ab (av (ai iS (aG aC (pv 2) (pv 9)) ag (aj _))
      (af (am (i:=11) scWk.nd rfl (Or.inl rfl) (aG aC (pv 3) (aG aC (pv 2) (pv 9) (fun _ _=>rfl)))))
      ak)
     (ab (bO (pcl (qq T) hr T.m_Jw T.F_Jw.kp (tI T) (aa (aG aC (pv 0) (pv 9)) (aa (pv 10) (aa (pv 11) ae)))) (cA rfl (az (ar (i:=12) scWk.nd rfl (Or.inl rfl)) (az (ar (i:=13) scWk.nd rfl (Or.inl rfl)) bX))))
     (ab (av (cU (jG hu (aO (aa (pv 9) (aa (pv 12) ae))) (pv 4)))
      (af (ao (aO (aa (pv 6) (aa (pv 8) ae)))))
      ak)
     (ab (av (ai iS (aG aC (pv 2) (pv 9)) ag (aj _))
      (af (bO (pv 13) (fu (pv 3) (aG aC (pv 2) (pv 9)) cS)))
      ak)
     (ab (av (ai br (aG aC (pv 0) (pv 9)) aF (aj _))
      (af (al (bP PySem.F.plainAttrs_list PySem.F.slot_list_append PySem.F.type_list_append aR (pv 5) (aa (aG aC (pv 1) (pv 9)) ae))))
      ak)
     (ab (am (i:=6) scWk.nd rfl (Or.inl rfl) (cK hu (pv 4) (aO (aa (pv 9) (aa (pv 12) ae)))))
     (af (am (i:=8) scWk.nd rfl (Or.inl rfl) (aq bf (pv 8) ag))))))))))))
   (af (ao (aO (aa (pv 6) (aa (pv 8) ae))))))),?_⟩
  refine⟨jX sd gg kk nn rr mh R W s0 m,⟨_,0,s0,_,_,_,_,_,U,Nat.zero_le _,U,hH,O,PL,U,by simp,Nat.le_refl _⟩,?_⟩
  rintro r σ H1 ⟨i,s1,o1,o2,o3,o4,o5,rfl,im,rfl,h1,O1,P1,eg,eh,rg⟩
  have fin:∀ (H2:Hp),Has H2 ((sd,.lst (s1.ss.map V.int))::(gg,.lst (s1.rg.map V.int))::R)->W.go (m.toNat - i) s1=s1->(W.hist (m.toNat - i) s1).length=0->∀ p,H2 p=none->Q (.ref p) (upd H2 p (.tup [enV s1.at_,.int i])):=fun H2 h2 e1 e2 p hp=>by
   rw[e1] at eg
   rw[e2] at eh
   refine q _ p ?_ (by rw[eg]; exact O1) (by rw[eg]; exact P1) (by rw[eg]; omega)
   rw[eg,eh]
   exact h2.alloc hp _
  refine⟨_,U,_,U,_,_,U,U,_,U,if2 (fun hc=>?_) (fun hc=>bT ?_)⟩
  ·have hlt:(i:Int)<m:=of_decide_eq_true hc
   refine⟨_,U,U,_,U,?_⟩
   cases hz:s1.at_ with
   | none=>
    refine bT ?_
    have hn:=(cC (w:=W) hz).1
    rw[hz] at fin
    exact⟨_,U,_,U,(show 2<=sizeLine by decide),fun p hp=>fin _ h1 (bh W hn _) (by rw[ba W hn]; rfl) p hp⟩
   | some z=>
    obtain⟨zb,zn,ze⟩:=z
    obtain⟨j,hj⟩:=P1.e _ hz
    obtain⟨k,hk,e0,e1⟩:=O1.eo _ hz
    obtain⟨i0,ei,hki⟩:=lw.kf _ _ hk
    dsimp only at ei e0 e1 hj hk
    subst ei
    have il:i0<ks.length:=(List.getElem?_eq_some_iff.mp hki).1
    refine dE ⟨fun σ' H'=>∃ r',r'<m.toNat - i/\jX sd gg kk nn rr mh R W s0 m r' σ' H',fun _ _ h=>h,?_⟩
    refine⟨_,U,zb,_,U,SqT.of (h1.get (j+2) hj),U,_,_,U,_,_,U,U,?_⟩
    have grr:∀ {H:Hp}{x1 x2:HO},Has H ((sd,x1)::(gg,x2)::R)->SqL K H rr (rs.map V.int):=fun {H x1 x2} h=>SqL.of (h.get (jr+2) hjr)
    have ari:atI (rs.map V.int) (i0:Int)=some (.int (rs.getD i0 0)):=aY (cr (show i0<rs.length by rw[lw.rl]; exact il))
    refine⟨_,U,_,U,rr,_,_,_,U,U,grr h1,ari,_,_,U,U,_,U,if2 (fun hr0=>?_) (fun hr0=>?_)⟩
    ·have r0:0<=rs.getD i0 0:=of_decide_eq_true hr0
     have hp:k.point=true:=(lw.rn i0 k hki).mpr r0
     have rr1:=O1.rr _ _ hk hp
     rw[lw.rf] at rr1
     have esv:W.sv s1 (i0:Int)=s1.ss.getD (rs.getD i0 0).toNat 0:=by unfold Wd.sv; rw[lw.rf]
     have asd:atI (s1.ss.map V.int) (rs.getD i0 0)=some (.int (W.sv s1 (i0:Int))):=by
      rw[show rs.getD i0 0=(((rs.getD i0 0).toNat:Nat):Int) by omega,esv]
      exact aY (by rw[cr (by omega)])
     refine⟨_,U,_,U,_,U,rr,_,_,_,U,U,grr h1,ari,sd,_,_,_,U,U,SqL.of (h1.get 0 U),asd,?_⟩
     refine⟨_,U,_,U,kk,_,_,_,U,U,SqL.of (h1.get (jk+2) hjk),aY (c9 hki),_,U,_,U,k,ze,(W.sv s1 (i0:Int)),U,e0,e1,fun p hp1=>?_⟩
     have eo:k.out ze (W.sv s1 (i0:Int))=k.out ze (W.sv s1 (i0:Int)):=rfl
     have h2:=h1.alloc hp1 (.tup [k.out ze (W.sv s1 (i0:Int)),.int (k.side ze (W.sv s1 (i0:Int)))])
     refine⟨p,_,U,SqT.of (h2.get 0 U),U,_,_,U,_,_,U,U,?_⟩
     replace h2:=h2.tail
     generalize upd H1 p _=H2 at h2 ⊢
     rw[eo]
     refine⟨_,U,_,U,(show 2<=sizeLine by decide),fun b hb=>?_⟩
     have h3:=h2.alloc hb (.tup [.int (i0:Int),k.out ze (W.sv s1 (i0:Int))])
     have hcase:(W.nx s1=none/\kU (upd H2 b (.tup [.int (i0:Int),k.out ze (W.sv s1 (i0:Int))])) mh (.ref b) none)∨∃ (o:Int) (z':En),k.out ze (W.sv s1 (i0:Int))=.int o/\W.mf (i0:Int) o=some z':=by
      by_cases c:k.out ze (W.sv s1 (i0:Int))=.non
      ·refine .inl ⟨(bJ hz hk c).1,.inr ⟨_,(i0:Int),b,.inl (h3.get (jm+3) hjm),U,?_,U⟩⟩
       rw[c]; exact bx
      ·obtain⟨o,ho⟩:=Kd.out_int (k:=k) (fun e=>c (by unfold Kd.out; rw[if_pos e])) ze (W.sv s1 (i0:Int))
       cases hm:W.mf (i0:Int) o with
       | none=>
        refine .inl ⟨(bA hz hk ho hm).1,.inl ?_⟩
        have:=DGet.t (k:=kE (i0:Int) o) (h3.get (jm+3) hjm) (by rw[ho]; exact bx)
        rw[lw.mt,hm] at this
        exact this
       | some z'=>exact .inr ⟨o,z',ho,hm⟩
     rcases hcase with ⟨hn,hg⟩ | ⟨o,z',ho,hm⟩
     ·refine⟨_,U,mh,none,U,hg,_,U,dE ?_⟩
      rw[hz] at fin
      exact⟨_,U,_,U,(show 2<=sizeLine by decide),fun p hp=>fin _ h3.tail (bh W hn _) (by rw[ba W hn]; rfl) p hp⟩
     have hn:=dk hz hk ho hm
     have vm:aD dm (kE (i0:Int) o)=some (.ref z'.1):=by rw[lw.mt,hm]; rfl
     rw[ho] at h3 ⊢
     refine⟨_,U,mh,_,U,.inl (DGet.t (k:=kE (i0:Int) o) (h3.get (jm+3) hjm) (h3.get 0 U)),_,U,ifF (by rw[vm]; rfl) ?_⟩
     have h4:=h3.tail
     generalize upd H2 b _=H4 at h4 ⊢
     clear h3 h2 hb
     refine⟨_,U,_,U,rr,_,_,_,U,U,grr h4,ari,_,_,U,U,_,U,ifT hr0 ?_⟩
     have ejx:ixN (s1.ss.map V.int).length (rs.getD i0 0)=some (rs.getD i0 0).toNat:=by unfold ixN; rw[length_map,if_pos r0,if_pos (by omega)]
     refine⟨_,U,_,U,_,U,_,U,rr,_,_,_,U,U,grr h4,ari,sd,_,_,_,U,U,h4.get 0 U,ejx,?_⟩
     have h5:=h4.puti 0 U (.lst ((s1.ss.map V.int).set (rs.getD i0 0).toNat (.int (k.side ze (W.sv s1 (i0:Int))))))
     generalize upd H4 sd _=H5 at h5 ⊢
     have es:(aL W s1 (zb,(i0:Int),ze) k z').ss.map V.int=(s1.ss.map V.int).set (rs.getD i0 0).toNat (.int (k.side ze (W.sv s1 (i0:Int)))):=by unfold aL; dsimp only; rw[if_pos hp,List.map_set,lw.rf]
     refine⟨_,U,_,U,kk,_,_,_,U,U,SqL.of (h5.get (jk+2) hjk),aY (c9 hki),U,_,U,?_⟩
     rw[k.isBell]
     refine ifd (fun kb=>?_) (fun kb=>?_)
     ·refine⟨_,U,.inl ⟨U,_,SqL.of (h5.get 1 U)⟩,_,U,_,U,nn,_,_,_,U,U,SqL.of (h5.get (jn+2) hjn),aY (cr (show i0<ns.length by rw[lw.nl]; exact il)),gg,_,_,U,U,h5.get 1 U,aB (by rw[length_map]; omega),?_⟩
      have h7:=h5.puti 1 U (.lst (s1.rg.map V.int++[.int (ns.getD i0 0)]))
      have er:(aL W s1 (zb,(i0:Int),ze) k z').rg.map V.int=s1.rg.map V.int++[.int (ns.getD i0 0)]:=by unfold aL; dsimp only; rw[if_pos kb,map_append,lw.nf]; rfl
      generalize upd _ gg _=H7 at h7 ⊢
      rw[<- er,<- es] at h7
      refine⟨_,U,_,U,_,U,(show 2<=sizeLine by decide),fun b8 hb8=>?_⟩
      have h8:=h7.alloc hb8 (.tup [.int (i0:Int),.int o])
      refine⟨mh,_,U,(by rw[<- vm]; exact DGet.t (k:=kE (i0:Int) o) (h8.get (jm+3) hjm) (h8.get 0 U)),?_⟩
      refine⟨_,U,_,_,U,U,?_⟩
      have em:m.toNat - i=(m.toNat - (i+1))+1:=by omega
      rw[em,bg W hn] at eg
      rw[em,aX W hn,length_cons] at eh
      refine⟨m.toNat - (i+1),by omega,i+1,aL W s1 (zb,(i0:Int),ze) k z',_,_,_,_,_,U,by omega,U,h8.tail,O1.step hz hk hm,P1.step hn,eg,by omega,?_⟩
      have:=bM (w:=W) (s:=s1) (z:=(zb,(i0:Int),ze)) (k:=k) (z':=z')
      omega
     ·have er:(aL W s1 (zb,(i0:Int),ze) k z').rg.map V.int=s1.rg.map V.int:=by unfold aL; dsimp only; rw[if_neg kb]
      have h7:=h5
      rw[<- er,<- es] at h7
      refine⟨_,U,_,U,_,U,(show 2<=sizeLine by decide),fun b8 hb8=>?_⟩
      have h8:=h7.alloc hb8 (.tup [.int (i0:Int),.int o])
      refine⟨mh,_,U,(by rw[<- vm]; exact DGet.t (k:=kE (i0:Int) o) (h8.get (jm+3) hjm) (h8.get 0 U)),?_⟩
      refine⟨_,U,_,_,U,U,?_⟩
      have em:m.toNat - i=(m.toNat - (i+1))+1:=by omega
      rw[em,bg W hn] at eg
      rw[em,aX W hn,length_cons] at eh
      refine⟨m.toNat - (i+1),by omega,i+1,aL W s1 (zb,(i0:Int),ze) k z',_,_,_,_,_,U,by omega,U,h8.tail,O1.step hz hk hm,P1.step hn,eg,by omega,?_⟩
      have:=bM (w:=W) (s:=s1) (z:=(zb,(i0:Int),ze)) (k:=k) (z':=z')
      omega
    ·have r0:¬ 0<=rs.getD i0 0:=of_decide_eq_false hr0
     have hp:¬ k.point=true:=fun h=>r0 ((lw.rn i0 k hki).mp h)
     refine⟨_,U,_,U,kk,_,_,_,U,U,SqL.of (h1.get (jk+2) hjk),aY (c9 hki),_,U,_,U,k,ze,0,U,e0,e1,fun p hp1=>?_⟩
     have eo:k.out ze 0=k.out ze (W.sv s1 (i0:Int)):=Kd.out_np hp _ _ _
     have h2:=h1.alloc hp1 (.tup [k.out ze 0,.int (k.side ze 0)])
     refine⟨p,_,U,SqT.of (h2.get 0 U),U,_,_,U,_,_,U,U,?_⟩
     replace h2:=h2.tail
     generalize upd H1 p _=H2 at h2 ⊢
     rw[eo]
     refine⟨_,U,_,U,(show 2<=sizeLine by decide),fun b hb=>?_⟩
     have h3:=h2.alloc hb (.tup [.int (i0:Int),k.out ze (W.sv s1 (i0:Int))])
     have hcase:(W.nx s1=none/\kU (upd H2 b (.tup [.int (i0:Int),k.out ze (W.sv s1 (i0:Int))])) mh (.ref b) none)∨∃ (o:Int) (z':En),k.out ze (W.sv s1 (i0:Int))=.int o/\W.mf (i0:Int) o=some z':=by
      by_cases c:k.out ze (W.sv s1 (i0:Int))=.non
      ·refine .inl ⟨(bJ hz hk c).1,.inr ⟨_,(i0:Int),b,.inl (h3.get (jm+3) hjm),U,?_,U⟩⟩
       rw[c]; exact bx
      ·obtain⟨o,ho⟩:=Kd.out_int (k:=k) (fun e=>c (by unfold Kd.out; rw[if_pos e])) ze (W.sv s1 (i0:Int))
       cases hm:W.mf (i0:Int) o with
       | none=>
        refine .inl ⟨(bA hz hk ho hm).1,.inl ?_⟩
        have:=DGet.t (k:=kE (i0:Int) o) (h3.get (jm+3) hjm) (by rw[ho]; exact bx)
        rw[lw.mt,hm] at this
        exact this
       | some z'=>exact .inr ⟨o,z',ho,hm⟩
     rcases hcase with ⟨hn,hg⟩ | ⟨o,z',ho,hm⟩
     ·refine⟨_,U,mh,none,U,hg,_,U,dE ?_⟩
      rw[hz] at fin
      exact⟨_,U,_,U,(show 2<=sizeLine by decide),fun p hp=>fin _ h3.tail (bh W hn _) (by rw[ba W hn]; rfl) p hp⟩
     have hn:=dk hz hk ho hm
     have vm:aD dm (kE (i0:Int) o)=some (.ref z'.1):=by rw[lw.mt,hm]; rfl
     rw[ho] at h3 ⊢
     refine⟨_,U,mh,_,U,.inl (DGet.t (k:=kE (i0:Int) o) (h3.get (jm+3) hjm) (h3.get 0 U)),_,U,ifF (by rw[vm]; rfl) ?_⟩
     have h4:=h3.tail
     generalize upd H2 b _=H4 at h4 ⊢
     clear h3 h2 hb
     refine⟨_,U,_,U,rr,_,_,_,U,U,grr h4,ari,_,_,U,U,_,U,ifF hr0 ?_⟩
     have es:(aL W s1 (zb,(i0:Int),ze) k z').ss.map V.int=s1.ss.map V.int:=by unfold aL; dsimp only; rw[if_neg hp]
     refine⟨_,U,_,U,kk,_,_,_,U,U,SqL.of (h4.get (jk+2) hjk),aY (c9 hki),U,_,U,?_⟩
     rw[k.isBell]
     refine ifd (fun kb=>?_) (fun kb=>?_)
     ·refine⟨_,U,.inl ⟨U,_,SqL.of (h4.get 1 U)⟩,_,U,_,U,nn,_,_,_,U,U,SqL.of (h4.get (jn+2) hjn),aY (cr (show i0<ns.length by rw[lw.nl]; exact il)),gg,_,_,U,U,h4.get 1 U,aB (by rw[length_map]; omega),?_⟩
      have h7:=h4.puti 1 U (.lst (s1.rg.map V.int++[.int (ns.getD i0 0)]))
      have er:(aL W s1 (zb,(i0:Int),ze) k z').rg.map V.int=s1.rg.map V.int++[.int (ns.getD i0 0)]:=by unfold aL; dsimp only; rw[if_pos kb,map_append,lw.nf]; rfl
      generalize upd _ gg _=H7 at h7 ⊢
      rw[<- er,<- es] at h7
      refine⟨_,U,_,U,_,U,(show 2<=sizeLine by decide),fun b8 hb8=>?_⟩
      have h8:=h7.alloc hb8 (.tup [.int (i0:Int),.int o])
      refine⟨mh,_,U,(by rw[<- vm]; exact DGet.t (k:=kE (i0:Int) o) (h8.get (jm+3) hjm) (h8.get 0 U)),?_⟩
      refine⟨_,U,_,_,U,U,?_⟩
      have em:m.toNat - i=(m.toNat - (i+1))+1:=by omega
      rw[em,bg W hn] at eg
      rw[em,aX W hn,length_cons] at eh
      refine⟨m.toNat - (i+1),by omega,i+1,aL W s1 (zb,(i0:Int),ze) k z',_,_,_,_,_,U,by omega,U,h8.tail,O1.step hz hk hm,P1.step hn,eg,by omega,?_⟩
      have:=bM (w:=W) (s:=s1) (z:=(zb,(i0:Int),ze)) (k:=k) (z':=z')
      omega
     ·have er:(aL W s1 (zb,(i0:Int),ze) k z').rg.map V.int=s1.rg.map V.int:=by unfold aL; dsimp only; rw[if_neg kb]
      have h7:=h4
      rw[<- er,<- es] at h7
      refine⟨_,U,_,U,_,U,(show 2<=sizeLine by decide),fun b8 hb8=>?_⟩
      have h8:=h7.alloc hb8 (.tup [.int (i0:Int),.int o])
      refine⟨mh,_,U,(by rw[<- vm]; exact DGet.t (k:=kE (i0:Int) o) (h8.get (jm+3) hjm) (h8.get 0 U)),?_⟩
      refine⟨_,U,_,_,U,U,?_⟩
      have em:m.toNat - i=(m.toNat - (i+1))+1:=by omega
      rw[em,bg W hn] at eg
      rw[em,aX W hn,length_cons] at eh
      refine⟨m.toNat - (i+1),by omega,i+1,aL W s1 (zb,(i0:Int),ze) k z',_,_,_,_,_,U,by omega,U,h8.tail,O1.step hz hk hm,P1.step hn,eg,by omega,?_⟩
      have:=bM (w:=W) (s:=s1) (z:=(zb,(i0:Int),ze)) (k:=k) (z':=z')
      omega
  ·have hge:¬ (i:Int)<m:=of_decide_eq_false hc
   have ez:m.toNat - i=0:=by omega
   rw[ez] at fin
   exact⟨_,U,_,U,(show 2<=sizeLine by decide),fun p hp=>fin _ h1 rfl rfl p hp⟩
end
theorem Blt.lw {y:YR}{ks:List Kd}{ns rs ss:List Int} (B:Blt y ks ns rs ss) {es:List En}{m:List (List Key×V)} (M:MIn es m):Lw (wOf ks ns rs es m) ks ns rs m:=by
 refine⟨fun n k h=>qd h,fun i=>by unfold wOf; dsimp only; rw[Int.toNat_natCast],fun i=>by unfold wOf; dsimp only; rw[Int.toNat_natCast],B.nl,B.rl,fun i k hk=>⟨fun hp=>?_,fun h0=>?_⟩,fun n e=>cE M n e⟩
 ·exact(B.rr i (by rw[hk]; simp[hp])).1
 ·cases hp:k.point with
  | true=>rfl
  | false=>have:=B.rn i (by rw[hk]; simp[hp]); omega
theorem pJ (a b:List En) (L:Kn):esK (a++b)++L=esK a++(esK b++L):=by unfold esK; rw[map_append,append_assoc]
theorem lJ {ks:List Kd} (h:0<ks.length):0<(aU ks).length:=by
 obtain⟨k,ks',rfl⟩:∃ k ks',ks=k::ks':=by cases ks with | nil=>simp at h | cons a b=>exact⟨a,b,rfl⟩
 unfold aU
 rw[List.zipIdx_cons,List.flatMap_cons,length_append,length_map,List.length_range]
 have:1<=k.many.toNat:=by cases k <;> decide
 show 0<k.many.toNat+_
 omega
theorem Has.dropL {H:Hp}:∀ (X:Kn) {L:Kn},Has H (X++L)->Has H L
 | [],_,h=>h
 | _::X,_,h=>Has.dropL X (Has.tail h)
theorem eu_of {H:Hp}{X:Kn}{es:List En} (h:Has H X) (mem:∀ x ∈ es,(x.1,HO.tup [.int x.2.1,.int x.2.2]) ∈ X):∀ x ∈ es,∀ z ∈ es,x.1=z.1->x=z:=fun u hu v hv e=>by
 have g1:=h.at_ _ (mem u hu)
 have g0:=h.at_ _ (mem v hv)
 dsimp only at g1 g0
 rw[e,g0] at g1
 have g2:=Option.some.inj g1
 injection g2 with g2
 injection g2 with g3 g4
 injection g4 with g4 _
 injection g3 with g3
 injection g4 with g4
 exact Prod.ext e (Prod.ext g3.symm g4.symm)
theorem py {es es':List En}{m:List (List Key×V)} (eu:∀ x ∈ es',∀ z ∈ es',x.1=z.1->x=z) (M:MIn es m) (sub:∀ x ∈ es,x ∈ es'):cb es' m=cb es m:=by
 funext n e
 unfold cb
 cases hv:aD m (kE n e) with
 | none=>rfl
 | some v=>
  obtain⟨z,hz,rfl⟩:=M _ _ hv
  show(es'.find? fun x=>decide (x.1=z.1))=(es.find? fun x=>decide (x.1=z.1))
  rw[fe eu (sub z hz),fe (fun x hx z hz=>eu x (sub x hx) z (sub z hz)) hz]
structure SetOk (y:YR) (ks:List Kd) (ns rs ss:List Int) (es:List En) (m:List (List Key×V)) (z:En):Prop where
 R:Rep (wOf ks ns rs es m) ⟨ss,some z,[]⟩ y
 lw:Lw (wOf ks ns rs es m) ks ns rs m
 zi:z ∈ es
 ei:∀ x ∈ es,x.2 ∈ aU ks
 mi:MIn es m
 nx:y.next=ks.length
 kd:y.kinds=fJ ks
 mt:y.mates=m
 tl:y.trail=[]
 rg:y.rung=[]
 k1:1<=ks.length
 k24:ks.length<=24
 sl:ss.length<=24
 ml:m.length<=80
 nr:∀ x ∈ ns,0<=x/\x<=9999
 nlen:y.notes.length<=24
 rlen:y.rods.length<=24
 fr:∀ i:Nat,ks.length<=i->aD y.notes (Sum.inl (i:Int))=none/\aD y.rods (Sum.inl (i:Int))=none
 mks:∀ k ∈ m.map (·.1),∃ p ∈ aU ks,k=kE p.1 p.2
 sy:Wsym (cb es m)
 eu:∀ x ∈ es,∀ z ∈ es,x.1=z.1->x=z
noncomputable def qT (C:Addr):Sp:=fun vs H Q _=>∃ (d:Addr) (ds:List Int) (a:Int) (L:Kn) (j:Nat),vs=[.ref d,.int a]/\Has H L/\L[j]?=some (d,.lst (ds.map V.int))/\0<=a/\a+184<=ds.length /\
 ∀ (H':Hp) (tp:Addr) (A:YA) (y:YR) (ks:List Kd) (ns rs ss:List Int) (es:List En) (m:List (List Key×V)) (z:En) (sd mh rr nn kk:Addr),SetOk y ks ns rs ss es m z ->
  Has H' ((tp,.tup [.ref A.p,.ref kk,.ref nn,.ref rr,.ref sd,.ref mh,.ref z.1])::(yL C A y++((sd,.lst (ss.map V.int))::(mh,.dT m)::(rr,.lst (rs.map V.int))::(nn,.lst (ns.map V.int))::(kk,.lst (ksV ks))::(esK es++L))))->Q (.ref tp) H'
section
variable {P:Program}{w:World}{K:PySem.W.Frag}{mg:Str->Option Value}{base:Heap}{t:Adr}
theorem scSe:FnScope ["_law_d","_law_at","_law_yard","_law_kinds_here","_law_notes","_law_rods","_law_sides","_law_mates","_law_start"] ["_law_d","_law_at"] (ah qh):={}
theorem rq (T:Txt K mg t):FnOk P w K mg base CX0 6 t.f_set t.d_set ["_law_d","_law_at"] (qT t.c_Yard):=by
 refine T.F_set.ok scSe (fun vs H Q E h=>?_) (fun cdv A outer s H vs Q E hr h=>?_)
 ·obtain⟨_,_,_,_,_,rfl,_⟩:=h
  rfl
 ·obtain⟨d,ds,a,L,j,rfl,hH,hj,a0,hds,q⟩:=h
  refine⟨_,(ab (bO (pcl (nN T) hr T.m_built T.F_built.kp (pS T) (aa (pv 0) (aa (aq bf (pv 1) ag) (aa (pcl (pe T) hr T.m_size T.F_size.kp (r6 T) (aa (aG aC (pv 0) (pv 1)) ae)) ae)))) (cA rfl (az (ar (i:=2) scSe.nd rfl (Or.inl rfl)) (az (ar (i:=3) scSe.nd rfl (Or.inl rfl)) (az (ar (i:=4) scSe.nd rfl (Or.inl rfl)) (az (ar (i:=5) scSe.nd rfl (Or.inl rfl)) (az (ar (i:=6) scSe.nd rfl (Or.inl rfl)) bX)))))))
   (ab (am (i:=7) scSe.nd rfl (Or.inl rfl) (pcl (ok_Jx T) hr T.m_Jx T.F_Jx.kp (b_Jx T) (aa (pv 2) (aa (pv 3) (aa (pv 0) (aa (aq bf (pv 1) ag) (aa (pcl (nJ T) hr T.m_links T.F_links.kp (pP T) (aa (aG aC (pv 0) (aq bf (pv 1) ag)) ae)) ae)))))))
   (ab (al (pcl (ok_Jy T) hr T.m_Jy T.F_Jy.kp (b_Jy T) (aa (pv 2) (aa (pv 6) (aa (pv 0) (aa (aq bf (pv 1) ag) ae))))))
   (ab (am (i:=8) scSe.nd rfl (Or.inl rfl) (aG aC (pcl (gX T) hr T.m_ends T.F_ends.kp (jV T) (aa (pv 3) ae)) (aq aW (aG aC (pv 0) (aq bf (pv 1) ag) (fun _ _=>rfl)) (aI aA (by rfl) T.z_len (by rfl) (aa (pcl (gX T) hr T.m_ends T.F_ends.kp (jV T) (aa (pv 3) ae)) ae)))))
   (ab (al (aK (pv 2) T.cl_Yard T.M_Jr (ok_Jr T) hr (b_Jr T) .nil aH (aa (pv 8) ae)))
   (af (ao (aO (aa (pv 2) (aa (pv 3) (aa (pv 4) (aa (pv 5) (aa (pv 6) (aa (pv 7) (aa (pv 8) ae))))))))))))))),?_⟩
  have gd:SqL K H d (ds.map V.int):=SqL.of (hH.get j hj)
  refine⟨_,U,_,U,_,_,U,U,_,U,_,U,d,_,_,_,U,U,gd,atD (by omega) (by omega),_,U,fun n n1 n24=>?_⟩
  refine⟨d,ds,a+3,n,L,j,U,hH,hj,by omega,by omega,by omega,by omega,fun H2 A1 y ks ns rs ss tp sd rr nn kk B lk h2=>?_⟩
  refine⟨tp,_,U,SqT.of (h2.get 0 U),U,_,_,U,_,_,U,_,_,U,_,_,U,_,_,U,U,?_⟩
  have h3:=h2.tail
  clear h2 hH gd
  have gd:∀ {H:Hp}{M:Kn},Has H (M++L)->SqL K H d (ds.map V.int):=fun {H M} h=>SqL.of (h.get (M.length+j) (by rw[getElem?_append_right (by omega),show M.length+j - M.length=j by omega]; exact hj))
  refine⟨_,U,_,U,_,U,_,U,_,_,U,U,_,U,_,U,_,_,U,U,d,_,_,_,U,U,gd (M:=_++_) (by rw[append_assoc]; exact h3),atD (by omega) (by omega),_,U,fun n2 m0 m40=>?_⟩
  refine⟨A1,y,_,kk,d,ks,ns,rs,ss,ds,a+78,n2,3,j+4,U,h3,B,U,(by simpa using hj),by omega,by omega,by omega,by omega,by omega,fun H4 q4 mh m es M WS hes ml ekm h4=>?_⟩
  clear h3
  have h5:=h4.perm (List.Perm.append_left _ ((List.Perm.cons (mh,HO.dT m) (List.perm_append_comm_assoc (esK es) [(sd,HO.lst (ss.map V.int)),(rr,.lst (rs.map V.int)),(nn,.lst (ns.map V.int)),(kk,.lst (ksV ks))] L)).trans (List.Perm.swap _ _ _)))
  clear h4
  have jL:∀ (X:Kn) (es:List En),(X++(esK es++L))[X.length+es.length+j]?=some (d,.lst (ds.map V.int)):=fun X es=>by
   have e:(esK es).length=es.length:=by unfold esK; rw[length_map]
   rw[getElem?_append_right (by omega),getElem?_append_right (by omega),show X.length+es.length+j - X.length - (esK es).length=j by omega]
   exact hj
  have emem:∀ x ∈ es,x.2 ∈ aU ks:=fun x hx=>by rw[<- hes]; exact mem_map.mpr ⟨x,hx,U⟩
  have ssl:=B.sl
  refine⟨_,U,_,U,_,U,_,U,_,_,U,U,{ A1 with tr:=q4 },_,_,sd,d,ss,ds,a+160,_,U,h5,B.sd,U,jL [(mh,HO.dT m),(rr,.lst (rs.map V.int)),(nn,.lst (ns.map V.int)),(kk,.lst (ksV ks))] es,by omega,by omega,by omega,fun H6 q6 ss' hl h12 h6=>?_⟩
  clear h5
  refine⟨_,U,kk,ks,_,13,U,h6,U,by omega,fun H7 el es2 hes2 h7=>?_⟩
  have g7:SqL K H7 d (ds.map V.int):=SqL.of (h7.get (es2.length+(5+es.length+j)+10) (by
   have e:(esK es2).length=es2.length:=by unfold esK; rw[length_map]
   show(esK es2++(yL t.c_Yard _ _++_))[es2.length+(5+es.length+j)+9]?=_
   rw[getElem?_append_right (by omega),show es2.length+(5+es.length+j)+9 - (esK es2).length=(5+es.length+j)+9 by omega]
   exact jL [(sd,HO.lst (ss'.map V.int)),(mh,HO.dT m),(rr,.lst (rs.map V.int)),(nn,.lst (ns.map V.int)),(kk,.lst (ksV ks))] es))
  refine⟨_,U,_,U,_,_,U,U,d,_,_,_,U,U,g7,atD (by omega) (by omega),?_⟩
  refine⟨_,U,kk,ks,_,es2.length+14,U,h7,(by
   have e:(esK es2).length=es2.length:=by unfold esK; rw[length_map]
   show(esK es2++(yL t.c_Yard _ _++_))[es2.length+13]?=_
   rw[getElem?_append_right (by omega),show es2.length+13 - (esK es2).length=13 by omega]
   rfl),by omega,fun H8 el3 es3 hes3 h8=>?_⟩
  have e2:es2.length=(aU ks).length:=by have:=congrArg List.length hes2; rw[length_map] at this; exact this
  have e3:(esV es3).length=es2.length:=by have:=congrArg List.length hes3; rw[length_map] at this; unfold esV; rw[length_map]; omega
  have ep:=lJ (ks:=ks) (by omega)
  refine⟨el3,_,U,.inl (SqL.of (h8.get 0 U)),_,_,U,U,(show(0:Int)<((esV es3).length:Int) by omega),?_⟩
  rw[e3]
  replace h8:=Has.dropL (esK es3) h8.tail
  obtain⟨i,il,ie,_⟩:=iI (n:=es2.length) (x:=ds.getD (a+2).toNat 0) (by omega)
  refine⟨el,_,_,_,U,U,SqL.of (h8.get 0 U),(by rw[ie]; exact aY (ig (getElem?_eq_getElem il))),?_⟩
  have zi:es2[i] ∈ es2:=List.getElem_mem il
  generalize es2[i]=z at zi ⊢
  have h9:=(h8.tail).perm ((List.perm_append_comm_assoc (esK es2) (yL t.c_Yard _ _) _).trans (List.Perm.append_left _ (List.perm_append_comm_assoc (esK es2) [(sd,HO.lst (ss'.map V.int)),(mh,HO.dT m),(rr,.lst (rs.map V.int)),(nn,.lst (ns.map V.int)),(kk,.lst (ksV ks))] (esK es++L))))
  rw[<- pJ] at h9
  clear h8 h7 h6 g7
  have zin:z.2 ∈ aU ks:=by rw[<- hes2]; exact mem_map.mpr ⟨z,zi,U⟩
  have zi':z ∈ es2++es:=mem_append_left _ zi
  obtain⟨jz,hjz⟩:=pK (M:=[(sd,HO.lst (ss'.map V.int)),(mh,HO.dT m),(rr,.lst (rs.map V.int)),(nn,.lst (ns.map V.int)),(kk,.lst (ksV ks))]) (R:=L) zi'
  refine⟨_,U,A1.p,A1.dx,_,U,h9.get 1 U,(cw _ _ _).1,_,U,{ A1 with tr:=q6 },_,_,z.1,z.2.1,z.2.2,jz,U,h9,hjz,fS B rfl zin,fun H10 q10 h10=>?_⟩
  refine⟨_,U,_,U,_,U,_,U,_,U,_,U,_,U,(show 7<=sizeLine by decide),fun tp htp=>?_⟩
  have emem':∀ x ∈ es2++es,x.2 ∈ aU ks:=fun x hx=>by
   rcases mem_append.mp hx with h | h
   ·rw[<- hes2]; exact mem_map.mpr ⟨x,h,U⟩
   ·exact emem x h
  have eu':∀ x ∈ es2++es,∀ z ∈ es2++es,x.1=z.1->x=z:=eu_of h10 fun x hx=>by
   have:(x.1,HO.tup [.int x.2.1,.int x.2.2]) ∈ esK (es2++es):=mem_map.mpr ⟨x,hx,U⟩
   simp[this]
  have M':MIn (es2++es) m:=M.mono (fun x hx=>mem_append_right _ hx)
  refine q _ tp { A1 with tr:=q10 } _ ks ns rs ss' (es2++es) m z sd mh rr nn kk ?_ (h10.alloc htp _)
  have nl:=B.nlen
  have rl:=B.rlen
  refine⟨Rep.of B M' emem' hl h12 (fun u hu=>by cases hu; exact zin) rfl rfl rfl rfl rfl rfl B.rg,B.lw M',zi',emem',M',B.nx,B.kd,U,U,B.rg,by omega,by omega,by omega,by omega,B.nr,by show y.notes.length<=24; omega,by show y.rods.length<=24; omega,fun i hi=>⟨by show aD y.notes _=none; rw[B.no,List.getElem?_eq_none hi,if_neg (fun e=>nomatch e)],by show aD y.rods _=none; rw[B.ro,List.getElem?_eq_none hi,if_neg (fun e=>nomatch e)]⟩,ekm,(by rw[py eu' M (fun x hx=>mem_append_right _ hx)]; exact WS),eu'⟩
end
theorem iH {α:Type}:∀ (L:List α) (i:Nat) (x:α),i<L.length->(x::L.eraseIdx i).Perm (L.set i x)
 | [],i,x,h=>absurd h (Nat.not_lt_zero i)
 | a::L,0,x,h=>List.Perm.refl _
 | a::L,i+1,x,h=>(List.Perm.swap _ _ _).trans (List.Perm.cons a (iH L i x (by simpa using h)))
theorem Has.repl {H:Hp}{x:Addr×HO}{L:Kn} (h:Has H (x::L)) (i:Nat) (hi:i<L.length):Has H (L.set i x) :=
 (Has.sub h (List.Sublist.cons₂ x (List.eraseIdx_sublist L i))).perm (iH L i x hi)
noncomputable def hE (n e:Nat):Int:=reduceHash (Builtin.Tuple.tupleHashOf [hashInt n,hashInt e])
noncomputable def hEs (N:Nat):List Int:=(List.range (3*N)).map fun i=>hE (i / 3) (i % 3)
theorem hE50:(hEs 50).Nodup:=by decide +kernel
noncomputable def EK (kvs:List (List Key×V)):Prop:=∀ k ∈ kvs.map (·.1),∃ n e:Nat,n<50/\e<3/\k=kE n e
theorem kJ (N n e:Nat) (hn:n<N) (he:e<3):(hEs N)[3*n+e]?=some (hE n e):=by
 unfold hEs
 rw[getElem?_map,List.getElem?_range (by omega),Option.map_some,show(3*n+e) / 3=n by omega,show(3*n+e) % 3=e by omega]
theorem nodup_ix {l:List Int} (h:l.Nodup) {i j:Nat}{x:Int} (hi:l[i]?=some x) (hj:l[j]?=some x):i=j:=by
 obtain⟨li,ei⟩:=List.getElem?_eq_some_iff.mp hi
 obtain⟨lj,ej⟩:=List.getElem?_eq_some_iff.mp hj
 rcases Nat.lt_trichotomy i j with c | c | c
 ·exact absurd (ei.trans ej.symm) (List.pairwise_iff_getElem.mp h i j li lj c)
 ·exact c
 ·exact absurd (ej.trans ei.symm) (List.pairwise_iff_getElem.mp h j i lj li c)
theorem EK.inj {P:Program}{w:World}{kvs:List (List Key×V)} (h:EK kvs):∀ k1 ∈ kvs.map (·.1),∀ k2 ∈ kvs.map (·.1),i8 P w k1=i8 P w k2->k1=k2:=fun k1 h1 k2 h2 e=>by
 obtain⟨n1,e1,a1,b1,rfl⟩:=h k1 h1
 obtain⟨n2,e2,a2,b2,rfl⟩:=h k2 h2
 have e':hE n1 e1=hE n2 e2:=e
 have g1:=kJ 50 n1 e1 a1 b1
 have g2:=kJ 50 n2 e2 a2 b2
 rw[<- e'] at g2
 have ix:=nodup_ix hE50 g1 g2
 have:n1=n2/\e1=e2:=by omega
 rw[this.1,this.2]
theorem hW (A:YA) (next:Int) (eng:V) (q:Addr):bp "kinds" (.ref q) (fl A next eng)=fl { A with k:=q } next eng:=by kernel_rfl
theorem hJ (A:YA) (next:Int) (eng:V) (q:Addr):bp "notes" (.ref q) (fl A next eng)=fl { A with n:=q } next eng:=by kernel_rfl
theorem dP (A:YA) (next:Int) (eng:V) (q:Addr):bp "rods_under" (.ref q) (fl A next eng)=fl { A with r:=q } next eng:=by kernel_rfl
theorem hI (A:YA) (next:Int) (eng:V) (q:Addr):bp "sides" (.ref q) (fl A next eng)=fl { A with s:=q } next eng:=by kernel_rfl
theorem hV (A:YA) (next:Int) (eng:V) (q:Addr):bp "mates" (.ref q) (fl A next eng)=fl { A with m:=q } next eng:=by kernel_rfl
theorem jc (A:YA) (next:Int) (eng:V) (q:Addr):bp "rung" (.ref q) (fl A next eng)=fl { A with g:=q } next eng:=by kernel_rfl
theorem fl_m7 (A:YA) (next:Int) (eng:V):(fl A next eng).lookup ("make_twin" : Str)=none:=by kernel_rfl
noncomputable def dJ (C:Addr):Sp:=fun vs H Q _=>∃ (A:YA) (y:YR) (L:Kn),vs=[.ref A.p]/\Has H (yL C A y++L)/\EK y.mates/\∀ H' B,Has H' (yL C B { y with trail:=[] }++(yL C A y++L))->Q (.ref B.p) H'
section
variable {P:Program}{w:World}{K:PySem.W.Frag}{mg:Str->Option Value}{base:Heap}{t:Adr}
theorem scMk7:FnScope ["self","other"] ["self"] (ah tw):={}
theorem ok_J4 (T:Txt K mg t):FnOk P w K mg base CX0 3 t.f_J4 t.d_J4 ["self"] (dJ t.c_Yard):=by
 refine T.F_J4.ok scMk7 (fun vs H Q E h=>?_) (fun cdv A outer s H vs Q E hr h=>?_)
 ·obtain⟨_,_,_,rfl,_⟩:=h
  rfl
 ·obtain⟨A,y,L,rfl,hH,ek,q⟩:=h
  refine⟨_,(ab (am (i:=1) scMk7.nd rfl (Or.inl rfl) (iM T.mk_Yard (qx T) (hr.mono (by decide)) (by rfl) T.m_Yard (tO T) .nil aH))
   (ab (bt (pv 1) (au (pv 0) rfl) rfl)
   (ab (bt (pv 1) (a9 dG (by rfl) T.z_dict (by rfl) (aa (au (pv 0) rfl) ae)) rfl)
   (ab (bt (pv 1) (a9 dG (by rfl) T.z_dict (by rfl) (aa (au (pv 0) rfl) ae)) rfl)
   (ab (bt (pv 1) (a9 dG (by rfl) T.z_dict (by rfl) (aa (au (pv 0) rfl) ae)) rfl)
   (ab (bt (pv 1) (a9 cc (by rfl) T.z_list (by rfl) (aa (au (pv 0) rfl) ae)) rfl)
   (ab (bt (pv 1) (a9 jS (by rfl) T.z_dict (by rfl) (aa (au (pv 0) rfl) ae)) rfl)
   (ab (bt (pv 1) (au (pv 0) rfl) rfl)
   (ab (bt (pv 1) (a9 cc (by rfl) T.z_list (by rfl) (aa (au (pv 0) rfl) ae)) rfl)
   (af (ao (pv 1)))))))))))),?_⟩
  intro p1 dx1 hp1 hdx1 ne1
  refine⟨p1,dx1,_,U,(hH.alloc hdx1 (.own p1)).alloc (by rw[aJ (Ne.symm ne1)]; exact hp1) (.ins t.c_Yard dx1 []),fun H2 B e1 h=>⟨U,?_⟩⟩
  subst e1
  clear hp1 hdx1 ne1 hH
  refine⟨_,U,A.p,_,A.dx,_,_,U,h.get 10 U,T.cl_Yard,T.n_Yard_next_piece,hX _ _ _,?_⟩
  refine⟨_,U,B.p,_,B.dx,_,U,h.get 1 U,T.cl_Yard,T.n_Yard_next_piece,(show 9<1000 by decide),?_⟩
  rw[show(y0.next)=0 from rfl,eG]
  replace h:Has _ (yL t.c_Yard B { y0 with next:=y.next }++(yL t.c_Yard A y++L)):=h.puti 1 U (.ins t.c_Yard B.dx (fl B y.next y0.eng))
  refine⟨_,U,A.p,_,A.dx,_,_,U,h.get 10 U,T.cl_Yard,T.n_Yard_kinds,cG _ _ _,A.k,_,U,.inl (h.get 12 U),fun l_k hl_k=>?_⟩
  refine⟨_,U,B.p,_,B.dx,_,U,(h.alloc hl_k _).get 2 U,T.cl_Yard,T.n_Yard_kinds,(show 9<1000 by decide),?_⟩
  rw[hW]
  replace h:Has _ (yL t.c_Yard { B with k:=l_k } { y0 with next:=y.next,kinds:=y.kinds }++(yL t.c_Yard A y++L)):=Has.repl ((h.alloc hl_k (.dK y.kinds)).puti 2 U (.ins t.c_Yard B.dx (fl { B with k:=l_k } y.next .non))) 3 (by simp[yL])
  clear hl_k
  refine⟨_,U,A.p,_,A.dx,_,_,U,h.get 10 U,T.cl_Yard,T.n_Yard_notes,bZ _ _ _,A.n,_,U,.inl (h.get 13 U),fun l_n hl_n=>?_⟩
  refine⟨_,U,B.p,_,B.dx,_,U,(h.alloc hl_n _).get 2 U,T.cl_Yard,T.n_Yard_notes,(show 9<1000 by decide),?_⟩
  rw[hJ]
  replace h:Has _ (yL t.c_Yard { B with k:=l_k,n:=l_n } { y0 with next:=y.next,kinds:=y.kinds,notes:=y.notes }++(yL t.c_Yard A y++L)):=Has.repl ((h.alloc hl_n (.dK y.notes)).puti 2 U (.ins t.c_Yard B.dx (fl { B with k:=l_k,n:=l_n } y.next .non))) 4 (by simp[yL])
  clear hl_n
  refine⟨_,U,A.p,_,A.dx,_,_,U,h.get 10 U,T.cl_Yard,T.n_Jo_under,dc _ _ _,A.r,_,U,.inl (h.get 14 U),fun l_r hl_r=>?_⟩
  refine⟨_,U,B.p,_,B.dx,_,U,(h.alloc hl_r _).get 2 U,T.cl_Yard,T.n_Jo_under,(show 9<1000 by decide),?_⟩
  rw[dP]
  replace h:Has _ (yL t.c_Yard { B with k:=l_k,n:=l_n,r:=l_r } { y0 with next:=y.next,kinds:=y.kinds,notes:=y.notes,rods:=y.rods }++(yL t.c_Yard A y++L)):=Has.repl ((h.alloc hl_r (.dK y.rods)).puti 2 U (.ins t.c_Yard B.dx (fl { B with k:=l_k,n:=l_n,r:=l_r } y.next .non))) 5 (by simp[yL])
  clear hl_r
  refine⟨_,U,A.p,_,A.dx,_,_,U,h.get 10 U,T.cl_Yard,T.n_Yard_sides,bE _ _ _,A.s,_,U,.inl (SqL.of (h.get 15 U)),fun l_s hl_s=>?_⟩
  refine⟨_,U,B.p,_,B.dx,_,U,(h.alloc hl_s _).get 2 U,T.cl_Yard,T.n_Yard_sides,(show 9<1000 by decide),?_⟩
  rw[hI]
  replace h:Has _ (yL t.c_Yard { B with k:=l_k,n:=l_n,r:=l_r,s:=l_s } { y0 with next:=y.next,kinds:=y.kinds,notes:=y.notes,rods:=y.rods,sides:=y.sides }++(yL t.c_Yard A y++L)):=Has.repl ((h.alloc hl_s (.lst y.sides)).puti 2 U (.ins t.c_Yard B.dx (fl { B with k:=l_k,n:=l_n,r:=l_r,s:=l_s } y.next .non))) 6 (by simp[yL])
  clear hl_s
  refine⟨_,U,A.p,_,A.dx,_,_,U,h.get 10 U,T.cl_Yard,T.n_Yard_mates,bK _ _ _,A.m,_,U,.inl (h.get 16 U),ek.inj,fun l_m hl_m=>?_⟩
  refine⟨_,U,B.p,_,B.dx,_,U,(h.alloc hl_m _).get 2 U,T.cl_Yard,T.n_Yard_mates,(show 9<1000 by decide),?_⟩
  rw[hV]
  replace h:Has _ (yL t.c_Yard { B with k:=l_k,n:=l_n,r:=l_r,s:=l_s,m:=l_m } { y0 with next:=y.next,kinds:=y.kinds,notes:=y.notes,rods:=y.rods,sides:=y.sides,mates:=y.mates }++(yL t.c_Yard A y++L)):=Has.repl ((h.alloc hl_m (.dT y.mates)).puti 2 U (.ins t.c_Yard B.dx (fl { B with k:=l_k,n:=l_n,r:=l_r,s:=l_s,m:=l_m } y.next .non))) 7 (by simp[yL])
  clear hl_m
  refine⟨_,U,A.p,_,A.dx,_,_,U,h.get 10 U,T.cl_Yard,T.n_J9_end,hZ _ _ _,?_⟩
  refine⟨_,U,B.p,_,B.dx,_,U,h.get 1 U,T.cl_Yard,T.n_J9_end,(show 9<1000 by decide),?_⟩
  rw[bV]
  replace h:Has _ (yL t.c_Yard { B with k:=l_k,n:=l_n,r:=l_r,s:=l_s,m:=l_m } { y0 with next:=y.next,kinds:=y.kinds,notes:=y.notes,rods:=y.rods,sides:=y.sides,mates:=y.mates,eng:=y.eng }++(yL t.c_Yard A y++L)):=h.puti 1 U (.ins t.c_Yard B.dx (fl { B with k:=l_k,n:=l_n,r:=l_r,s:=l_s,m:=l_m } y.next y.eng))
  refine⟨_,U,A.p,_,A.dx,_,_,U,h.get 10 U,T.cl_Yard,T.n_Yard_rung,fc _ _ _,A.g,_,U,.inl (SqL.of (h.get 17 U)),fun l_g hl_g=>?_⟩
  refine⟨_,U,B.p,_,B.dx,_,U,(h.alloc hl_g _).get 2 U,T.cl_Yard,T.n_Yard_rung,(show 9<1000 by decide),?_⟩
  rw[jc]
  replace h:Has _ (yL t.c_Yard { B with k:=l_k,n:=l_n,r:=l_r,s:=l_s,m:=l_m,g:=l_g } { y0 with next:=y.next,kinds:=y.kinds,notes:=y.notes,rods:=y.rods,sides:=y.sides,mates:=y.mates,eng:=y.eng,rung:=y.rung }++(yL t.c_Yard A y++L)):=Has.repl ((h.alloc hl_g (.lst y.rung)).puti 2 U (.ins t.c_Yard B.dx (fl { B with k:=l_k,n:=l_n,r:=l_r,s:=l_s,m:=l_m,g:=l_g } y.next y.eng))) 8 (by simp[yL])
  clear hl_g
  refine⟨_,U,q _ { B with k:=l_k,n:=l_n,r:=l_r,s:=l_s,m:=l_m,g:=l_g } h⟩
theorem scTn:FnScope ["yard"] ["yard"] (ah mR):={}
theorem gW (T:Txt K mg t):FnOk P w K mg base CX0 4 t.f_twin t.d_twin ["yard"] (dJ t.c_Yard):=by
 refine T.F_twin.ok scTn (fun vs H Q E h=>?_) (fun cdv A outer s H vs Q E hr h=>?_)
 ·obtain⟨_,_,_,rfl,_⟩:=h
  rfl
 ·obtain⟨A,y,L,rfl,hH,ek,q⟩:=h
  refine⟨_,(af (ao (aS (pv 0) T.cl_Yard T.M_J4 (ok_J4 T) hr (b_J4 T) .nil aH))),?_⟩
  exact⟨_,U,A.p,A.dx,_,U,hH.get 1 U,fl_m7 _ _ _,A,y,L,U,hH,ek,q⟩
end
structure Lk (s1 s2:Sd):Prop where
 s:s1.ss=s2.ss
 a:s1.at_.map (·.2)=s2.at_.map (·.2)
theorem gm {α β:Type}{f:α->β}{x y:Option α} (h:x.map f=y.map f):(x=none/\y=none)∨∃ u v,x=some u/\y=some v/\f u=f v:=by
 cases x with
 | none=>cases y with
  | none=>exact .inl ⟨U,U⟩
  | some v=>cases h
 | some u=>cases y with
  | none=>cases h
  | some v=>exact .inr ⟨u,v,U,U,Option.some.inj h⟩
theorem fA {w:Wd}{s:Sd} (h:s.at_=none):w.nx s=none:=by unfold Wd.nx; simp only[h]
theorem kF {w:Wd}{s1 s2:Sd} (S:Lk s1 s2):(w.nx s1=none/\w.nx s2=none)∨∃ t1 t2,w.nx s1=some t1/\w.nx s2=some t2/\Lk t1 t2:=by
 rcases gm S.a with ⟨h1,h2⟩ | ⟨z1,z2,h1,h2,e⟩
 ·exact .inl ⟨fA h1,fA h2⟩
 ·have sv:w.sv s1 z1.2.1=w.sv s2 z2.2.1:=by unfold Wd.sv; rw[S.s,e]
  cases hk:w.kf z2.2.1 with
  | none=>
   left
   refine⟨?_,?_⟩
   ·unfold Wd.nx; simp only[h1]; rw[e,hk]
   ·unfold Wd.nx; simp only[h2]; rw[hk]
  | some k=>
   have hk1:w.kf z1.2.1=some k:=by rw[e,hk]
   cases ho:k.out z2.2.2 (w.sv s2 z2.2.1) with
   | int o=>
    have ho1:k.out z1.2.2 (w.sv s1 z1.2.1)=.int o:=by rw[sv,e]; exact ho
    cases hm:w.mf z2.2.1 o with
    | none=>
     have hm1:w.mf z1.2.1 o=none:=by rw[e]; exact hm
     left
     refine⟨?_,?_⟩
     ·unfold Wd.nx; simp only[h1,hk1,ho1,hm1,Option.map_none]
     ·unfold Wd.nx; simp only[h2,hk,ho,hm,Option.map_none]
    | some u=>
     have hm1:w.mf z1.2.1 o=some u:=by rw[e]; exact hm
     right
     refine⟨_,_,dk h1 hk1 ho1 hm1,dk h2 hk ho hm,?_,?_⟩
     ·unfold aL; dsimp only; rw[S.s,sv,e]
     ·rw[cD,cD]
   | _=>
    left
    have ho1:=ho
    rw[<- sv,<- e] at ho1
    refine⟨?_,?_⟩
    ·unfold Wd.nx; simp only[h1,hk1,ho1]
    ·unfold Wd.nx; simp only[h2,hk,ho]
theorem bD (w:Wd):∀ (a b:Nat) (s:Sd),w.go (a+b) s=w.go b (w.go a s)/\(w.hist (a+b) s).length=(w.hist a s).length+(w.hist b (w.go a s)).length
 | 0,b,s=>by rw[Nat.zero_add]; exact⟨U,(Nat.zero_add _).symm⟩
 | a+1,b,s=>by
  rw[show a+1+b=(a+b)+1 by omega]
  cases h:w.nx s with
  | none=>rw[bh w h,bh w h,bh w h,ba w h,ba w h,ba w h]; exact⟨U,U⟩
  | some s'=>
   rw[bg w h,bg w h,aX w h,aX w h]
   have:=bD w a b s'
   exact⟨this.1,by rw[length_cons,length_cons,this.2]; omega⟩
theorem eD (w:Wd):∀ (n:Nat) (s:Sd),(w.hist n s).length<=n
 | 0,s=>Nat.le_refl _
 | n+1,s=>by
  cases h:w.nx s with
  | none=>rw[ba w h]; exact Nat.zero_le _
  | some s'=>rw[aX w h,length_cons]; have:=eD w n s'; omega
theorem cq (w:Wd):∀ (n:Nat) (s:Sd),(w.go n s).rg.length<=s.rg.length+n
 | 0,s=>Nat.le_refl _
 | n+1,s=>by
  cases h:w.nx s with
  | none=>rw[bh w h]; omega
  | some s'=>
   rw[bg w h]
   have h1:=cq w n s'
   obtain⟨z,k,o,z',_,_,_,_,rfl⟩:=c8 h
   have h2:=bM (w:=w) (s:=s) (z:=z) (k:=k) (z':=z')
   omega
noncomputable def EndsAt (w:Wd) (s:Sd) (D:Nat):Prop:=(w.hist D s).length=D/\w.nx (w.go D s)=none
theorem bQ {w:Wd}:∀ (n:Nat) (s:Sd),s.at_≠none->(w.go n s).at_≠none
 | 0,s,h=>h
 | n+1,s,h=>by
  cases hx:w.nx s with
  | none=>rw[bh w hx]; exact h
  | some s'=>
   rw[bg w hx]
   refine bQ n s' ?_
   obtain⟨z,k,o,z',_,_,_,_,rfl⟩:=c8 hx
   rw[cD]; exact fun e=>nomatch e
theorem Pool.go' {w:Wd}{L:Kn}:∀ (n:Nat) {s:Sd},Pool w s L->Pool w (w.go n s) L
 | 0,_,p=>p
 | n+1,s,p=>by
  cases h:w.nx s with
  | none=>rw[bh w h]; exact p
  | some s'=>rw[bg w h]; exact Pool.go' n (p.step h)
noncomputable def mM (C:Addr):Sp:=fun vs H Q _=>∃ (A1 A2:YA) (y1 y2:YR) (M1 L:Kn) (z1 z2:En) (ss1 ss2:List Int),vs=[.ref A1.p,.ref A2.p]/\Has H (yL C A1 y1++(M1++(yL C A2 y2++L)))/\y1.eng=.ref z1.1/\y2.eng=.ref z2.1/\(z1.1,HO.tup [.int z1.2.1,.int z1.2.2]) ∈ L/\(z2.1,HO.tup [.int z2.2.1,.int z2.2.2]) ∈ L /\
 y1.sides=ss1.map V.int/\y2.sides=ss2.map V.int/\Q (.bl (decide (z1.2=z2.2) && decide (ss1=ss2))) H
section
variable {P:Program}{w:World}{K:PySem.W.Frag}{mg:Str->Option Value}{base:Heap}{t:Adr}
theorem scAk:FnScope ["one","other"] ["one","other"] (ah ki):={}
theorem fz (T:Txt K mg t):FnOk P w K mg base CX0 2 t.f_alike t.d_alike ["one","other"] (mM t.c_Yard):=by
 refine T.F_alike.ok scAk (fun vs H Q E h=>?_) (fun cdv A outer s H vs Q E hr h=>?_)
 ·obtain⟨_,_,_,_,_,_,_,_,_,_,rfl,_⟩:=h
  rfl
 ·obtain⟨A1,A2,y1,y2,M1,L,z1,z2,ss1,ss2,rfl,hH,e1,e2,m1,m2,s1,s2,q⟩:=h
  refine⟨_,(af (ao (jF (cL (nF hr.units) (aS (pv 0) T.cl_Yard T.M_J9 (kA T) hr (pU T) .nil aH) (aS (pv 1) T.cl_Yard T.M_J9 (kA T) hr (pU T) .nil aH) (aj _)) (gS (cL (rm hr.units) (au (pv 0) rfl) (au (pv 1) rfl) (aj _)))))),?_⟩
  have inL:∀ {x:Addr×HO},x ∈ L->H x.1=some x.2:=fun {x} hx=>hH.at_ x (mem_append_right _ (mem_append_right _ (mem_append_right _ hx)))
  have h2:Has H (yL t.c_Yard A2 y2++((yL t.c_Yard A1 y1++M1)++L)):=by
   refine Has.comm (X:=yL t.c_Yard A1 y1++M1) (Y:=yL t.c_Yard A2 y2) (R:=L) ?_
   rw[append_assoc]; exact hH
  refine⟨_,U,A1.p,A1.dx,_,U,hH.get 1 U,(cw _ _ _).2.2.2.2.2.2.1,A1,y1,_,U,hH,?_⟩
  refine⟨_,U,A2.p,A2.dx,_,U,h2.get 1 U,(cw _ _ _).2.2.2.2.2.2.1,A2,y2,_,U,h2,?_⟩
  refine⟨z1.1,z2.1,[z1.2.1,z1.2.2],[z2.2.1,z2.2.2],e1,e2,inL m1,inL m2,_,U,?_⟩
  have ez:(if false=true then !decide ([z1.2.1,z1.2.2]=[z2.2.1,z2.2.2]) else decide ([z1.2.1,z1.2.2]=[z2.2.1,z2.2.2]))=decide (z1.2=z2.2):=by
   rw[if_neg Bool.false_ne_true]
   by_cases c:z1.2=z2.2
   ·rw[c]; simp
   ·rw[decide_eq_false c,decide_eq_false (fun h=>c (by injection h with a b; injection b with b _; exact Prod.ext a b))]
  rw[ez]
  refine if2 (fun c=>?_) (fun c=>?_)
  ·rw[c] at q
   refine⟨_,U,A1.p,_,A1.dx,_,_,U,hH.get 1 U,T.cl_Yard,T.n_Yard_sides,bE _ _ _,?_⟩
   refine⟨_,U,A2.p,_,A2.dx,_,_,U,h2.get 1 U,T.cl_Yard,T.n_Yard_sides,bE _ _ _,?_⟩
   refine⟨A1.s,A2.s,ss1,ss2,U,U,?_,?_,?_⟩
   ·rw[<- s1]; exact SqL.of (hH.get 6 U)
   ·rw[<- s2]; exact SqL.of (h2.get 6 U)
   ·rw[if_neg Bool.false_ne_true]; simpa using q
  ·rw[c] at q
   exact q
end
theorem Rep.twin {W:Wd}{s:Sd}{y:YR} (R:Rep W s y):Rep W s { y with trail:=[] }:=⟨R.kd,R.no,R.ro,R.rr,R.sd,R.s12,R.mt,R.mo,R.en,R.eo,R.rg⟩
theorem jv {W:Wd}{s s':Sd} (h:W.nx s=some s'):W.why s=.non:=by
 obtain⟨z,k,o,z',hz,hk,ho,hm,_⟩:=c8 h
 exact fg hz hk ho hm
structure Cyc (w:Wd) (s:Sd) (mu lam:Nat):Prop where
 l0:0<lam
 on:∀ n,(w.hist n s).length=n
 lk:∀ i j,i<j->(Lk (w.go i s) (w.go j s)↔mu<=i/\lam ∣ (j - i))
theorem Cyc.one {w:Wd}{s:Sd}{mu lam:Nat} (C:Cyc w s mu lam) (i k:Nat):(w.hist k (w.go i s)).length=k:=by
 have:=(bD w i k s).2
 rw[C.on,C.on] at this
 omega
theorem Cyc.nx {w:Wd}{s:Sd}{mu lam:Nat} (C:Cyc w s mu lam) (i:Nat):∃ s',w.nx (w.go i s)=some s':=by
 cases h:w.nx (w.go i s) with
 | none=>have:=C.one i 1; rw[ba w h] at this; cases this
 | some s'=>exact⟨s',U⟩
theorem Cyc.eq {w:Wd}{s:Sd}{mu lam:Nat} (C:Cyc w s mu lam) {i j:Nat} (h:i<j) {z1 z2:En} (h1:(w.go i s).at_=some z1) (h2:(w.go j s).at_=some z2) :
  (decide (z1.2=z2.2) && decide ((w.go i s).ss=(w.go j s).ss))=decide (mu<=i/\lam ∣ (j - i)):=by
 have e:(z1.2=z2.2/\(w.go i s).ss=(w.go j s).ss)↔Lk (w.go i s) (w.go j s):=by
  constructor
  ·rintro⟨a,b⟩; exact⟨b,by rw[h1,h2]; exact congrArg some a⟩
  ·rintro⟨b,a⟩; rw[h1,h2] at a; exact⟨Option.some.inj a,b⟩
 rw[<- Bool.decide_and]
 exact decide_eq_decide.mpr (e.trans (C.lk i j h))
noncomputable def dA (mu lam n:Nat):List V:=if mu+lam<=n then [.str "round",.int mu,.int lam] else [.str "open",.int n]
noncomputable def iG (C:Addr):Sp:=fun vs H Q _=>∃ (A A2:YA) (y y2:YR) (M L:Kn) (ts2:List (Addr×Sd)) (W:Wd) (s:Sd) (i lim mu lam:Nat),vs=[.ref A.p,.ref A2.p,.int lim]/\Has H (yL C A2 y2++(trK W ts2++(M++(yL C A y++L))))/\Rep W s y/\Rep W (W.go i s) y2/\y2.trail=trV ts2/\ts2.length<=200000/\Pool W s L/\EK y.mates/\Cyc W s mu lam/\lam ∣ i/\mu<=i/\1<=i/\i<=200000/\mu<=10000/\lam<=10000/\s.rg.length<=100000/\s.at_≠none /\
 ∀ H' p,Has H' ((p,.tup (dA mu lam lim))::(yL C A y++L))->Q (.ref p) H'
noncomputable def qo (C:Addr) (A A2 F:YA) (y:YR) (M L:Kn) (W:Wd) (s:Sd) (i lim mu:Nat) (r:Nat) (σ:St) (H:Hp):Prop :=
 ∃ (b:Nat) (yf y2:YR) (tf t2:List (Addr×Sd)) (o1:Option V),r=mu - b/\b<=mu/\σ=[some (.ref A.p),some (.ref A2.p),some (.int lim),some (.ref F.p),some (.int b),o1] /\
  Has H (yL C F yf++(trK W tf++(yL C A2 y2++(trK W t2++(M++(yL C A y++L))))))/\Rep W (W.go b s) yf/\Rep W (W.go (i+b) s) y2/\yf.trail=trV tf/\y2.trail=trV t2/\tf.length<=b/\t2.length<=200000+b
noncomputable def nE (C:Addr) (A A2 F:YA) (y:YR) (M L:Kn) (W:Wd) (s:Sd) (i lim mu lam:Nat) (r:Nat) (σ:St) (H:Hp):Prop :=
 ∃ (l:Nat) (yf y2:YR) (tf t2:List (Addr×Sd)),r=lam - l/\1<=l/\l<=lam/\σ=[some (.ref A.p),some (.ref A2.p),some (.int lim),some (.ref F.p),some (.int mu),some (.int l)] /\
  Has H (yL C F yf++(trK W tf++(yL C A2 y2++(trK W t2++(M++(yL C A y++L))))))/\Rep W (W.go mu s) yf/\Rep W (W.go (i+mu+l) s) y2/\y2.trail=trV t2/\t2.length<=210000+l
section
variable {P:Program}{w:World}{K:PySem.W.Frag}{mg:Str->Option Value}{base:Heap}{t:Adr}
theorem scOr:FnScope ["yard","ahead","limit","first","begin","length"] ["yard","ahead","limit"] (ah tt):={}
theorem ok_J6 (T:Txt K mg t):FnOk P w K mg base CX0 7 t.f_J6 t.d_J6 ["yard","ahead","limit"] (iG t.c_Yard):=by
 refine T.F_J6.ok scOr (fun vs H Q E h=>?_) (fun cdv A outer s H vs Q E hr h=>?_)
 ·obtain⟨_,_,_,_,_,_,_,_,_,_,_,_,_,rfl,_⟩:=h
  rfl
 ·obtain⟨A,A2,y,y2,M,L,ts2,W,s0,i,lim,mu,lam,rfl,hH,R,R2,t2e,t2l,PL,ek,Cy,di,mi,i1,ib,mb,lb,rb,at0,q⟩:=h
  refine⟨_,(ab (am (i:=3) scOr.nd rfl (Or.inl rfl) (pcl (gW T) hr T.m_twin T.F_twin.kp (jU T) (aa (pv 0) ae)))
   (ab (am (i:=4) scOr.nd rfl (Or.inl rfl) ag)
   (ab (cm PassesOwn.never (d7 (cj (pcl (fz T) hr T.m_alike T.F_alike.kp (iw T) (aa (pv 3) (aa (pv 1) ae)))))
    (ab (ft (i:=4) scOr.nd rfl (Or.inl rfl) (pcl (cX T) hr T.m_run T.F_run.kp (eM T) (aa (pv 3) (aa ag ae))) fL)
     (af (al (pcl (cX T) hr T.m_run T.F_run.kp (eM T) (aa (pv 1) (aa ag ae)))))))
   (ab (am (i:=5) scOr.nd rfl (Or.inl rfl) (pcl (cX T) hr T.m_run T.F_run.kp (eM T) (aa (pv 1) (aa ag ae))))
   (ab (cm PassesOwn.never (d7 (cj (pcl (fz T) hr T.m_alike T.F_alike.kp (iw T) (aa (pv 3) (aa (pv 1) ae)))))
    (af (ft (i:=5) scOr.nd rfl (Or.inl rfl) (pcl (cX T) hr T.m_run T.F_run.kp (eM T) (aa (pv 1) (aa ag ae))) fL)))
   (ab (av (ai dj (aq bf (pv 4) (pv 5)) (pv 2) (aj _))
    (af (ao (aO (aa aF (aa (pv 2) ae)))))
    ak)
   (af (ao (aO (aa aF (aa (pv 4) (aa (pv 5) ae)))))))))))),?_⟩
  have h1:Has H (yL t.c_Yard A y++((yL t.c_Yard A2 y2++(trK W ts2++M))++L)):=by
   refine Has.comm (X:=yL t.c_Yard A2 y2++(trK W ts2++M)) (Y:=yL t.c_Yard A y) (R:=L) ?_
   rw[append_assoc,append_assoc]; exact hH
  refine⟨_,U,A,y,_,U,h1,ek,fun H1 F h2=>?_⟩
  have h3:Has H1 (yL t.c_Yard F { y with trail:=[] }++(trK W []++(yL t.c_Yard A2 y2++(trK W ts2++(M++(yL t.c_Yard A y++L)))))):=by
   refine Has.perm h2 (List.Perm.append_left _ ?_)
   refine(List.perm_append_comm_assoc _ _ _).trans ?_
   rw[append_assoc,append_assoc]
   exact .refl _
  clear h2 h1 hH
  dsimp only[qI,qR,tC,kK,List.set]
  refine⟨qo t.c_Yard A A2 F y M L W s0 i lim mu,⟨_,0,_,_,[],ts2,_,U,Nat.zero_le _,U,h3,R.twin,R2,U,t2e,Nat.zero_le _,t2l⟩,?_⟩
  clear h3 R2 t2e t2l
  rintro r σ H2 ⟨b,yf,y2,tf,t2,o1,rfl,bm,rfl,h2,Rf,R2,tfe,t2e,tfl,t2l⟩
  have a1:=bQ (w:=W) (b) s0 at0
  have a2:=bQ (w:=W) ((i+b)) s0 at0
  obtain⟨z1,hz1⟩:=Option.ne_none_iff_exists'.mp a1
  obtain⟨z2,hz2⟩:=Option.ne_none_iff_exists'.mp a2
  obtain⟨j1,g1⟩:=(PL.go' (b)).e z1 hz1
  obtain⟨j2,g2⟩:=(PL.go' ((i+b))).e z2 hz2
  have ce:=Cy.eq (show b<(i+b) by omega) hz1 hz2
  have ce':(decide (z1.2=z2.2) && decide ((W.go b s0).ss=(W.go (i+b) s0).ss))=decide (mu<=b):=by
   rw[ce,show i+b - b=i by omega]
   exact decide_eq_decide.mpr ⟨fun h=>h.1,fun h=>⟨h,di⟩⟩
  refine⟨_,U,_,U,F,A2,yf,y2,_,_,z1,z2,(W.go b s0).ss,(W.go (i+b) s0).ss,U,h2,(by rw[Rf.en,hz1]; rfl),(by rw[R2.en,hz2]; rfl),mem_append_right _ (mem_append_right _ (mem_append_right _ (mem_of_getElem? g1))),mem_append_right _ (mem_append_right _ (mem_append_right _ (mem_of_getElem? g2))),Rf.sd,R2.sd,_,U,?_⟩
  rw[ce']
  clear ce ce' z1 z2 hz1 hz2 g1 g2 a1 a2
  have rf:=cq W b s0
  have r2:=cq W (i+b) s0
  have rfl':yf.rung.length<=400000:=by rw[Rf.rg,length_map]; omega
  have r2l:y2.rung.length<=400000:=by rw[R2.rg,length_map]; omega
  refine rP (fun hc=>?_) (fun hc=>?_)
  ·refine⟨fun σ' H'=>∃ r',r'<mu - b/\qo t.c_Yard A A2 F y M L W s0 i lim mu r' σ' H',fun _ _ h=>h,?_⟩
   refine⟨_,U,_,U,F,yf,_,W,W.go b s0,tf,1,U,h2,Rf,(((PL.go' _).app _).app _).app _ |>.app _,tfe,by omega,by omega,by omega,by omega,fun H3 yf2 tf2 h3 R3 t3 m3 _ _ _ _ _ _=>?_⟩
   have l3:tf2.length=1:=by have:=congrArg List.length m3; rw[length_map] at this; rw[this]; exact Cy.one b 1
   have R3':Rep W (W.go (b+1) s0) yf2:=by rw[(bD W b 1 s0).1]; exact R3
   refine⟨_,_,U,U,?_⟩
   have h4:Has H3 (yL t.c_Yard A2 y2++(trK W t2++((yL t.c_Yard F yf2++trK W (tf++tf2))++(M++(yL t.c_Yard A y++L))))):=by
    have:=Has.comm (X:=yL t.c_Yard F yf2++trK W (tf++tf2)) (Y:=yL t.c_Yard A2 y2++trK W t2) (R:=M++(yL t.c_Yard A y++L)) (by rw[append_assoc,append_assoc]; exact h3)
    rw[append_assoc] at this
    exact this
   clear h3 h2
   dsimp only[List.set]
   refine⟨_,U,A2,y2,_,W,W.go (i+b) s0,t2,1,U,h4,R2,(((PL.go' _).app _).app _).app _,t2e,by omega,by omega,by omega,by omega,fun H5 y22 t22 h5 R5 t5 m5 _ _ _ _ _ _=>?_⟩
   have l5:t22.length=1:=by have:=congrArg List.length m5; rw[length_map] at this; rw[this]; exact Cy.one (i+b) 1
   have R5':Rep W (W.go (i+(b+1)) s0) y22:=by rw[show i+(b+1)=i+b+1 by omega,(bD W (i+b) 1 s0).1]; exact R5
   have h6:Has H5 (yL t.c_Yard F yf2++(trK W (tf++tf2)++(yL t.c_Yard A2 y22++(trK W (t2++t22)++(M++(yL t.c_Yard A y++L)))))):=by
    have:=Has.comm (X:=yL t.c_Yard A2 y22++trK W (t2++t22)) (Y:=yL t.c_Yard F yf2++trK W (tf++tf2)) (R:=M++(yL t.c_Yard A y++L)) (by rw[append_assoc]; exact h5)
    rw[append_assoc,append_assoc] at this
    exact this
   refine⟨mu - (b+1),by omega,b+1,yf2,y22,tf++tf2,t2++t22,o1,U,by omega,?_,h6,R3',R5',t3,t5,by rw[length_append]; omega,by rw[length_append]; omega⟩
   rw[l3]
   rfl
  ·have eb:b=mu:=by omega
   subst eb
   have h4:Has H2 (yL t.c_Yard A2 y2++(trK W t2++((yL t.c_Yard F yf++trK W tf)++(M++(yL t.c_Yard A y++L))))):=by
    have:=Has.comm (X:=yL t.c_Yard F yf++trK W tf) (Y:=yL t.c_Yard A2 y2++trK W t2) (R:=M++(yL t.c_Yard A y++L)) (by rw[append_assoc,append_assoc]; exact h2)
    rw[append_assoc] at this
    exact this
   clear h2
   refine⟨_,U,A2,y2,_,W,W.go (i+b) s0,t2,1,U,h4,R2,(((PL.go' _).app _).app _).app _,t2e,by omega,by omega,by omega,by omega,fun H5 y22 t22 h5 R5 t5 m5 _ _ _ _ _ _=>?_⟩
   have l5:t22.length=1:=by have:=congrArg List.length m5; rw[length_map] at this; rw[this]; exact Cy.one (i+b) 1
   have R5':Rep W (W.go (i+b+1) s0) y22:=by rw[(bD W (i+b) 1 s0).1]; exact R5
   have h6:Has H5 (yL t.c_Yard F yf++(trK W tf++(yL t.c_Yard A2 y22++(trK W (t2++t22)++(M++(yL t.c_Yard A y++L)))))):=by
    have:=Has.comm (X:=yL t.c_Yard A2 y22++trK W (t2++t22)) (Y:=yL t.c_Yard F yf++trK W tf) (R:=M++(yL t.c_Yard A y++L)) (by rw[append_assoc]; exact h5)
    rw[append_assoc,append_assoc] at this
    exact this
   rw[l5]
   clear h4 h5 R2 t2e r2 r2l
   have lam0:=Cy.l0
   dsimp only[List.set]
   refine⟨nE t.c_Yard A A2 F y M L W s0 i lim b lam,⟨_,1,yf,y22,tf,t2++t22,U,Nat.le_refl _,by omega,U,h6,Rf,R5',t5,by rw[length_append]; omega⟩,?_⟩
   clear h6 R5 R5' t5 m5 l5 t2l
   rintro r σ H6 ⟨l,yf,y2,tf,t2,rfl,l1,ll,rfl,h2,Rf,R2,t2e,t2l⟩
   have a1:=bQ (w:=W) (b) s0 at0
   have a2:=bQ (w:=W) ((i+b+l)) s0 at0
   obtain⟨z1,hz1⟩:=Option.ne_none_iff_exists'.mp a1
   obtain⟨z2,hz2⟩:=Option.ne_none_iff_exists'.mp a2
   obtain⟨j1,g1⟩:=(PL.go' (b)).e z1 hz1
   obtain⟨j2,g2⟩:=(PL.go' ((i+b+l))).e z2 hz2
   have ce:=Cy.eq (show b<(i+b+l) by omega) hz1 hz2
   have ce':(decide (z1.2=z2.2) && decide ((W.go b s0).ss=(W.go (i+b+l) s0).ss))=decide (l=lam):=by
    rw[ce,show i+b+l - b=i+l by omega]
    refine decide_eq_decide.mpr ⟨fun h=>?_,fun h=>⟨Nat.le_refl _,by rw[h]; exact Nat.dvd_add di (Nat.dvd_refl _)⟩⟩
    have:=(Nat.dvd_add_right di).mp h.2
    have:=Nat.le_of_dvd (by omega) this
    omega
   refine⟨_,U,_,U,F,A2,yf,y2,_,_,z1,z2,(W.go b s0).ss,(W.go (i+b+l) s0).ss,U,h2,(by rw[Rf.en,hz1]; rfl),(by rw[R2.en,hz2]; rfl),mem_append_right _ (mem_append_right _ (mem_append_right _ (mem_of_getElem? g1))),mem_append_right _ (mem_append_right _ (mem_append_right _ (mem_of_getElem? g2))),Rf.sd,R2.sd,_,U,?_⟩
   rw[ce']
   clear ce ce' z1 z2 hz1 hz2 g1 g2 a1 a2
   have r2:=cq W (i+b+l) s0
   have r2l:y2.rung.length<=400000:=by rw[R2.rg,length_map]; omega
   refine rP (fun hc=>?_) (fun hc=>?_)
   ·refine⟨fun σ' H'=>∃ r',r'<lam - l/\nE t.c_Yard A A2 F y M L W s0 i lim b lam r' σ' H',fun _ _ h=>h,?_⟩
    have h4:Has H6 (yL t.c_Yard A2 y2++(trK W t2++((yL t.c_Yard F yf++trK W tf)++(M++(yL t.c_Yard A y++L))))):=by
     have:=Has.comm (X:=yL t.c_Yard F yf++trK W tf) (Y:=yL t.c_Yard A2 y2++trK W t2) (R:=M++(yL t.c_Yard A y++L)) (by rw[append_assoc,append_assoc]; exact h2)
     rw[append_assoc] at this
     exact this
    clear h2
    refine⟨_,U,_,U,A2,y2,_,W,W.go (i+b+l) s0,t2,1,U,h4,R2,(((PL.go' _).app _).app _).app _,t2e,by omega,by omega,by omega,by omega,fun H5 y22 t22 h5 R5 t5 m5 _ _ _ _ _ _=>?_⟩
    have l5:t22.length=1:=by have:=congrArg List.length m5; rw[length_map] at this; rw[this]; exact Cy.one (i+b+l) 1
    have R5':Rep W (W.go (i+b+(l+1)) s0) y22:=by rw[show i+b+(l+1)=i+b+l+1 by omega,(bD W (i+b+l) 1 s0).1]; exact R5
    have h6:Has H5 (yL t.c_Yard F yf++(trK W tf++(yL t.c_Yard A2 y22++(trK W (t2++t22)++(M++(yL t.c_Yard A y++L)))))):=by
     have:=Has.comm (X:=yL t.c_Yard A2 y22++trK W (t2++t22)) (Y:=yL t.c_Yard F yf++trK W tf) (R:=M++(yL t.c_Yard A y++L)) (by rw[append_assoc]; exact h5)
     rw[append_assoc,append_assoc] at this
     exact this
    refine⟨_,_,U,U,?_⟩
    refine⟨lam - (l+1),by omega,l+1,yf,y22,tf,t2++t22,U,by omega,by omega,?_,h6,Rf,R5',t5,by rw[length_append]; omega⟩
    rw[l5]
    rfl
   ·subst hc
    have hA:∀ {H:Hp}{X:Kn},Has H (X++(yL t.c_Yard A y++L))->∀ {p:Addr},H p=none->∀ o,Has (upd H p o) ((p,o)::(yL t.c_Yard A y++L)):=fun {H X} h {p} hp o=>Has.sub (h.alloc hp o) (List.Sublist.cons₂ _ (List.sublist_append_right _ _))
    have h9:Has H6 ((yL t.c_Yard F yf++(trK W tf++(yL t.c_Yard A2 y2++(trK W t2++M))))++(yL t.c_Yard A y++L)):=by
     rw[append_assoc,append_assoc,append_assoc,append_assoc]; exact h2
    refine⟨_,U,_,U,_,_,U,U,_,U,_,_,U,U,_,U,if2 (fun hc=>?_) (fun hc=>?_)⟩
    ·have hlt:(lim:Int)<(b:Int)+(l:Int):=of_decide_eq_true hc
     refine⟨_,U,(show 2<=sizeLine by decide),fun p hp=>?_⟩
     refine q _ p ?_
     have e:dA b l lim=[.str "open",.int (lim:Int)]:=by unfold dA; rw[if_neg (by omega)]
     rw[e]
     exact hA h9 hp _
    ·have hlt:¬ (lim:Int)<(b:Int)+(l:Int):=of_decide_eq_false hc
     refine⟨_,U,_,U,(show 3<=sizeLine by decide),fun p hp=>?_⟩
     refine q _ p ?_
     have e:dA b l lim=[.str "round",.int (b:Int),.int (l:Int)]:=by unfold dA; rw[if_pos (by omega)]
     rw[e]
     exact hA h9 hp _
end
theorem ls {mu lam:Nat} (h:0<lam):∃ k,1<=k/\k<=mu+lam/\mu<=k/\lam ∣ k:=by
 by_cases c:mu=0
 ·exact⟨lam,h,by omega,by omega,Nat.dvd_refl _⟩
 ·have e:=Nat.div_add_mod (mu+lam - 1) lam
  have l:=Nat.mod_lt (mu+lam - 1) h
  exact⟨lam*((mu+lam - 1) / lam),by omega,by omega,by omega,Nat.dvd_mul_right _ _⟩
theorem fb (w:Wd):∀ (n:Nat) (s:Sd),(w.hist n s).length<=n
 | 0,s=>Nat.le_refl _
 | n+1,s=>by
  cases h:w.nx s with
  | none=>rw[ba w h]; exact Nat.zero_le _
  | some s'=>rw[aX w h,length_cons]; have:=fb w n s'; omega
theorem qD {P:Nat->Prop}:∀ {n:Nat},P n->∃ m,m<=n/\P m/\∀ k,k<m->¬ P k:=by
 intro n
 induction n using Nat.strongRecOn with
 | ind n ih=>
  intro h
  by_cases c:∃ k,k<n/\P k
  ·obtain⟨k,hk,pk⟩:=c
   obtain⟨m,a,b,d⟩:=ih k hk pk
   exact⟨m,by omega,b,d⟩
  ·exact⟨n,Nat.le_refl _,h,fun k hk pk=>c ⟨k,hk,pk⟩⟩
theorem rY {E:Nat->Nat->Prop} (rf:∀ i,E i i) (sy:∀ {i j},E i j->E j i) (tr:∀ {i j k},E i j->E j k->E i k) (st:∀ {i j},E i j->E (i+1) (j+1)) {i:Nat} (hi:1<=i) (h:E i (2*i)) :
  ∃ mu lam,0<lam/\mu<=i/\lam ∣ i/\lam<=i/\∀ j k,j<k->(E j k↔mu<=j/\lam ∣ (k - j)):=by
 have sh:∀ (n:Nat) {a b:Nat},E a b->E (a+n) (b+n):=fun n=>by
  induction n with
  | zero=>intro a b e; exact e
  | succ n ih=>intro a b e; exact st (ih e)
 have up:∀ {a p:Nat},E a (a+p)->∀ (q n:Nat),E (a+n) (a+n+p*q):=fun {a p} e q=>by
  induction q with
  | zero=>intro n; rw[Nat.mul_zero]; exact rf _
  | succ q ih=>
   intro n
   have e1:=sh n e
   have e2:=ih (n+p)
   rw[show a+(n+p)=a+n+p by omega] at e2
   rw[show a+p+n=a+n+p by omega] at e1
   have:=tr e1 e2
   rw[Nat.mul_succ,show a+n+(p*q+p)=a+n+p+p*q by omega]
   exact this
 obtain⟨mu,mui,⟨p0,p00,e0⟩,mm⟩:=qD (P:=fun m=>∃ p,0<p/\E m (m+p)) (n:=i) ⟨i,by omega,by rw[show i+i=2*i by omega]; exact h⟩
 obtain⟨lam,lp,⟨l0,le⟩,lm⟩:=qD (P:=fun p=>0<p/\E mu (mu+p)) (n:=p0) ⟨p00,e0⟩
 have main:∀ j k,j<k->(E j k↔mu<=j/\lam ∣ (k - j)):=fun j k hjk=>by
  constructor
  ·intro e
   have mj:mu<=j:=Nat.le_of_not_lt fun c=>mm j c ⟨k - j,by omega,by rw[show j+(k - j)=k by omega]; exact e⟩
   refine⟨mj,?_⟩
   obtain⟨t,ht⟩:∃ t,j=mu+t:=⟨j - mu,by omega⟩
   obtain⟨p,hp⟩:∃ p,k=j+p:=⟨k - j,by omega⟩
   have em:=Nat.div_add_mod p lam
   have ml:=Nat.mod_lt p l0
   rw[show k - j=p by omega]
   by_cases r0:p % lam=0
   ·exact Nat.dvd_of_mod_eq_zero r0
   ·exfalso
    have e1:=up le (p / lam) (t+p % lam)
    have e2:E j (j+p % lam):=by
     have e3:E (j+p % lam) k:=by
      rw[show mu+(t+p % lam)=j+p % lam by omega,show j+p % lam+lam*(p / lam)=k by omega] at e1
      exact e1
     exact tr e (sy e3)
    have e4:=sh (lam*t - t) e2
    have lt:t<=lam*t:=Nat.le_mul_of_pos_left t l0
    rw[show j+(lam*t - t)=mu+lam*t by omega,show j+p % lam+(lam*t - t)=mu+p % lam+lam*t by omega] at e4
    have e5:=up le t 0
    have e6:=up le t (p % lam)
    rw[Nat.add_zero] at e5
    exact lm (p % lam) ml ⟨by omega,tr (tr e5 e4) (sy e6)⟩
  ·rintro⟨mj,q,hq⟩
   have:=up le q (j - mu)
   rw[show mu+(j - mu)=j by omega,show j+lam*q=k by omega] at this
   exact this
 have di:=((main i (2*i) (by omega)).mp h).2
 rw[show 2*i - i=i by omega] at di
 exact⟨mu,lam,l0,mui,di,Nat.le_of_dvd (by omega) di,main⟩
theorem Lk.rf (s:Sd):Lk s s:=⟨U,U⟩
theorem Lk.sy {s t:Sd} (h:Lk s t):Lk t s:=⟨h.s.symm,h.a.symm⟩
theorem Lk.tr {s t u:Sd} (h:Lk s t) (h2:Lk t u):Lk s u:=⟨h.s.trans h2.s,h.a.trans h2.a⟩
theorem Lk.st {w:Wd}{s:Sd}{i j:Nat} (h:Lk (w.go i s) (w.go j s)):Lk (w.go (i+1) s) (w.go (j+1) s):=by
 rw[(bD w i 1 s).1,(bD w j 1 s).1]
 rcases kF (w:=w) h with ⟨h1,h2⟩ | ⟨t1,t2,h1,h2,T⟩
 ·rw[bh w h1,bh w h2]; exact h
 ·rw[bg w h1,bg w h2]; exact T
theorem Lk.sh {w:Wd}{s:Sd}{i j:Nat} (h:Lk (w.go i s) (w.go j s)):∀ n,Lk (w.go (i+n) s) (w.go (j+n) s)
 | 0=>h
 | n+1=>Lk.st (Lk.sh h n)
theorem kx {w:Wd}{s:Sd}{n:Nat} (h:(w.hist n s).length=n) {k:Nat} (hk:k<=n):(w.hist k s).length=k:=by
 have:=(bD w k (n - k) s).2
 rw[show k+(n - k)=n by omega,h] at this
 have a:=fb w k s
 have b:=fb w (n - k) (w.go k s)
 omega
theorem iT {w:Wd}{s:Sd}{n k:Nat} (h:(w.hist n s).length=n) (hk:k<n):∃ s',w.nx (w.go k s)=some s':=by
 have h1:=kx h (show k+1<=n by omega)
 have:=(bD w k 1 s).2
 rw[h1,kx h (show k<=n by omega)] at this
 cases c:w.nx (w.go k s) with
 | none=>rw[ba w c] at this; simp at this
 | some s'=>exact⟨s',U⟩
theorem ku {w:Wd}{s:Sd}:∀ {n:Nat},(∀ k,k<n->∃ s',w.nx (w.go k s)=some s')->(w.hist n s).length=n
 | 0,_=>rfl
 | n+1,h=>by
  have a:=(bD w n 1 s).2
  obtain⟨s',hs⟩:=h n (by omega)
  rw[a,ku (fun k hk=>h k (by omega)),aX w hs]
  rfl
theorem Cyc.of {w:Wd}{s:Sd}{i:Nat} (hi:1<=i) (on:(w.hist (2*i) s).length=2*i) (h:Lk (w.go i s) (w.go (2*i) s)):∃ mu lam,Cyc w s mu lam/\mu<=i/\lam ∣ i/\lam<=i:=by
 obtain⟨mu,lam,l0,mi,di,li,main⟩:=rY (E:=fun a b=>Lk (w.go a s) (w.go b s)) (fun a=>Lk.rf _) (fun h=>h.sy) (fun h h2=>h.tr h2) (fun h=>h.st) hi h
 have nx:∀ n,∃ s',w.nx (w.go n s)=some s':=fun n=>by
  induction n using Nat.strongRecOn with
  | ind n ih=>
   by_cases c:n<2*i
   ·exact iT on c
   ·obtain⟨s',hs⟩:=ih (n - i) (by omega)
    have e:=h.sh (n - 2*i)
    rw[show i+(n - 2*i)=n - i by omega,show 2*i+(n - 2*i)=n by omega] at e
    rcases kF (w:=w) e with ⟨h1,_⟩ | ⟨t1,t2,_,h2,_⟩
    ·rw[h1] at hs; cases hs
    ·exact⟨t2,h2⟩
 exact⟨mu,lam,⟨l0,fun n=>ku fun k _=>nx k,main⟩,mi,di,li⟩
noncomputable def FR (w:Wd) (s:Sd) (lim:Nat) (xs:List V):Prop :=
 (∃ n,n<=lim/\(w.hist n s).length=n/\w.nx (w.go n s)=none/\xs=[.str "held",w.why (w.go n s),.int n]) ∨
 (∃ mu lam,Cyc w s mu lam/\mu+lam<=lim/\xs=[.str "round",.int mu,.int lam]) ∨
 ((w.hist (lim+1) s).length=lim+1/\(∀ i j,i<j->j<=lim->¬ Lk (w.go i s) (w.go j s))/\xs=[.str "open",.int lim])
theorem FR.round {w:Wd}{s:Sd}{mu lam lim:Nat} (C:Cyc w s mu lam):FR w s lim (dA mu lam lim):=by
 unfold dA
 by_cases c:mu+lam<=lim
 ·rw[if_pos c]; exact .inr (.inl ⟨mu,lam,C,c,U⟩)
 ·rw[if_neg c]
  refine .inr (.inr ⟨C.on _,fun i j hij hj e=>?_,U⟩)
  obtain⟨a,q,b⟩:=(C.lk i j hij).mp e
  have:1<=q:=Nat.one_le_iff_ne_zero.mpr (fun z=>by rw[z,Nat.mul_zero] at b; omega)
  have:lam*1<=lam*q:=Nat.mul_le_mul_left lam this
  omega
theorem ed {w:Wd}{s:Sd}{n:Nat} (on:(w.hist n s).length=n) (hn:w.nx (w.go n s)=none):∀ i j,i<j->j<=n->¬ Lk (w.go i s) (w.go j s):=fun i j hij hj e=>by
 have e2:=e.sh (n - j)
 rw[show j+(n - j)=n by omega] at e2
 obtain⟨s',hs⟩:=iT on (show i+(n - j)<n by omega)
 rcases kF (w:=w) e2 with ⟨h1,_⟩ | ⟨_,_,_,h2,_⟩
 ·rw[h1] at hs; cases hs
 ·rw[h2] at hn; cases hn
theorem jw {w:Wd}{s:Sd}{lim:Nat} (nk:∀ k,1<=k->k<=lim->¬ Lk (w.go k s) (w.go (2*k) s)):∀ i j,i<j->j<=lim->¬ Lk (w.go i s) (w.go j s):=fun i j hij hj e=>by
 obtain⟨p,hp⟩:∃ p,j=i+p:=⟨j - i,by omega⟩
 subst hp
 have p0:0<p:=by omega
 obtain⟨k,k1,k2,k3,q,hq⟩:∃ k,1<=k/\k<=i+p/\i<=k/\p ∣ k:=ls p0
 have up:∀ q n,Lk (w.go (i+n) s) (w.go (i+n+p*q) s):=fun q=>by
  induction q with
  | zero=>intro n; exact Lk.rf _
  | succ q ih=>
   intro n
   have a:=e.sh n
   have b:=ih (n+p)
   rw[show i+(n+p)=i+n+p by omega] at b
   rw[show i+p+n=i+n+p by omega] at a
   rw[Nat.mul_succ,show i+n+(p*q+p)=i+n+p+p*q by omega]
   exact a.tr b
 have:=up q (k - i)
 rw[show i+(k - i)=k by omega,<- hq,show k+k=2*k by omega] at this
 exact nk k k1 (by omega) this
noncomputable def oT (C:Addr):Sp:=fun vs H Q _=>∃ (A:YA) (y:YR) (L:Kn) (W:Wd) (s:Sd) (m:Int),vs=[.ref A.p,.int m]/\Has H (yL C A y++L)/\Rep W s y/\Pool W s L/\EK y.mates/\m<=1000/\s.rg.length<=100000/\s.at_≠none /\
 ∀ H' p xs,FR W s m.toNat xs->Has H' ((p,.tup xs)::(yL C A y++L))->Q (.ref p) H'
noncomputable def kL (C:Addr) (A Bs Bf:YA) (y:YR) (L:Kn) (W:Wd) (s:Sd) (m:Int) (r:Nat) (σ:St) (H:Hp):Prop :=
 ∃ (i:Nat) (ys yf:YR) (ts tf:List (Addr×Sd)) (o1 o2:Option V),r=m.toNat - i/\i<=m.toNat/\σ=[some (.ref A.p),some (.int m),some (.int m.toNat),some (.ref Bs.p),some (.ref Bf.p),some (.int i),some (.int ((2*i:Nat):Int)),o1,o2] /\
  Has H (yL C Bs ys++(trK W ts++(yL C Bf yf++(trK W tf++(yL C A y++L)))))/\Rep W (W.go i s) ys/\Rep W (W.go (2*i) s) yf/\ys.trail=trV ts/\yf.trail=trV tf/\ts.length=i/\tf.length=2*i/\(W.hist (2*i) s).length=2*i/\∀ k,1<=k->k<=i->¬ Lk (W.go k s) (W.go (2*k) s)
section
variable {P:Program}{w:World}{K:PySem.W.Frag}{mg:Str->Option Value}{base:Heap}{t:Adr}
theorem cH {w:Wd}{s:Sd} (h:∀ z,s.at_=some z->w.ok z):w.why s=.non↔∃ s',w.nx s=some s':=by
 constructor
 ·intro e
  cases hz:s.at_ with
  | none=>rw[(cC (w:=w) hz).2] at e; cases e
  | some z=>
   obtain⟨k,hk,_⟩:=h z hz
   by_cases c:k.out z.2.2 (w.sv s z.2.1)=.non
   ·rw[(bJ hz hk c).2] at e; cases e
   ·obtain⟨o,ho⟩:=Kd.out_int (k:=k) (fun e=>c (by unfold Kd.out; rw[if_pos e])) z.2.2 (w.sv s z.2.1)
    cases hm:w.mf z.2.1 o with
    | none=>rw[(bA hz hk ho hm).2] at e; cases e
    | some z'=>exact⟨_,dk hz hk ho hm⟩
 ·rintro⟨s',hs⟩
  exact jv hs
theorem scFt:FnScope ["yard","most","limit","slow","fast","slow_steps","fast_steps","done","why"] ["yard","most"] (ah mZ):={}
theorem pi (T:Txt K mg t):FnOk P w K mg base CX0 8 t.f_fate t.d_fate ["yard","most"] (oT t.c_Yard):=by
 refine T.F_fate.ok scFt (fun vs H Q E h=>?_) (fun cdv A outer s H vs Q E hr h=>?_)
 ·obtain⟨_,_,_,_,_,_,rfl,_⟩:=h
  rfl
 ·obtain⟨A,y,L,W,s0,m,rfl,hH,R,PL,ek,mb,rb,at0,q⟩:=h
  refine⟨_,(ab (am (i:=2) scFt.nd rfl (Or.inl rfl) (aI (gE rfl) (by rfl) T.z_max (by rfl) (aa (pv 1) (aa ag ae))))
   (ab (am (i:=3) scFt.nd rfl (Or.inl rfl) (pcl (gW T) hr T.m_twin T.F_twin.kp (jU T) (aa (pv 0) ae)))
   (ab (am (i:=4) scFt.nd rfl (Or.inl rfl) (pcl (gW T) hr T.m_twin T.F_twin.kp (jU T) (aa (pv 0) ae)))
   (ab (oZ ag (ar (i:=5) scFt.nd rfl (Or.inl rfl)) (ar (i:=6) scFt.nd rfl (Or.inl rfl)))
   (ab (cm PassesOwn.never (ai cW (pv 5) (pv 2) (aj _))
    (ab (am (i:=7) scFt.nd rfl (Or.inl rfl) (pcl (cX T) hr T.m_run T.F_run.kp (eM T) (aa (pv 4) (aa ag ae))))
     (ab (ft (i:=6) scFt.nd rfl (Or.inl rfl) (pv 7) fL)
     (ab (av (ai cW (pv 7) ag (aj _))
      (af iK)
      ak)
     (ab (ft (i:=5) scFt.nd rfl (Or.inl rfl) (pcl (cX T) hr T.m_run T.F_run.kp (eM T) (aa (pv 3) (aa ag ae))) fL)
     (af (av (cj (pcl (fz T) hr T.m_alike T.F_alike.kp (iw T) (aa (pv 3) (aa (pv 4) ae))))
      (af (ao (pcl (ok_J6 T) hr T.m_J6 T.F_J6.kp (b_J6 T) (aa (pv 0) (aa (pv 3) (aa (pv 2) ae))))))
      ak)))))))
   (ab (am (i:=8) scFt.nd rfl (Or.inl rfl) (pcl (ph T) hr T.m_held T.F_held.kp (sf T) (aa (pv 4) ae)))
   (ab (av (PW.pt (cT (ai dN (pv 8) bn (aj _)) (cv (ai qp (pv 6) (pv 2) (aj _)))))
    (af (ao (aO (aa aF (aa (pv 8) (aa (pv 6) ae))))))
    ak)
   (af (ao (aO (aa aF (aa (pv 2) ae)))))))))))),?_⟩
  refine⟨_,U,_,_,U,?_⟩
  rw[show(if (0:Int) > m then 0 else m)=(m.toNat:Int) by split <;> omega]
  refine⟨_,U,A,y,L,U,hH,ek,fun H1 Bs h1=>?_⟩
  replace h1:=Has.comm (X:=yL t.c_Yard Bs { y with trail:=[] }) (Y:=yL t.c_Yard A y) (R:=L) h1
  refine⟨_,U,A,y,_,U,h1,ek,fun H2 Bf h2=>?_⟩
  have h3:Has H2 (yL t.c_Yard Bs { y with trail:=[] }++(trK W []++(yL t.c_Yard Bf { y with trail:=[] }++(trK W []++(yL t.c_Yard A y++L))))):=by
   show Has H2 (yL t.c_Yard Bs { y with trail:=[] }++(yL t.c_Yard Bf { y with trail:=[] }++(yL t.c_Yard A y++L)))
   refine Has.perm h2 ?_
   rw[<- append_assoc (yL t.c_Yard Bf { y with trail:=[] }),<- append_assoc (yL t.c_Yard Bf { y with trail:=[] })]
   exact List.perm_append_comm_assoc _ _ _
  clear h2 h1 hH
  dsimp only[kK,List.set]
  refine⟨kL t.c_Yard A Bs Bf y L W s0 m,⟨_,0,_,_,[],[],_,_,U,Nat.zero_le _,U,h3,R.twin,R.twin,U,U,U,U,U,fun k h1 h2=>by omega⟩,?_⟩
  clear h3
  rintro r σ H1 ⟨i,ys,yf,ts,tf,o1,o2,rfl,im,rfl,h1,Rs,Rf,t1,t2,l1,l2,on,nk⟩
  have h2:Has H1 (yL t.c_Yard Bf yf++(trK W tf++((yL t.c_Yard Bs ys++trK W ts)++(yL t.c_Yard A y++L)))):=by
   have:=Has.comm (X:=yL t.c_Yard Bs ys++trK W ts) (Y:=yL t.c_Yard Bf yf++trK W tf) (R:=yL t.c_Yard A y++L) (by rw[append_assoc,append_assoc]; exact h1)
   rw[append_assoc] at this
   exact this
  refine⟨_,U,_,U,_,_,U,U,_,U,if2 (fun hc=>?_) (fun hc=>?_)⟩
  ·have hlt:(i:Int)<((m.toNat:Nat):Int):=of_decide_eq_true hc
   refine⟨fun σ' H'=>∃ r',r'<m.toNat - i/\kL t.c_Yard A Bs Bf y L W s0 m r' σ' H',fun _ _ h=>h,?_⟩
   have rf:=cq W (2*i) s0
   have rf':yf.rung.length<=300000:=by rw[Rf.rg,length_map]; omega
   refine⟨_,U,Bf,yf,_,W,W.go (2*i) s0,tf,2,U,h2,Rf,((PL.go' _).app _).app _,t2,by omega,by omega,by omega,by omega,fun H3 yf2 tf2 h3 R3 t3 m3 _ _ _ _ _ P3=>?_⟩
   have e2:tf2.length=(W.hist 2 (W.go (2*i) s0)).length:=by have:=congrArg List.length m3; rw[length_map] at this; exact this
   have e2le:=fb W 2 (W.go (2*i) s0)
   have s2:=bD W (2*i) 2 s0
   have R3':Rep W (W.go (2*i+2) s0) yf2:=by rw[s2.1]; exact R3
   dsimp only[List.set]
   refine⟨_,U,_,U,_,_,U,U,?_⟩
   dsimp only[List.set]
   refine⟨_,U,_,_,U,U,_,U,?_⟩
   by_cases d2:tf2.length=2
   ·refine ifF (decide_eq_false (by omega)) ?_
    have on2:(W.hist (2*i+2) s0).length=2*i+2:=by rw[s2.2,on,<- e2,d2]
    have h4:Has H3 (yL t.c_Yard Bs ys++(trK W ts++((yL t.c_Yard Bf yf2++trK W (tf++tf2))++(yL t.c_Yard A y++L)))):=by
     have:=Has.comm (X:=yL t.c_Yard Bf yf2++trK W (tf++tf2)) (Y:=yL t.c_Yard Bs ys++trK W ts) (R:=yL t.c_Yard A y++L) (by rw[append_assoc]; exact h3)
     rw[append_assoc] at this
     exact this
    clear h3 h2 h1
    have rs:=cq W i s0
    have rs':ys.rung.length<=300000:=by rw[Rs.rg,length_map]; omega
    refine⟨_,U,_,U,Bs,ys,_,W,W.go i s0,ts,1,U,h4,Rs,((PL.go' _).app _).app _,t1,by omega,by omega,by omega,by omega,fun H5 ys2 ts2 h5 R5 t5 m5 _ _ _ _ _ P5=>?_⟩
    have e1:ts2.length=1:=by
     have:=congrArg List.length m5
     rw[length_map] at this
     rw[this]
     obtain⟨s',hs⟩:=iT on2 (show i<2*i+2 by omega)
     show(W.hist 1 (W.go i s0)).length=1
     rw[aX W hs]; rfl
    replace R5:Rep W (W.go (i+1) s0) ys2:=by rw[(bD W i 1 s0).1]; exact R5
    refine⟨_,_,U,U,?_⟩
    rw[append_assoc] at h5
    have a1:=bQ (w:=W) (i+1) s0 at0
    have a2:=bQ (w:=W) (2*i+2) s0 at0
    obtain⟨z1,hz1⟩:=Option.ne_none_iff_exists'.mp a1
    obtain⟨z2,hz2⟩:=Option.ne_none_iff_exists'.mp a2
    obtain⟨j1,g1⟩:=(PL.go' (i+1)).e z1 hz1
    obtain⟨j2,g2⟩:=(PL.go' (2*i+2)).e z2 hz2
    refine⟨_,U,_,U,Bs,Bf,ys2,yf2,_,_,z1,z2,(W.go (i+1) s0).ss,(W.go (2*i+2) s0).ss,U,h5,(by rw[R5.en,hz1]; rfl),(by rw[R3'.en,hz2]; rfl),mem_append_right _ (mem_append_right _ (mem_of_getElem? g1)),mem_append_right _ (mem_append_right _ (mem_of_getElem? g2)),R5.sd,R3'.sd,_,U,?_⟩
    have lkd:(decide (z1.2=z2.2) && decide ((W.go (i+1) s0).ss=(W.go (2*i+2) s0).ss))=true↔Lk (W.go (i+1) s0) (W.go (2*(i+1)) s0):=by
     rw[show 2*(i+1)=2*i+2 by omega,Bool.and_eq_true,decide_eq_true_eq,decide_eq_true_eq]
     constructor
     ·rintro⟨a,b⟩; exact⟨b,by rw[hz1,hz2]; exact congrArg some a⟩
     ·rintro⟨b,a⟩; rw[hz1,hz2] at a; exact⟨Option.some.inj a,b⟩
    refine if2 (fun hf=>?_) (fun hf=>?_)
    ·have lk:=lkd.mp hf
     obtain⟨mu,lam,Cy,mi,di,li⟩:=Cyc.of (show 1<=i+1 by omega) (by rw[show 2*(i+1)=2*i+2 by omega]; exact on2) lk
     refine⟨_,U,_,U,_,U,A,Bs,y,ys2,yL t.c_Yard Bf yf2++trK W (tf++tf2),L,ts++ts2,W,s0,i+1,m.toNat,mu,lam,U,(by rw[append_assoc (yL t.c_Yard Bf yf2)]; exact h5),R,R5,t5,by rw[length_append]; omega,PL,ek,Cy,di,mi,by omega,by omega,by omega,by omega,rb,at0,fun H' p h=>q H' p _ (FR.round Cy) h⟩
    ·refine⟨m.toNat - (i+1),by omega,i+1,ys2,yf2,ts++ts2,tf++tf2,some (.int tf2.length),o2,U,by omega,?_,h5,R5,by rw[show 2*(i+1)=2*i+2 by omega]; exact R3',t5,t3,by rw[length_append]; omega,by rw[length_append]; omega,by rw[show 2*(i+1)=2*i+2 by omega]; exact on2,fun k k1 k2=>?_⟩
     ·dsimp only[List.set]
      rw[show(i:Int)+(ts2.length:Int)=((i+1:Nat):Int) by omega,show(((2*i:Nat):Int)+(tf2.length:Int))=((2*(i+1):Nat):Int) by omega]
     ·by_cases c:k=i+1
      ·rw[c]; exact fun lk=>by rw[lkd.mpr lk] at hf; cases hf
      ·exact nk k k1 (by omega)
   ·refine ifT (decide_eq_true (by omega)) ?_
    obtain⟨dn,edn⟩:∃ dn,tf2.length=dn:=⟨_,U⟩
    have dn1:dn<=1:=by omega
    have on_n:(W.hist (2*i+dn) s0).length=2*i+dn:=by
     rw[(bD W (2*i) dn s0).2,on]
     have:=ku (w:=W) (s:=W.go (2*i) s0) (n:=dn) (fun k hk=>?_)
     ·rw[this]
     ·have k0:k=0:=by omega
      subst k0
      show ∃ s',W.nx (W.go (2*i) s0)=some s'
      cases c:W.nx (W.go (2*i) s0) with
      | some s'=>exact⟨s',U⟩
      | none=>
       rw[ba W c] at e2
       have e2:tf2.length=0:=e2
       omega
    have nx_n:W.nx (W.go (2*i+dn) s0)=none:=by
     rw[(bD W (2*i) dn s0).1]
     cases c:W.nx (W.go (2*i) s0) with
     | none=>rw[bh W c]; exact c
     | some s'=>
      rw[aX W c] at e2
      cases c2:W.nx s' with
      | none=>
       rw[ba W c2] at e2
       have e2:tf2.length=1:=e2
       have:dn=1:=by omega
       rw[this,bg W c]; exact c2
      | some s''=>
       rw[aX W c2] at e2
       have e2:tf2.length=2:=e2
       omega
    have go_n:W.go (2*i+2) s0=W.go (2*i+dn) s0:=by
     rw[show 2*i+2=(2*i+dn)+(2 - dn) by omega,(bD W (2*i+dn) (2 - dn) s0).1,bh W nx_n]
    rw[go_n] at R3'
    have frB:(W.nx (W.go (2*i+dn) s0)=none/\m.toNat<2*i+dn)∨(∃ s',W.nx (W.go (2*i+dn) s0)=some s')->FR W s0 m.toNat [.str "open",.int ((m.toNat:Nat):Int)]:=fun h=>by
     rcases h with ⟨_,c⟩ | ⟨s',hs⟩
     ·exact .inr (.inr ⟨kx on_n (by omega),fun a b hab hb=>ed on_n nx_n a b hab (by omega),U⟩)
     ·rw[nx_n] at hs; cases hs
    rw[show(((2*i:Nat):Int)+(tf2.length:Int))=((2*i+dn:Nat):Int) by omega]
    have hh:Has _ (yL t.c_Yard Bf yf2++((trK W (tf++tf2)++(yL t.c_Yard Bs ys++trK W ts))++(yL t.c_Yard A y++L))):=(by rw[append_assoc (trK W (tf++tf2))]; exact h3)
    refine⟨_,U,Bf,yf2,_,W,W.go (2*i+dn) s0,U,hh,R3',((PL.go' _).app _).app _,fun H9 h9=>?_⟩
    have fin:∀ (H':Hp) (p:Addr) (xs:List V),FR W s0 m.toNat xs->Has H' ((p,HO.tup xs)::(yL t.c_Yard Bf yf2++((trK W (tf++tf2)++(yL t.c_Yard Bs ys++trK W ts))++(yL t.c_Yard A y++L))))->Q (.ref p) H':=fun H' p xs f h=>q H' p xs f (Has.sub h (List.Sublist.cons₂ _ (List.Sublist.trans (List.sublist_append_right _ _) (List.sublist_append_right _ _))))
    refine⟨_,U,U,_,U,?_⟩
    cases hw:W.nx (W.go (2*i+dn) s0) with
    | some s'=>
     rw[jv hw]
     refine ifF rfl (bT ?_)
     refine⟨_,U,(show 2<=sizeLine by decide),fun p hp=>fin _ p _ (frB (.inr ⟨s',hw⟩)) (h9.alloc hp _)⟩
    | none=>
     obtain⟨x,hx⟩:∃ x,W.why (W.go (2*i+dn) s0)=.str x:=by
      rcases d4 W (W.go (2*i+dn) s0) (fun z hz=>(R3').eo z hz) with e | ⟨x,e⟩
      ·exfalso
       rcases (cH (w:=W) (s:=W.go (2*i+dn) s0) (fun z hz=>(R3').eo z hz)).mp e with ⟨s',hs⟩
       rw[hw] at hs; cases hs
      ·exact⟨x,e⟩
     rw[hx]
     refine ifT rfl ?_
     refine⟨_,U,_,U,_,_,U,U,_,U,ifd (fun c=>?_) (fun c=>?_)⟩
     ·refine⟨_,U,_,U,(show 3<=sizeLine by decide),fun p hp=>fin _ p _ (.inl ⟨2*i+dn,by omega,on_n,hw,by rw[hx]⟩) (h9.alloc hp _)⟩
     ·refine⟨_,U,(show 2<=sizeLine by decide),fun p hp=>fin _ p _ (frB (.inl ⟨hw,by omega⟩)) (h9.alloc hp _)⟩
  ·have hge:¬ (i:Int)<((m.toNat:Nat):Int):=of_decide_eq_false hc
   have ei:i=m.toNat:=by omega
   have on_n:=on
   have frB:(W.nx (W.go (2*i) s0)=none/\m.toNat<2*i)∨(∃ s',W.nx (W.go (2*i) s0)=some s')->FR W s0 m.toNat [.str "open",.int ((m.toNat:Nat):Int)]:=fun h=>by
    refine .inr (.inr ⟨?_,jw (fun k k1 k2=>nk k k1 (by omega)),U⟩)
    rcases h with ⟨_,c⟩ | ⟨s',hs⟩
    ·exact kx on (by omega)
    ·refine ku fun k hk=>?_
     by_cases c:k<2*i
     ·exact iT on c
     ·have:k=2*i:=by omega
      rw[this]; exact⟨s',hs⟩
   have hh:Has _ (yL t.c_Yard Bf yf++((trK W tf++(yL t.c_Yard Bs ys++trK W ts))++(yL t.c_Yard A y++L))):=(by rw[append_assoc (trK W tf)]; exact h2)
   refine⟨_,U,Bf,yf,_,W,W.go (2*i) s0,U,hh,Rf,((PL.go' _).app _).app _,fun H9 h9=>?_⟩
   have fin:∀ (H':Hp) (p:Addr) (xs:List V),FR W s0 m.toNat xs->Has H' ((p,HO.tup xs)::(yL t.c_Yard Bf yf++((trK W tf++(yL t.c_Yard Bs ys++trK W ts))++(yL t.c_Yard A y++L))))->Q (.ref p) H':=fun H' p xs f h=>q H' p xs f (Has.sub h (List.Sublist.cons₂ _ (List.Sublist.trans (List.sublist_append_right _ _) (List.sublist_append_right _ _))))
   refine⟨_,U,U,_,U,?_⟩
   cases hw:W.nx (W.go (2*i) s0) with
   | some s'=>
    rw[jv hw]
    refine ifF rfl (bT ?_)
    refine⟨_,U,(show 2<=sizeLine by decide),fun p hp=>fin _ p _ (frB (.inr ⟨s',hw⟩)) (h9.alloc hp _)⟩
   | none=>
    obtain⟨x,hx⟩:∃ x,W.why (W.go (2*i) s0)=.str x:=by
     rcases d4 W (W.go (2*i) s0) (fun z hz=>(Rf).eo z hz) with e | ⟨x,e⟩
     ·exfalso
      rcases (cH (w:=W) (s:=W.go (2*i) s0) (fun z hz=>(Rf).eo z hz)).mp e with ⟨s',hs⟩
      rw[hw] at hs; cases hs
     ·exact⟨x,e⟩
    rw[hx]
    refine ifT rfl ?_
    refine⟨_,U,_,U,_,_,U,U,_,U,ifd (fun c=>?_) (fun c=>?_)⟩
    ·refine⟨_,U,_,U,(show 3<=sizeLine by decide),fun p hp=>fin _ p _ (.inl ⟨2*i,by omega,on_n,hw,by rw[hx]⟩) (h9.alloc hp _)⟩
    ·refine⟨_,U,(show 2<=sizeLine by decide),fun p hp=>fin _ p _ (frB (.inl ⟨hw,by omega⟩)) (h9.alloc hp _)⟩
end
noncomputable def NT (z:Addr×HO):Prop:=∀ ps,z.2≠.tbl ps
theorem gC {H:Hp}{L L':Kn} (h:Has H L) (e:L=L'):Has H L':=e ▸ h
theorem sz {n:Nat} (h:n<=1000000):n<=sizeLine:=Nat.le_of_lt (aB h)
theorem sz_ (n:Nat) (h:n<=1000000:=by decide):n<=sizeLine:=sz h
theorem kI {H:Hp}{Z X Y R:Kn} (h:Has H (Z++(X++(Y++R)))):Has H (Z++(Y++(X++R))):=h.perm (List.Perm.append_left Z (by rw[<- append_assoc,<- append_assoc]; exact List.perm_append_comm.append_right R))
noncomputable def Stb (K:PySem.W.Frag) (M:Kn) (d:PyData) (v:V):Prop:=∀ H:Hp,(∀ z ∈ M,NT z->H z.1=some z.2)->DV K H d v
noncomputable def Stbs (K:PySem.W.Frag) (M:Kn) (ds:List PyData) (vs:List V):Prop:=∀ H:Hp,(∀ z ∈ M,NT z->H z.1=some z.2)->DVs K H ds vs
theorem DVs.app {K:PySem.W.Frag}{H:Hp}:∀ {ds:List PyData}{vs:List V}{d:PyData}{v:V},DVs K H ds vs->DV K H d v->DVs K H (ds++[d]) (vs++[v])
 | [],vs,d,v,h,h2=>by
  have e:vs=[]:=by unfold DVs at h; exact h
  subst e
  show DVs K H [d] [v]
  unfold DVs
  exact⟨v,[],U,h2,by unfold DVs; rfl⟩
 | d0::ds,vs,d,v,h,h2=>by
  unfold DVs at h
  obtain⟨v0,r,rfl,h3,h4⟩:=h
  show DVs K H (d0::(ds++[d])) (v0::(r++[v]))
  unfold DVs
  exact⟨v0,_,U,h3,DVs.app h4 h2⟩
theorem Stbs.snoc {K:PySem.W.Frag}{M:Kn}{ds:List PyData}{vs:List V}{d:PyData}{v:V} (h:Stbs K M ds vs) (h2:Stb K M d v):Stbs K M (ds++[d]) (vs++[v]):=fun H hM=>DVs.app (h H hM) (h2 H hM)
theorem Stbs.nil {K:PySem.W.Frag}{M:Kn}:Stbs K M [] []:=fun H _=>by unfold DVs; rfl
theorem Stbs.mono {K:PySem.W.Frag}{M M':Kn}{ds:List PyData}{vs:List V} (h:Stbs K M ds vs) (s:∀ z ∈ M,NT z->z ∈ M'):Stbs K M' ds vs:=fun H hM=>h H fun z hz nt=>hM z (s z hz nt) nt
theorem Stb.int {K:PySem.W.Frag}{M:Kn} (i:Int):Stb K M (.int i) (.int i):=fun H _=>by unfold DV; rfl
theorem Stb.str {K:PySem.W.Frag}{M:Kn} (x:Str):Stb K M (.str x) (.str x):=fun H _=>by unfold DV; rfl
theorem Stb.lst {K:PySem.W.Frag}{M:Kn}{l:Addr}{vs:List V}{ds:List PyData} (m:(l,HO.lst vs) ∈ M) (h:Stbs K M ds vs):Stb K M (.list ds) (.ref l):=fun H hM=>by
 unfold DV
 exact⟨l,vs,U,SqL.of (hM _ m (fun _ e=>nomatch e)),h H hM⟩
theorem Stbs.ints {K:PySem.W.Frag}{M:Kn} (ns:List Int):Stbs K M (ns.map PyData.int) (ns.map V.int):=fun H _=>DVs.map _ _ _ fun x _=>by unfold DV; rfl
noncomputable def ii:Option En->PyData
 | none=>.none
 | some z=>.tuple [.int z.2.1,.int z.2.2]
theorem Stb.en {K:PySem.W.Frag}{M:Kn}{u:Option En} (h:∀ z,u=some z->(z.1,HO.tup [.int z.2.1,.int z.2.2]) ∈ M):Stb K M (ii u) (enV u):=fun H hM=>by
 cases u with
 | none=>show DV K H .none .non; unfold DV; rfl
 | some z=>
  show DV K H (.tuple [.int z.2.1,.int z.2.2]) (.ref z.1)
  unfold DV
  refine⟨z.1,_,U,SqT.of (hM _ (h z rfl) (fun _ e=>nomatch e)),?_⟩
  exact DVs.map PyData.int V.int [z.2.1,z.2.2] fun x _=>by unfold DV; rfl
noncomputable def ca (w:Wd) (p:Int×Kd):List PyData:=[.str p.2.str]++(if p.2=.bell then [.int (w.nf p.1)] else [])++(if p.2.point=true then [.int (w.rf p.1)] else [])++(List.range p.2.many.toNat).map fun e:Nat=>ii (w.mf p.1 e)
noncomputable def dq (s:Sd) (KS:List (Int×Kd)):List PyData:=[.list ((KS.map (·.1)).map .int),.list (((List.range s.ss.length).map fun i:Nat=>(i:Int)).map .int),ii s.at_,.list (s.rg.map .int)]
noncomputable def dO (w:Wd) (s:Sd) (KS:List (Int×Kd)):PyData:=.list (dq s KS++KS.flatMap (ca w)++s.ss.map .int)
theorem jg (u:Option En):(ii u).canLay0=true/\(ii u).depth<=2:=by cases u <;> simp[ii,PyData.canLay0,PyData.canLayAll0,PyData.depth,PyData.depthAll]
theorem Kd.strOk (k:Kd):PyData.strOk k.str=true:=by cases k <;> decide +kernel
theorem dZ:∀ (l:List PyData),(∀ x ∈ l,x.canLay0=true)->PyData.canLayAll0 l=true
 | [],_=>rfl
 | x::l,h=>by rw[PyData.canLayAll0,h x mem_cons_self,dZ l fun y hy=>h y (mem_cons_of_mem _ hy)]; rfl
theorem eJ (n:Nat):∀ (l:List PyData),(∀ x ∈ l,x.depth<=n)->PyData.depthAll l<=n
 | [],_=>Nat.zero_le _
 | x::l,h=>by
  rw[PyData.depthAll]
  exact Nat.max_le.mpr ⟨h x mem_cons_self,eJ n l fun y hy=>h y (mem_cons_of_mem _ hy)⟩
theorem g9 (ns:List Int):(PyData.list (ns.map .int)).canLay0=true/\(PyData.list (ns.map .int)).depth<=2:=by
 constructor
 ·rw[PyData.canLay0]; exact dy _ _ fun x _=>by simp[PyData.canLay0]
 ·rw[PyData.depth]
  have:=dW PyData.int 1 ns (fun x _=>by simp[PyData.depth])
  omega
theorem jE (w:Wd) (p:Int×Kd):∀ x ∈ ca w p,x.canLay0=true/\x.depth<=2:=by
 intro x hx
 unfold ca at hx
 rcases mem_append.mp hx with hx | hx
 ·rcases mem_append.mp hx with hx | hx
  ·rcases mem_append.mp hx with hx | hx
   ·rw[mem_singleton.mp hx]; exact⟨by rw[PyData.canLay0]; exact p.2.strOk,by simp[PyData.depth]⟩
   ·split at hx
    ·rw[mem_singleton.mp hx]; simp[PyData.canLay0,PyData.depth]
    ·cases hx
  ·split at hx
   ·rw[mem_singleton.mp hx]; simp[PyData.canLay0,PyData.depth]
   ·cases hx
 ·obtain⟨e,_,rfl⟩:=mem_map.mp hx
  exact jg _
theorem fH (w:Wd) (s:Sd) (KS:List (Int×Kd)):(dO w s KS).canLay0=true/\(dO w s KS).depth<=3:=by
 have h:∀ x ∈ dq s KS++KS.flatMap (ca w)++s.ss.map .int,x.canLay0=true/\x.depth<=2:=fun x hx=>by
  rcases mem_append.mp hx with hx | hx
  ·rcases mem_append.mp hx with hx | hx
   ·unfold dq at hx
    simp only[mem_cons,not_mem_nil,or_false] at hx
    rcases hx with rfl | rfl | rfl | rfl
    ·exact g9 _
    ·exact g9 _
    ·exact jg _
    ·exact g9 _
   ·obtain⟨p,_,hp⟩:=List.mem_flatMap.mp hx
    exact jE w p x hp
  ·obtain⟨i,_,rfl⟩:=mem_map.mp hx
   simp[PyData.canLay0,PyData.depth]
 constructor
 ·unfold dO; rw[PyData.canLay0]; exact dZ _ fun x hx=>(h x hx).1
 ·unfold dO; rw[PyData.depth]
  have:=eJ 2 _ fun x hx=>(h x hx).2
  omega
theorem kD (w:Wd) (s:Sd) (KS:List (Int×Kd)):SeqAt.shaped (dO w s KS)=true:=lc (fH w s KS).1 (by have:=(fH w s KS).2; omega)
noncomputable def jM (KS:List (Int×Kd)):List (Key×V):=KS.map fun p=>((Sum.inl p.1:Key),V.str p.2.str)
theorem lB (KS:List (Int×Kd)):(jM KS).map (fun kv=>kV kv.1)=(KS.map (·.1)).map V.int:=by
 unfold jM; rw[map_map,map_map]; rfl
noncomputable def oN (K:PySem.W.Frag) (C:Addr):Sp:=fun vs H Q _=>∃ (A:YA) (y:YR) (L:Kn) (w:Wd) (s:Sd) (KS:List (Int×Kd)),vs=[.ref A.p]/\Has H (yL C A y++L)/\Rep w s y/\Pool w s L/\fV y/\y.kinds=jM KS/\(∀ p ∈ KS,w.kf p.1=some p.2) /\
 ∀ H' l N,Stb K (N++L) (dO w s KS) (.ref l)->Has H' (yL C A y++(N++L))->Q (.ref l) H'
noncomputable def LkI (K:PySem.W.Frag) (C:Addr) (A:YA) (y:YR) (L:Kn) (rw:Addr) (N:Kn) (ds:List PyData) (c:Nat) (H:Hp):Prop:=∃ vs:List V,Stbs K (N++L) ds vs/\vs.length<=c/\Has H (yL C A y++((rw,HO.lst vs)::(N++L)))
theorem nV (n:Nat):du n=((List.range n).map fun i:Nat=>(i:Int)).map V.int:=by
 unfold du; rw[map_map]; rfl
section
variable {P:Program}{w:World}{K:PySem.W.Frag}{mg:Str->Option Value}{base:Heap}{t:Adr}
theorem scLo:FnScope ["_law_yard","_law_row","_law_piece","_law_kind_here","_law_place","_law_rod"] ["_law_yard"] (ah mW):={}
theorem ky (T:Txt K mg t):FnOk P w K mg base CX0 6 t.f_look t.d_look ["_law_yard"] (oN K t.c_Yard):=by
 refine T.F_look.ok scLo (fun vs H Q E h=>?_) (fun cdv A outer s H vs Q E hr h=>?_)
 ·obtain⟨_,_,_,_,_,_,rfl,_⟩:=h
  rfl
 ·obtain⟨A,y,L,W,sd,KS,rfl,hH,R,PL,sm,ek,hK,q⟩:=h
  have tupIn:∀ {u:Option En}{N:Kn},(∀ z,u=some z->∃ j:Nat,L[j]?=some (z.1,HO.tup [.int z.2.1,.int z.2.2]))->Stb K (N++L) (ii u) (enV u):=fun h=>Stb.en fun z hz=>by
   obtain⟨j,hj⟩:=h z hz
   exact mem_append_right _ (mem_of_getElem? hj)
  have kl:KS.length<=10000:=by have:=sm.k; rw[ek] at this; unfold jM at this; rw[length_map] at this; exact this
  have sl:sd.ss.length<=10000:=by have:=sm.s; rw[R.sd,length_map] at this; exact this
  refine⟨_,(ab (am (i:=1) scLo.nd rfl (Or.inl rfl) (bI (aa (aS (pv 0) T.cl_Yard T.M_Ja (qC T) hr (tT T) .nil aH) (aa (aS (pv 0) T.cl_Yard T.M_Jo (qt T) hr (tK T) .nil aH) (aa (aS (pv 0) T.cl_Yard T.M_J9 (kA T) hr (pU T) .nil aH) (aa (aS (pv 0) T.cl_Yard T.M_Jg (ok_Jg T) hr (b_Jg T) .nil aH) ae))))))
   (ab (b9 PassesOwn.never rfl (gR (aS (pv 0) T.cl_Yard T.M_Ja (qC T) hr (tT T) .nil aH)) (ar (i:=2) scLo.nd rfl (Or.inl rfl))
    (ab (am (i:=3) scLo.nd rfl (Or.inl rfl) (aK (pv 0) T.cl_Yard T.M_Jl (qw T) hr (tN T) .nil aH (aa (pv 2) ae)))
     (ab (al (bP PySem.F.plainAttrs_list PySem.F.slot_list_append PySem.F.type_list_append aR (pv 1) (aa (pv 3) ae)))
     (ab (dD (av (ai br (pv 3) aF (aj _))
      (af (al (bP PySem.F.plainAttrs_list PySem.F.slot_list_append PySem.F.type_list_append aR (pv 1) (aa (aK (pv 0) T.cl_Yard T.M_Jp (ok_Jp T) hr (b_Jp T) .nil aH (aa (pv 2) ae)) ae))))
      ak))
     (ab (dD (av (ai br (pcl (eU T) hr T.m_many T.F_many.kp (iu T) (aa (pv 3) ae)) ag (aj _))
      (af (al (bP PySem.F.plainAttrs_list PySem.F.slot_list_append PySem.F.type_list_append aR (pv 1) (aa (aK (pv 0) T.cl_Yard T.M_Jt (qr T) hr (tJ T) .nil aH (aa (pv 2) ae)) ae))))
      ak))
     (af (b9 PassesOwn.never rfl (bS (by rfl) T.z_range (aa (pcl (eU T) hr T.m_many T.F_many.kp (iu T) (aa (pv 3) ae)) ae)) (ar (i:=4) scLo.nd rfl (Or.inl rfl))
      (af (al (bP PySem.F.plainAttrs_list PySem.F.slot_list_append PySem.F.type_list_append aR (pv 1) (aa (aK (pv 0) T.cl_Yard T.M_Jm (qv T) hr (tM T) .nil aH (aa (aO (aa (pv 2) (aa (pv 4) ae))) ae)) ae)))))))))))
   (ab (b9 PassesOwn.never rfl (gR (aS (pv 0) T.cl_Yard T.M_Jo (qt T) hr (tK T) .nil aH)) (ar (i:=5) scLo.nd rfl (Or.inl rfl))
    (af (al (bP PySem.F.plainAttrs_list PySem.F.slot_list_append PySem.F.type_list_append aR (pv 1) (aa (aK (pv 0) T.cl_Yard T.M_Jn (qu T) hr (tL T) .nil aH (aa (pv 5) ae)) ae)))))
   (af (ao (pv 1)))))),?_⟩
  rw[show L2.start ["_law_yard","_law_row","_law_piece","_law_kind_here","_law_place","_law_rod"] [V.ref A.p]=([some (V.ref A.p),none,none,none,none,none]:St) from rfl]
  refine⟨_,U,A.p,A.dx,_,U,hH.get 1 U,(cw _ _ _).2.2.2.1,A,y,_,U,hH,fun H1 l1 h1=>?_⟩
  replace h1:=Has.comm (X:=[_]) (Y:=yL t.c_Yard A y) (R:=L) h1
  refine⟨_,U,A.p,A.dx,_,U,h1.get 1 U,(b5 _ _ _).2.2.2.1,A,y,_,U,h1,sm,fun H2 l2 h2=>?_⟩
  replace h2:=Has.comm (X:=[_]) (Y:=yL t.c_Yard A y) h2
  refine⟨_,U,A.p,A.dx,_,U,h2.get 1 U,(cw _ _ _).2.2.2.2.2.2.1,A,y,_,U,h2,?_⟩
  refine⟨_,U,A.p,A.dx,_,U,h2.get 1 U,(cw _ _ _).2.2.2.2.2.2.2.1,A,y,_,U,h2,fun H3 l3 h3=>?_⟩
  replace h3:=Has.comm (X:=[_]) (Y:=yL t.c_Yard A y) h3
  refine⟨(sz_ 4),fun rw_ hrw=>?_⟩
  have h4:=Has.comm (X:=[_]) (Y:=yL t.c_Yard A y) (h3.alloc hrw (.lst [.ref l1,.ref l2,y.eng,.ref l3]))
  generalize upd H3 rw_ _=H4 at h4 ⊢
  clear h3 h2 h1 hH hrw
  dsimp only[List.set]
  have eI:du y.sides.length=((List.range sd.ss.length).map fun i:Nat=>(i:Int)).map V.int:=by rw[R.sd,length_map]; exact nV _
  have ekk:(y.kinds.map fun kv=>kV kv.1)=(KS.map (·.1)).map V.int:=by rw[ek]; exact lB _
  rw[R.rg,eI,ekk,R.en] at h4
  obtain⟨N0,eN0⟩:∃ N0:Kn,[(l3,HO.lst (sd.rg.map V.int)),(l2,HO.lst (((List.range sd.ss.length).map fun i:Nat=>(i:Int)).map V.int)),(l1,HO.lst ((KS.map (·.1)).map V.int))]=N0:=⟨_,U⟩
  have L4:LkI K t.c_Yard A y L rw_ N0 (dq sd KS) 4 H4:=by
   subst eN0
   refine⟨[.ref l1,.ref l2,enV sd.at_,.ref l3],?_,Nat.le_refl 4,h4⟩
   have a1:=Stbs.nil.snoc (K:=K) (Stb.lst (l:=l1) (M:=[(l3,HO.lst (sd.rg.map V.int)),(l2,HO.lst (((List.range sd.ss.length).map fun i:Nat=>(i:Int)).map V.int)),(l1,HO.lst ((KS.map (·.1)).map V.int))]++L) (by simp) (Stbs.ints (KS.map (·.1))))
   have a2:=a1.snoc (Stb.lst (l:=l2) (by simp) (Stbs.ints ((List.range sd.ss.length).map fun i:Nat=>(i:Int))))
   have a3:=a2.snoc (tupIn (u:=sd.at_) PL.e)
   exact a3.snoc (Stb.lst (l:=l3) (by simp) (Stbs.ints sd.rg))
  clear h4 eN0
  obtain⟨vs4,sv4,lv4,h4⟩:=L4
  refine⟨_,U,A.p,A.dx,_,U,h4.get 1 U,(cw _ _ _).2.2.2.1,A,y,_,U,h4,fun H5 pl h5=>?_⟩
  rw[ekk] at h5
  have h5':=gC (kI (Z:=[]) (X:=[(pl,HO.lst ((KS.map (·.1)).map V.int))]) (Y:=yL t.c_Yard A y++[(rw_,HO.lst vs4)]) (R:=N0++L) (gC h5 (by simp))) (L':=yL t.c_Yard A y++((rw_,HO.lst vs4)::(((pl,HO.lst ((KS.map (·.1)).map V.int))::N0)++L))) (by simp)
  obtain⟨N1,eN1⟩:∃ N1:Kn,(pl,HO.lst ((KS.map (·.1)).map V.int))::N0=N1:=⟨_,U⟩
  rw[eN1] at h5'
  have mpl:(pl,HO.lst ((KS.map (·.1)).map V.int)) ∈ N1:=by rw[<- eN1]; exact mem_cons_self
  have L5:LkI K t.c_Yard A y L rw_ N1 (dq sd KS) 4 H5:=⟨vs4,sv4.mono (fun z hz _=>by rw[<- eN1]; exact mem_cons_of_mem _ hz),lv4,h5'⟩
  clear h5 h5' h4 sv4 lv4 eN1
  have gpl:∀ {ds c H'},LkI K t.c_Yard A y L rw_ N1 ds c H'->SqL K H' pl ((KS.map (·.1)).map V.int):=fun z_=>z_.elim fun vs z_=>z_.elim fun _ z_=>z_.elim fun _ h=>SqL.of (h.at_ _ (mem_append_right _ (mem_cons_of_mem _ (mem_append_left _ mpl))))
  refine⟨pl,U,⟨_,gpl L5⟩,fQ (xs:=(KS.map (·.1)).map V.int) (fun i σ H'=>∃ o1 o2 o3:Option V,σ=[some (.ref A.p),some (.ref rw_),o1,o2,o3,none]/\LkI K t.c_Yard A y L rw_ N1 (dq sd KS++(KS.take i).flatMap (ca W)) (4+6*i) H') ⟨_,_,_,U,by simpa using L5⟩ (fun i σ H' _ z_=>z_.elim fun _ z_=>z_.elim fun _ z_=>z_.elim fun _ z_=>z_.elim fun _ h=>gpl h) ?_ ?_⟩
  ·clear L5
   rintro i x σ H6 hx ⟨o1,o2,o3,rfl,L6⟩
   have hi:i<KS.length:=by have:=(List.getElem?_eq_some_iff.mp hx).1; simpa using this
   have ex:x=.int KS[i].1:=by
    rw[getElem?_map,getElem?_map,getElem?_eq_getElem hi] at hx
    exact(Option.some.inj hx).symm
   subst ex
   obtain⟨p,ep⟩:∃ p,KS[i]=p:=⟨_,U⟩
   have mp:p ∈ KS:=by rw[<- ep]; exact List.getElem_mem hi
   have hk:=hK p mp
   have tk:KS.take (i+1)=KS.take i++[p]:=by rw[List.take_succ,getElem?_eq_getElem hi,ep]; rfl
   rw[ep]
   obtain⟨D0,eD0⟩:∃ D0,dq sd KS++(KS.take i).flatMap (ca W)=D0:=⟨_,U⟩
   have eD1:dq sd KS++(KS.take (i+1)).flatMap (ca W)=D0++ca W p:=by rw[tk,List.flatMap_append,<- append_assoc,eD0]; simp
   rw[eD0] at L6
   rw[eD1]
   clear eD1 eD0 tk ep hx
   obtain⟨vs,sv,lv,h6⟩:=L6
   have km:1<=p.2.many/\p.2.many<=3:=by cases p.2 <;> decide
   dsimp only[List.set]
   refine⟨_,U,A.p,A.dx,_,U,h6.get 1 U,(cw _ _ _).2.2.2.2.1,_,U,A,y,_,p.1,_,U,h6,R.kd _ _ hk,?_⟩
   dsimp only[List.set]
   refine⟨_,U,.inl ⟨U,_,SqL.of (h6.get 9 U)⟩,_,U,rw_,_,_,U,U,h6.get 9 U,aB (by omega),?_⟩
   have h7:Has _ (yL t.c_Yard A y++((rw_,HO.lst (vs++[.str p.2.str]))::(N1++L))):=h6.puti 9 U (.lst (vs++[.str p.2.str]))
   generalize upd H6 rw_ _=H7 at h7 ⊢
   have L7:LkI K t.c_Yard A y L rw_ N1 (D0++[.str p.2.str]) (4+6*i+1) H7:=⟨_,sv.snoc (Stb.str _),by rw[length_append,length_singleton]; omega,h7⟩
   clear h7 h6 sv lv
   refine⟨fun σ' H'=>σ'=[some (.ref A.p),some (.ref rw_),some (.int p.1),some (.str p.2.str),o3,none]/\LkI K t.c_Yard A y L rw_ N1 (D0++([.str p.2.str]++(if p.2=.bell then [.int (W.nf p.1)] else []))) (4+6*i+2) H',?_,?_⟩
   ·obtain⟨vs,sv,lv,h7⟩:=L7
    refine⟨_,U,U,_,U,?_⟩
    rw[p.2.isBell]
    refine ifd (fun c=>?_) (fun c=>?_)
    ·refine⟨_,U,.inl ⟨U,_,SqL.of (h7.get 9 U)⟩,_,U,A.p,A.dx,_,U,h7.get 1 U,(cw _ _ _).2.2.2.2.2.1,_,U,A,y,_,p.1,_,_,U,h7,R.kd _ _ hk,(by rw[R.no _ _ hk,if_pos c]),rw_,_,_,U,U,h7.get 9 U,aB (by omega),?_⟩
     refine⟨U,_,?_,?_,h7.puti 9 U (.lst (vs++[.int (W.nf p.1)]))⟩
     ·rw[if_pos c,<- append_assoc]; exact sv.snoc (Stb.int _)
     ·rw[length_append,length_singleton]; omega
    ·refine⟨U,vs,?_,by omega,h7⟩
     rw[if_neg c,append_nil]; exact sv
   clear L7
   rintro σ' H7 ⟨rfl,L7⟩
   obtain⟨D1,eD1⟩:∃ D1:List PyData,[PyData.str p.2.str]++(if p.2=.bell then [.int (W.nf p.1)] else [])=D1:=⟨_,U⟩
   rw[eD1] at L7
   refine⟨fun σ' H'=>σ'=[some (.ref A.p),some (.ref rw_),some (.int p.1),some (.str p.2.str),o3,none]/\LkI K t.c_Yard A y L rw_ N1 (D0++(D1++(if p.2.point=true then [.int (W.rf p.1)] else []))) (4+6*i+3) H',?_,?_⟩
   ·obtain⟨vs,sv,lv,h7⟩:=L7
    refine⟨_,U,p.2,U,U,_,U,?_⟩
    rw[cQ,show decide (p.2.many=3)=p.2.point by cases p.2 <;> rfl]
    refine if2 (fun c=>?_) (fun c=>?_)
    ·refine⟨_,U,.inl ⟨U,_,SqL.of (h7.get 9 U)⟩,_,U,A.p,A.dx,_,U,h7.get 1 U,(b5 _ _ _).2.2.2.2.1,_,U,A,y,_,p.1,_,_,U,h7,R.kd _ _ hk,(by rw[R.ro _ _ hk,if_pos c]),rw_,_,_,U,U,h7.get 9 U,aB (by omega),?_⟩
     refine⟨U,_,?_,?_,h7.puti 9 U (.lst (vs++[.int (W.rf p.1)]))⟩
     ·rw[if_pos c,<- append_assoc]; exact sv.snoc (Stb.int _)
     ·rw[length_append,length_singleton]; omega
    ·refine⟨U,vs,?_,by omega,h7⟩
     rw[if_neg (by rw[c]; exact Bool.false_ne_true),append_nil]; exact sv
   clear L7
   rintro σ' H7 ⟨rfl,L7⟩
   obtain⟨D2,eD2⟩:∃ D2:List PyData,D1++(if p.2.point=true then [.int (W.rf p.1)] else [])=D2:=⟨_,U⟩
   rw[eD2] at L7
   have ePD:ca W p=D2++(List.range p.2.many.toNat).map fun e:Nat=>ii (W.mf p.1 e):=by unfold ca; rw[eD1,eD2]
   rw[ePD]
   refine⟨_,U,p.2,U,p.2.many,U,by omega,by omega,bU (fun e σ H'=>∃ o3:Option V,σ=[some (.ref A.p),some (.ref rw_),some (.int p.1),some (.str p.2.str),o3,none]/\LkI K t.c_Yard A y L rw_ N1 (D0++(D2++(List.range e).map fun e:Nat=>ii (W.mf p.1 e))) (4+6*i+3+e) H') ⟨_,U,by simpa using L7⟩ ?_ ?_⟩
   ·clear L7
    rintro e σ H8 he ⟨o3,rfl,vs,sv,lv,h8⟩
    have he3:e<3:=by omega
    dsimp only[List.set]
    rw[Int.zero_add]
    refine⟨_,U,.inl ⟨U,_,SqL.of (h8.get 9 U)⟩,_,U,A.p,A.dx,_,U,h8.get 1 U,(dv _ _ _).2.1,_,U,_,U,(show 2<=sizeLine by decide),fun b hb=>?_⟩
    have h9:=h8.alloc hb (.tup [.int p.1,.int (e:Int)])
    generalize upd H8 b _=H9 at h9 ⊢
    refine⟨A,y,_,b,p.1,(e:Int),0,U,Has.comm (X:=[_]) (Y:=yL t.c_Yard A y) h9,U,⟨p.2,R.kd _ _ hk,by omega,by omega⟩,?_⟩
    replace h9:=h9.tail
    rw[show(aD y.mates (kE p.1 (e:Int))).getD .non=enV (W.mf p.1 e) by rw[R.mt]; cases W.mf p.1 e <;> rfl]
    refine⟨rw_,_,_,U,U,h9.get 9 U,aB (by omega),?_⟩
    refine⟨_,U,_,?_,?_,h9.puti 9 U (.lst (vs++[enV (W.mf p.1 e)]))⟩
    ·rw[List.range_succ,map_append,<- append_assoc,<- append_assoc]
     rw[<- append_assoc] at sv
     exact sv.snoc (tupIn (fun z hz=>PL.m _ _ z hz))
    ·rw[length_append,length_singleton]; omega
   ·rintro σ H8 ⟨o3,rfl,vs,sv,lv,h8⟩
    exact⟨_,_,_,U,vs,sv,by omega,h8⟩
  ·clear L5
   rintro σ H6 ⟨o1,o2,o3,rfl,L6⟩
   have e1:((KS.map (·.1)).map V.int).length=KS.length:=by simp
   rw[e1,List.take_length] at L6
   obtain⟨vs,sv,lv,h6⟩:=L6
   refine⟨_,U,A.p,A.dx,_,U,h6.get 1 U,(b5 _ _ _).2.2.2.1,A,y,_,U,h6,sm,fun H7 rl h7=>?_⟩
   rw[eI] at h7
   have h7':=gC (kI (Z:=[]) (X:=[(rl,HO.lst (((List.range sd.ss.length).map fun i:Nat=>(i:Int)).map V.int))]) (Y:=yL t.c_Yard A y++[(rw_,HO.lst vs)]) (R:=N1++L) (gC h7 (by simp))) (L':=yL t.c_Yard A y++((rw_,HO.lst vs)::(((rl,HO.lst (((List.range sd.ss.length).map fun i:Nat=>(i:Int)).map V.int))::N1)++L))) (by simp)
   obtain⟨N2,eN2⟩:∃ N2:Kn,(rl,HO.lst (((List.range sd.ss.length).map fun i:Nat=>(i:Int)).map V.int))::N1=N2:=⟨_,U⟩
   rw[eN2] at h7'
   have mrl:(rl,HO.lst (((List.range sd.ss.length).map fun i:Nat=>(i:Int)).map V.int)) ∈ N2:=by rw[<- eN2]; exact mem_cons_self
   have L7:LkI K t.c_Yard A y L rw_ N2 (dq sd KS++KS.flatMap (ca W)) (4+6*KS.length) H7:=⟨vs,sv.mono (fun z hz _=>by rw[<- eN2]; exact mem_cons_of_mem _ hz),lv,h7'⟩
   clear h7 h7' h6 sv lv eN2
   have grl:∀ {ds c H'},LkI K t.c_Yard A y L rw_ N2 ds c H'->SqL K H' rl (((List.range sd.ss.length).map fun i:Nat=>(i:Int)).map V.int):=fun z_=>z_.elim fun vs z_=>z_.elim fun _ z_=>z_.elim fun _ h=>SqL.of (h.at_ _ (mem_append_right _ (mem_cons_of_mem _ (mem_append_left _ mrl))))
   refine⟨rl,U,⟨_,grl L7⟩,fQ (xs:=((List.range sd.ss.length).map fun i:Nat=>(i:Int)).map V.int) (fun i σ H'=>∃ o0:Option V,σ=[some (.ref A.p),some (.ref rw_),o1,o2,o3,o0]/\LkI K t.c_Yard A y L rw_ N2 (dq sd KS++KS.flatMap (ca W)++(sd.ss.take i).map .int) (4+6*KS.length+i) H') ⟨_,U,by simpa using L7⟩ (fun i σ H' _ z_=>z_.elim fun _ z_=>z_.elim fun _ h=>grl h) ?_ ?_⟩
   ·clear L7
    rintro i x σ H8 hx ⟨o0,rfl,vs,sv,lv,h8⟩
    have hi:i<sd.ss.length:=by have:=(List.getElem?_eq_some_iff.mp hx).1; simpa using this
    have ex:x=.int (i:Int):=by
     rw[getElem?_map,getElem?_map,getElem?_eq_getElem (by simpa using hi)] at hx
     simpa using (Option.some.inj hx).symm
    subst ex
    dsimp only[List.set]
    refine⟨_,U,.inl ⟨U,_,SqL.of (h8.get 9 U)⟩,_,U,A.p,A.dx,_,U,h8.get 1 U,(b5 _ _ _).2.2.2.2.2.1,_,U,A,y,_,(i:Int),.int sd.ss[i],U,h8,by omega,(by rw[R.sd,Int.toNat_natCast,getElem?_map,getElem?_eq_getElem hi]; rfl),rw_,_,_,U,U,h8.get 9 U,aB (by omega),?_⟩
    refine⟨_,U,_,?_,?_,h8.puti 9 U (.lst (vs++[.int sd.ss[i]]))⟩
    ·rw[List.take_succ,getElem?_eq_getElem hi,map_append,<- append_assoc]
     exact sv.snoc (Stb.int _)
    ·rw[length_append,length_singleton]; omega
   ·clear L7
    rintro σ H8 ⟨o0,rfl,vs,sv,lv,h8⟩
    have e2:(((List.range sd.ss.length).map fun i:Nat=>(i:Int)).map V.int).length=sd.ss.length:=by simp
    rw[e2,List.take_length] at sv
    refine⟨_,U,q H8 rw_ ((rw_,HO.lst vs)::N2) ?_ h8⟩
    exact Stb.lst (vs:=vs) mem_cons_self (sv.mono fun z hz _=>mem_cons_of_mem _ hz)
end
noncomputable def qS:Sp:=fun vs H Q _=>∃ (sd kk rr:Addr) (L:Kn) (W:Wd) (s:Sd) (z:En) (ks:List Kd) (ns rs:List Int) (dm:List (List Key×V)) (jk jr js jz:Nat),vs=[.ref kk,.ref rr,.ref sd,.ref z.1] /\
 Has H L/\Lw W ks ns rs dm/\Okw W s/\s.at_=some z/\L[jk]?=some (kk,.lst (ksV ks))/\L[jr]?=some (rr,.lst (rs.map V.int))/\L[js]?=some (sd,.lst (s.ss.map V.int))/\L[jz]?=some (z.1,HO.tup [.int z.2.1,.int z.2.2])/\W.nx s=none/\∀ H',Has H' L->Q (W.why s) H'
section
variable {P:Program}{w:World}{K:PySem.W.Frag}{mg:Str->Option Value}{base:Heap}{t:Adr}
theorem scWy:FnScope ["_law_kinds_here","_law_rods","_law_sides","_law_at","_law_side"] ["_law_kinds_here","_law_rods","_law_sides","_law_at"] (ah qg):={}
theorem rp (T:Txt K mg t):FnOk P w K mg base CX0 3 t.f_why t.d_why ["_law_kinds_here","_law_rods","_law_sides","_law_at"] qS:=by
 refine T.F_why.ok scWy (fun vs H Q E h=>?_) (fun cdv A outer s H vs Q E hr h=>?_)
 ·obtain⟨_,_,_,_,_,_,_,_,_,_,_,_,_,_,_,rfl,_⟩:=h
  rfl
 ·obtain⟨sd,kk,rr,L,W,s1,z,ks,ns,rs,dm,jk,jr,js,jz,rfl,hH,lw,O1,hz,hjk,hjr,hjs,hjz,hnx,q⟩:=h
  have hu:=cn hr
  refine⟨_,(ab (am (i:=4) scWy.nd rfl (Or.inl rfl) ag)
   (ab (av (ai iS (aG aC (pv 1) (aG bv (pv 3) ag (fun _ _=>rfl))) ag (aj _))
    (af (am (i:=4) scWy.nd rfl (Or.inl rfl) (aG aC (pv 2) (aG aC (pv 1) (aG bv (pv 3) ag (fun _ _=>rfl)) (fun _ _=>rfl)))))
    ak)
   (ab (av (ai d8 (aG bv (pcl (qq T) hr T.m_Jw T.F_Jw.kp (tI T) (aa (aG aC (pv 0) (aG bv (pv 3) ag (fun _ _=>rfl)) (fun _ _=>rfl)) (aa (aG bv (pv 3) ag (fun _ _=>rfl)) (aa (pv 4) ae)))) ag) bn (aj _))
    (af (ao aF))
    ak)
   (af (ao aF))))),?_⟩
  have gz:=hH.get jz hjz
  obtain⟨k,hk,e0,e1⟩:=O1.eo _ hz
  obtain⟨i0,ei,hki⟩:=lw.kf _ _ hk
  have il:i0<ks.length:=(List.getElem?_eq_some_iff.mp hki).1
  have ari:atI (rs.map V.int) z.2.1=some (.int (rs.getD i0 0)):=by rw[ei]; exact aY (cr (show i0<rs.length by rw[lw.rl]; exact il))
  have grr:SqL K H rr (rs.map V.int):=SqL.of (hH.get jr hjr)
  refine⟨_,U,_,U,z.1,_,_,_,U,U,SqT.of gz,U,rr,_,_,_,U,U,grr,ari,_,_,U,U,_,U,if2 (fun hr0=>?_) (fun hr0=>?_)⟩
  ·have r0:0<=rs.getD i0 0:=of_decide_eq_true hr0
   have hp:k.point=true:=(lw.rn i0 k hki).mpr r0
   have rr1:=O1.rr _ _ hk hp
   rw[ei,lw.rf] at rr1
   have esv:W.sv s1 z.2.1=s1.ss.getD (rs.getD i0 0).toNat 0:=by unfold Wd.sv; rw[ei,lw.rf]
   have asd:atI (s1.ss.map V.int) (rs.getD i0 0)=some (.int (W.sv s1 z.2.1)):=by
    rw[show rs.getD i0 0=(((rs.getD i0 0).toNat:Nat):Int) by omega,esv]
    exact aY (by rw[cr (by omega)])
   refine⟨_,U,_,U,_,U,z.1,_,_,_,U,U,SqT.of gz,U,rr,_,_,_,U,U,grr,ari,sd,_,_,_,U,U,SqL.of (hH.get js hjs),asd,?_⟩
   refine⟨_,U,_,U,z.1,_,_,_,U,U,SqT.of gz,U,kk,_,_,_,U,U,SqL.of (hH.get jk hjk),(by rw[ei]; exact aY (c9 hki)),_,U,z.1,_,_,_,U,U,SqT.of gz,U,_,U,k,z.2.2,(W.sv s1 z.2.1),U,e0,e1,fun p hp1=>?_⟩
   have eo:k.out z.2.2 (W.sv s1 z.2.1)=k.out z.2.2 (W.sv s1 z.2.1):=rfl
   have h2:=hH.alloc hp1 (.tup [k.out z.2.2 (W.sv s1 z.2.1),.int (k.side z.2.2 (W.sv s1 z.2.1))])
   refine⟨p,_,_,_,U,U,SqT.of (h2.get 0 U),U,?_⟩
   replace h2:=h2.tail
   generalize upd H p _=H2 at h2 ⊢
   rw[eo]
   refine⟨U,_,U,?_⟩
   by_cases c:k.out z.2.2 (W.sv s1 z.2.1)=.non
   ·refine ifT (decide_eq_true c) ?_
    rw[(bJ hz hk c).2] at q
    exact q _ h2
   ·refine ifF (decide_eq_false c) ?_
    obtain⟨o,ho⟩:=Kd.out_int (k:=k) (fun e=>c (by unfold Kd.out; rw[if_pos e])) z.2.2 (W.sv s1 z.2.1)
    cases hm:W.mf z.2.1 o with
    | none=>
     rw[(bA hz hk ho hm).2] at q
     exact q _ h2
    | some z'=>
     rw[dk hz hk ho hm] at hnx
     cases hnx
  ·have r0:¬ 0<=rs.getD i0 0:=of_decide_eq_false hr0
   have hp:¬ k.point=true:=fun h=>r0 ((lw.rn i0 k hki).mp h)
   refine⟨_,U,_,U,z.1,_,_,_,U,U,SqT.of gz,U,kk,_,_,_,U,U,SqL.of (hH.get jk hjk),(by rw[ei]; exact aY (c9 hki)),_,U,z.1,_,_,_,U,U,SqT.of gz,U,_,U,k,z.2.2,0,U,e0,e1,fun p hp1=>?_⟩
   have eo:k.out z.2.2 0=k.out z.2.2 (W.sv s1 z.2.1):=Kd.out_np hp _ _ _
   have h2:=hH.alloc hp1 (.tup [k.out z.2.2 0,.int (k.side z.2.2 0)])
   refine⟨p,_,_,_,U,U,SqT.of (h2.get 0 U),U,?_⟩
   replace h2:=h2.tail
   generalize upd H p _=H2 at h2 ⊢
   rw[eo]
   refine⟨U,_,U,?_⟩
   by_cases c:k.out z.2.2 (W.sv s1 z.2.1)=.non
   ·refine ifT (decide_eq_true c) ?_
    rw[(bJ hz hk c).2] at q
    exact q _ h2
   ·refine ifF (decide_eq_false c) ?_
    obtain⟨o,ho⟩:=Kd.out_int (k:=k) (fun e=>c (by unfold Kd.out; rw[if_pos e])) z.2.2 (W.sv s1 z.2.1)
    cases hm:W.mf z.2.1 o with
    | none=>
     rw[(bA hz hk ho hm).2] at q
     exact q _ h2
    | some z'=>
     rw[dk hz hk ho hm] at hnx
     cases hnx
end
noncomputable def bH (s:Sd):NK:=((match s.at_ with | some z=>kE z.2.1 z.2.2 | none=>[]),s.ss.map Sum.inl)
theorem i6 {s t:Sd} (h:Lk s t):bH s=bH t:=by
 have ha:=h.a
 unfold bH
 rw[h.s]
 cases e1:s.at_ with
 | none=>
  rw[e1] at ha
  cases e2:t.at_ with
  | none=>rfl
  | some z=>rw[e2] at ha; cases ha
 | some x=>
  rw[e1] at ha
  cases e2:t.at_ with
  | none=>rw[e2] at ha; cases ha
  | some z=>
   rw[e2] at ha
   have:x.2=z.2:=Option.some.inj ha
   show(kE x.2.1 x.2.2,_)=(kE z.2.1 z.2.2,_)
   rw[this]
theorem kH:∀ {a b:List Int},a.map (Sum.inl:Int->Key)=b.map Sum.inl->a=b
 | [],[],_=>rfl
 | [],_::_,h=>nomatch h
 | _::_,[],h=>nomatch h
 | x::a,y::b,h=>by
  rw[map_cons,map_cons] at h
  injection h with h1 h2
  injection h1 with h1
  rw[h1,kH h2]
theorem nS {s t:Sd}{x z:En} (hx:s.at_=some x) (hz:t.at_=some z) (h:bH s=bH t):Lk s t:=by
 unfold bH at h
 rw[hx,hz] at h
 injection h with h1 h2
 refine⟨kH h2,?_⟩
 rw[hx,hz]
 have h1:kE x.2.1 x.2.2=kE z.2.1 z.2.2:=h1
 injection h1 with h1 h3
 injection h3 with h3 _
 injection h1 with h1
 injection h3 with h3
 exact congrArg some (Prod.ext h1 h3)
noncomputable def DR (w:Wd) (s:Sd) (lim:Nat) (xs:List V):Prop :=
 (∃ n,n<=lim/\(w.hist n s).length=n/\w.nx (w.go n s)=none/\xs=[.str "held",w.why (w.go n s),.int n]) ∨
 (∃ i n,i<n/\n<=lim/\(w.hist n s).length=n/\Lk (w.go i s) (w.go n s)/\(∀ i j,i<j->j<n->¬ Lk (w.go i s) (w.go j s))/\xs=[.str "round",.int i,.int ((n:Int) - i)]) ∨
 ((w.hist (lim+1) s).length=lim+1/\(∀ i j,i<j->j<=lim->¬ Lk (w.go i s) (w.go j s))/\xs=[.str "open",.int lim])
theorem cF {w:Wd}{s:Sd}{n m:Nat} (a:(w.hist n s).length=n) (b:w.nx (w.go m s)=none):n<=m:=by
 by_cases c:n<=m
 ·exact c
 ·obtain⟨s',e⟩:=iT a (show m<n by omega)
  rw[b] at e
  cases e
theorem DR.eq {w:Wd}{s:Sd}{lim:Nat}{xs ys:List V} (f:FR w s lim xs) (d:DR w s lim ys):xs=ys:=by
 rcases f with ⟨n,n1,n2,n3,rfl⟩ | ⟨mu,lam,C,c,rfl⟩ | ⟨o1,o2,rfl⟩
 ·rcases d with ⟨k,k1,k2,k3,rfl⟩ | ⟨i,k,ik,k1,k2,k3,k4,rfl⟩ | ⟨p1,p2,rfl⟩
  ·have a:=cF n2 k3
   have b:=cF k2 n3
   have e:n=k:=by omega
   rw[e]
  ·exact absurd k3 (ed n2 n3 i k ik (cF k2 n3))
  ·have:=cF p1 n3
   omega
 ·rcases d with ⟨k,k1,k2,k3,rfl⟩ | ⟨i,k,ik,k1,k2,k3,k4,rfl⟩ | ⟨p1,p2,rfl⟩
  ·obtain⟨s',e⟩:=C.nx k
   rw[k3] at e
   cases e
  ·have l0:=C.l0
   obtain⟨a,q,b⟩:=(C.lk i k ik).mp k3
   have q1:1<=q:=Nat.one_le_iff_ne_zero.mpr (fun z=>by rw[z,Nat.mul_zero] at b; omega)
   have q2:lam*1<=lam*q:=Nat.mul_le_mul_left lam q1
   have kl:k<=mu+lam:=by
    by_cases h:k<=mu+lam
    ·exact h
    ·exact absurd ((C.lk mu (mu+lam) (by omega)).mpr ⟨Nat.le_refl _,by rw[Nat.add_sub_cancel_left]; exact Nat.dvd_refl _⟩) (k4 mu (mu+lam) (by omega) (by omega))
   have e1:i=mu:=by omega
   have e2:(k:Int) - i=lam:=by omega
   rw[e2,e1]
  ·exact absurd ((C.lk mu (mu+lam) (by have:=C.l0; omega)).mpr ⟨Nat.le_refl _,by rw[Nat.add_sub_cancel_left]; exact Nat.dvd_refl _⟩) (p2 mu (mu+lam) (by have:=C.l0; omega) c)
 ·rcases d with ⟨k,k1,k2,k3,rfl⟩ | ⟨i,k,ik,k1,k2,k3,k4,rfl⟩ | ⟨p1,p2,rfl⟩
  ·have:=cF o1 k3
   omega
  ·exact absurd k3 (o2 i k ik k1)
  ·rfl
noncomputable def NMem (M:Kn) (b:Addr) (k:NK):Prop:=∃ c d,(b,HO.tup [.ref c,.ref d]) ∈ M/\(c,HO.tup (k.1.map kV)) ∈ M/\(d,HO.tup (k.2.map kV)) ∈ M
theorem NMem.at_ {H:Hp}{M:Kn}{b:Addr}{k:NK} (h:NMem M b k) (hH:Has H M):NAt H b k:=by
 obtain⟨c,d,h1,h2,h3⟩:=h
 exact⟨c,d,hH.at_ _ h1,hH.at_ _ h2,hH.at_ _ h3⟩
theorem NMem.mono {M M':Kn}{b:Addr}{k:NK} (h:NMem M b k) (s:∀ z ∈ M,z ∈ M'):NMem M' b k:=by
 obtain⟨c,d,h1,h2,h3⟩:=h
 exact⟨c,d,s _ h1,s _ h2,s _ h3⟩
theorem rN (l:List Int):(l.map (Sum.inl:Int->Key)).map kV=l.map V.int:=by rw[map_map]; rfl
theorem rE {w:Wd}{s t:Sd} (h:Lk s t):w.why s=w.why t:=by
 rcases gm h.a with ⟨a,b⟩ | ⟨u,v,a,b,e⟩
 ·unfold Wd.why; rw[a,b]
 ·unfold Wd.why Wd.sv
  simp only[a,b]
  rw[e,h.s]
noncomputable def qY:Sp:=fun vs H Q _=>∃ (sd kk nn rr mh:Addr) (L:Kn) (W:Wd) (s:Sd) (z:En) (m:Nat) (ks:List Kd) (ns rs:List Int) (dm:List (List Key×V)),vs=[.ref kk,.ref nn,.ref rr,.ref sd,.ref mh,.ref z.1,.int m] /\
 Has H L/\Lw W ks ns rs dm/\Okw W s/\Pool W s L/\s.at_=some z/\m<=1000/\s.ss.length<=1000/\(kk,HO.lst (ksV ks)) ∈ L/\(nn,HO.lst (ns.map V.int)) ∈ L/\(rr,HO.lst (rs.map V.int)) ∈ L/\(sd,HO.lst (s.ss.map V.int)) ∈ L/\(mh,HO.dT dm) ∈ L /\
 ∀ H' p xs,DR W s m xs->Has H' ((p,.tup xs)::L)->Q (.ref p) H'
noncomputable def oh (P:Program) (w:World) (kk nn rr mh s2 mt:Addr) (L:Kn) (W:Wd) (s:Sd) (m:Nat) (r:Nat) (σ:St) (H:Hp):Prop :=
 ∃ (i:Nat) (s1:Sd) (z1:En) (N:Kn) (es:List NE) (o1 o2 o3:Option V),r=m+1 - i/\i<=m+1/\σ=[some (.ref kk),some (.ref nn),some (.ref rr),some (.ref s2),some (.ref mh),some (.ref z1.1),some (.int m),some (.ref mt),some (.int i),o1,o2,o3] /\
  Has H ((s2,.lst (s1.ss.map V.int))::(mt,.ext (NDict P w mt es))::(N++L))/\s1.at_=some z1/\Lk s1 (W.go i s)/\Okw W s1/\Pool W s1 L/\s1.rg=[]/\(W.hist i s).length=i/\(∀ a b,a<b->b<i->¬ Lk (W.go a s) (W.go b s)) /\
  es.length=i/\(∀ k,k<i->∃ b,(b,bH (W.go k s),(k:Int)) ∈ es)/\(∀ x ∈ es,∃ k,k<i/\x.2=(bH (W.go k s),(k:Int))/\NMem (N++L) x.1 x.2.1)
section
variable {P:Program}{w:World}{K:PySem.W.Frag}{mg:Str->Option Value}{base:Heap}{t:Adr}
theorem scDu:FnScope ["_law_kinds_here","_law_notes","_law_rods","_law_sides","_law_mates","_law_at","_law_most","_law_met","_law_done","_law_stand","_law_here","_law_walked"] ["_law_kinds_here","_law_notes","_law_rods","_law_sides","_law_mates","_law_at","_law_most"] (ah qk):={}
theorem rA (T:Txt K mg t):FnOk P w K mg base CX0 4 t.f_due t.d_due ["_law_kinds_here","_law_notes","_law_rods","_law_sides","_law_mates","_law_at","_law_most"] qY:=by
 refine T.F_due.ok scDu (fun vs H Q E h=>?_) (fun cdv A outer s H vs Q E hr h=>?_)
 ·obtain⟨_,_,_,_,_,_,_,_,_,_,_,_,_,_,rfl,_⟩:=h
  rfl
 ·obtain⟨sd,kk,nn,rr,mh,L,W,s0,z,m,ks,ns,rs,dm,rfl,hH,lw,O,PL,hz,m1,sl,mk,mn,mr,ms,mm,q⟩:=h
  have hu:=cn hr
  refine⟨_,(ab (am (i:=3) scDu.nd rfl (Or.inl rfl) (a9 cc (by rfl) T.z_list (by rfl) (aa (pv 3) ae)))
   (ab (am (i:=7) scDu.nd rfl (Or.inl rfl) (nA (P:=P) (w:=w) rfl rfl))
   (ab (am (i:=8) scDu.nd rfl (Or.inl rfl) ag)
   (ab (cm PassesOwn.never (ai qp (pv 8) (pv 6) (aj _))
    (ab (am (i:=9) scDu.nd rfl (Or.inl rfl) (aO (aa (pv 5) (aa (a9 fY (by rfl) T.z_tuple (by rfl) (aa (pv 3) ae)) ae))))
     (ab (av (cU (o8 (P:=P) (w:=w) rfl rfl hr.units (pv 9) (pv 7)))
      (af (ao (aO (aa aF (aa (iP (P:=P) (w:=w) rfl rfl hr.units (pv 7) (pv 9) (fun _ _=>rfl)) (aa (aq cM (pv 8) (iP (P:=P) (w:=w) rfl rfl hr.units (pv 7) (pv 9) (fun _ _=>rfl))) ae))))))
      ak)
     (ab (ni (P:=P) (w:=w) rfl rfl hr.units (pv 7) (pv 9) (pv 8) rfl)
     (ab (am (i:=10) scDu.nd rfl (Or.inl rfl) (pv 5))
     (ab (bO (pcl (gU T) hr T.m_walk T.F_walk.kp (jT T) (aa (pv 0) (aa (pv 1) (aa (pv 2) (aa (pv 3) (aa (pv 4) (aa (bI ae) (aa (pv 5) (aa ag ae))))))))) (cA rfl (az (ar (i:=5) scDu.nd rfl (Or.inl rfl)) (az (ar (i:=11) scDu.nd rfl (Or.inl rfl)) bX))))
     (ab (av (ai br (pv 11) ag (aj _))
      (af (ao (aO (aa aF (aa (pcl (rp T) hr T.m_why T.F_why.kp (b_why T) (aa (pv 0) (aa (pv 2) (aa (pv 3) (aa (pv 10) ae))))) (aa (pv 8) ae))))))
      ak)
     (af (am (i:=8) scDu.nd rfl (Or.inl rfl) (aq bf (pv 8) ag))))))))))
   (af (ao (aO (aa aF (aa (pv 6) ae))))))))),?_⟩
  rw[]
  refine⟨_,U,sd,_,U,.inl (SqL.of (hH.at_ _ ms)),fun s2 hs2=>?_⟩
  have h1:=hH.alloc hs2 (.lst (s0.ss.map V.int))
  generalize upd H s2 _=H1 at h1 ⊢
  dsimp only[List.set]
  refine fun mt hmt=>?_
  have h2:Has (upd H1 mt (.ext (NDict P w mt []))) _:=h1.alloc hmt (.ext (NDict P w mt []))
  dsimp only[List.set]
  refine⟨oh P w kk nn rr mh s2 mt L W s0 m,⟨_,0,{ s0 with rg:=[] },z,[],[],_,_,_,U,Nat.zero_le _,U,Has.swap2 h2,hz,⟨U,U⟩,⟨O.rr,O.s12,O.mo,O.eo⟩,⟨PL.m,PL.e⟩,U,U,(fun a b _ hb=>absurd hb (Nat.not_lt_zero b)),U,(fun k hk=>absurd hk (Nat.not_lt_zero k)),(fun x hx=>nomatch hx)⟩,?_⟩
  clear h1 h2 hs2 hmt
  rintro r σ H1 ⟨i,s1,z1,N,es,o1,o2,o3,rfl,im,rfl,h1,hz1,lk1,O1,P1,rg1,on,un,el,ein,ex⟩
  have key1:bH s1=bH (W.go i s0):=i6 lk1
  refine⟨_,U,_,U,_,_,U,U,_,U,if2 (fun hc=>?_) (fun hc=>?_)⟩
  ·have hc:(i:Int)<=m:=of_decide_eq_true hc
   refine⟨fun σ' H'=>∃ r',r'<m+1 - i/\oh P w kk nn rr mh s2 mt L W s0 m r' σ' H',fun _ _ h=>h,?_⟩
   obtain⟨jz,hjz⟩:=P1.e z1 hz1
   have mz:=mem_of_getElem? hjz
   refine⟨_,U,_,U,s2,_,U,.inl ⟨SqL.of (h1.get 0 U),fun tp htp=>?_⟩⟩
   have h2:=h1.alloc htp (.tup (s1.ss.map V.int))
   generalize upd H1 tp _=H2 at h2 ⊢
   refine⟨(show 2<=sizeLine by decide),fun sp hsp=>?_⟩
   have h3:=h2.alloc hsp (.tup [.ref z1.1,.ref tp])
   generalize upd H2 sp _=H3 at h3 ⊢
   dsimp only[List.set]
   obtain⟨N2,eN2⟩:∃ N2:Kn,(sp,HO.tup [.ref z1.1,.ref tp])::(tp,HO.tup (s1.ss.map V.int))::N=N2:=⟨_,U⟩
   have h4:Has H3 ((s2,HO.lst (s1.ss.map V.int))::(mt,HO.ext (NDict P w mt es))::(N2++L)):=by
    subst eN2
    exact Has.comm (X:=[_,_]) (Y:=[_,_]) (R:=N++L) h3
   have up:∀ x ∈ N++L,x ∈ N2++L:=fun x hx=>by
    rw[<- eN2]
    exact mem_cons_of_mem _ (mem_cons_of_mem _ hx)
   have upL:∀ x ∈ L,x ∈ N2++L:=fun x hx=>mem_append_right _ hx
   have nm:NMem (N2++L) sp (bH (W.go i s0)):=by
    rw[<- key1]
    refine⟨z1.1,tp,by rw[<- eN2]; exact mem_cons_self,?_,?_⟩
    ·unfold bH
     rw[hz1]
     exact upL _ mz
    ·show(tp,HO.tup ((s1.ss.map Sum.inl).map kV)) ∈ _
     rw[rN,<- eN2]
     exact mem_cons_of_mem _ mem_cons_self
   have ex2:∀ x ∈ es,∃ k,k<i/\x.2=(bH (W.go k s0),(k:Int))/\NMem (N2++L) x.1 x.2.1:=fun x hx=>by
    obtain⟨k,a,b,c⟩:=ex x hx
    exact⟨k,a,b,c.mono up⟩
   clear h1 h2 h3 ex htp hsp eN2 up
   have at0:s0.at_≠none:=by rw[hz]; exact fun h=>nomatch h
   have some_at:∀ k,∃ x,(W.go k s0).at_=some x:=fun k=>by
    cases e:(W.go k s0).at_ with
    | none=>exact absurd e (bQ k s0 at0)
    | some x=>exact⟨x,U⟩
   have allAt:∀ {H':Hp}{X:Kn},Has H' (X++(N2++L))->∀ x ∈ es,NAt H' x.1 x.2.1:=fun {H' X} h x hx=>by
    obtain⟨k,_,_,c⟩:=ex2 x hx
    exact(c.mono (fun y hy=>mem_append_right X hy)).at_ h
   have h4':Has H3 ([(s2,HO.lst (s1.ss.map V.int)),(mt,HO.ext (NDict P w mt es))]++(N2++L)):=h4
   have nmA:=(nm.mono (fun y hy=>mem_append_right [(s2,HO.lst (s1.ss.map V.int)),(mt,HO.ext (NDict P w mt es))] hy)).at_ h4'
   refine⟨_,U,_,U,mt,es,bH (W.go i s0),sp,U,U,h4.get 1 U,allAt h4',nmA,_,U,if2 (fun c=>?_) (fun c=>?_)⟩
   ·obtain⟨x,hx,ek⟩:=List.any_eq_true.mp c
    have ek:=of_decide_eq_true ek
    obtain⟨k,kl,ek2,_⟩:=ex2 x hx
    have e1:x.2.2=(k:Int):=by rw[ek2]
    have ek3:bH (W.go k s0)=bH (W.go i s0):=by rw[<- ek,ek2]
    have nmX:NAt H3 sp x.2.1:=by rw[ek]; exact nmA
    refine⟨_,U,_,U,mt,es,x,sp,U,U,h4.get 1 U,allAt h4',hx,nmX,_,U,_,U,_,U,mt,es,x,sp,U,U,h4.get 1 U,allAt h4',hx,nmX,_,_,U,U,(show 3<=sizeLine by decide),fun p hp=>q _ p _ (.inr (.inl ⟨k,i,kl,by omega,on,?_,un,?_⟩)) (Has.sub (h4.alloc hp _) (List.Sublist.cons₂ _ (List.Sublist.cons _ (List.Sublist.cons _ (List.sublist_append_right _ _)))))⟩
    ·obtain⟨u,hu'⟩:=some_at k
     obtain⟨v,hv⟩:=some_at i
     exact nS hu' hv ek3
    ·rw[e1]
   ·have nk:∀ x ∈ es,x.2.1≠bH (W.go i s0):=fun x hx e=>by
     have:=List.any_eq_false.mp c x hx
     exact this (decide_eq_true e)
    refine⟨_,U,_,U,_,U,mt,es,bH (W.go i s0),sp,(i:Int),U,U,U,h4.get 1 U,allAt h4',nmA,nk,Nat.le_of_lt (aB (by omega)),?_⟩
    have h5:Has (upd H3 mt (.ext (NDict P w mt (es++[(sp,bH (W.go i s0),(i:Int))])))) ((s2,HO.lst (s1.ss.map V.int))::(mt,HO.ext (NDict P w mt (es++[(sp,bH (W.go i s0),(i:Int))])))::(N2++L)):=h4.puti 1 U (.ext (NDict P w mt (es++[(sp,bH (W.go i s0),(i:Int))])))
    obtain⟨es',ees⟩:∃ es':List NE,es++[(sp,bH (W.go i s0),(i:Int))]=es':=⟨_,U⟩
    rw[ees] at h5 ⊢
    generalize upd H3 mt _=H5 at h5 ⊢
    dsimp only[List.set]
    refine⟨_,U,?_⟩
    dsimp only[List.set]
    refine⟨_,U,_,U,_,U,_,U,_,U,(show 0<=sizeLine by decide),fun gg hgg=>?_⟩
    have h6:=Has.swap2 (h5.alloc hgg (.lst []))
    generalize upd H5 gg _=H6 at h6 ⊢
    have h6:Has H6 ((s2,HO.lst (s1.ss.map V.int))::(gg,HO.lst (s1.rg.map V.int))::(((mt,HO.ext (NDict P w mt es'))::N2)++L)):=by rw[rg1]; exact h6
    obtain⟨jk,hjk⟩:=List.mem_iff_getElem?.mp (mem_append_right ((mt,HO.ext (NDict P w mt es'))::N2) mk)
    obtain⟨jn,hjn⟩:=List.mem_iff_getElem?.mp (mem_append_right ((mt,HO.ext (NDict P w mt es'))::N2) mn)
    obtain⟨jr,hjr⟩:=List.mem_iff_getElem?.mp (mem_append_right ((mt,HO.ext (NDict P w mt es'))::N2) mr)
    obtain⟨jm,hjm⟩:=List.mem_iff_getElem?.mp (mem_append_right ((mt,HO.ext (NDict P w mt es'))::N2) mm)
    obtain⟨jz,hjz⟩:=List.mem_iff_getElem?.mp (mem_append_right ((mt,HO.ext (NDict P w mt es'))::N2) mz)
    refine⟨_,U,s2,gg,kk,nn,rr,mh,_,W,s1,1,ks,ns,rs,dm,jk,jn,jr,jm,(by rw[hz1]; rfl),h6,lw,O1,P1.app _,hjk,hjn,hjr,hjm,(by rw[rg1]; decide),fun H7 tq h7 O7 _ _=>?_⟩
    refine⟨tq,_,U,SqT.of (h7.get 0 U),U,_,_,U,_,_,U,U,?_⟩
    replace h7:=h7.tail
    dsimp only[List.set]
    have h7:Has H7 ((s2,HO.lst ((W.go 1 s1).ss.map V.int))::(gg,HO.lst ((W.go 1 s1).rg.map V.int))::(((mt,HO.ext (NDict P w mt es'))::N2)++L)):=h7
    refine⟨_,U,U,_,U,?_⟩
    rw[cQ]
    rcases kF (w:=W) lk1 with ⟨n1,n2⟩ | ⟨t1,t2,n1,n2,lt⟩
    ·have g1:W.go 1 s1=s1:=bh W n1 1
     have g2:W.hist 1 s1=[]:=ba W n1 1
     rw[g1] at h7
     refine ifT (by show decide (((W.hist 1 s1).length:Int)=0)=true; rw[g2]; rfl) ?_
     refine⟨_,U,_,U,_,U,_,U,s2,kk,rr,_,W,s1,z1,ks,ns,rs,dm,jk+2,jr+2,0,jz+2,U,h7,lw,O1,hz1,hjk,hjr,U,hjz,n1,fun H8 h8=>?_⟩
     refine⟨_,U,(show 3<=sizeLine by decide),fun p hp=>q _ p _ (.inl ⟨i,by omega,on,n2,?_⟩) (Has.sub (h8.alloc hp _) (List.Sublist.cons₂ _ (List.Sublist.cons _ (List.Sublist.cons _ (List.sublist_append_right _ _)))))⟩
     rw[rE lk1]
    ·have g1:W.go 1 s1=t1:=bg W n1 0
     have g2:(W.hist 1 s1).length=1:=by rw[aX W n1 0]; rfl
     have O7:Okw W (W.go 1 s1):=O7
     rw[g1] at h7 O7
     refine ifF (by show decide (((W.hist 1 s1).length:Int)=0)=false; rw[g2]; rfl) ?_
     refine⟨_,U,_,_,U,U,?_⟩
     dsimp only[List.set]
     have gs:=bD W i 1 s0
     have e2:W.go (i+1) s0=t2:=by rw[gs.1]; exact bg W n2 0
     have on2:(W.hist (i+1) s0).length=i+1:=by rw[gs.2,on,aX W n2 0]; rfl
     obtain⟨zt,hzt⟩:∃ zt,t1.at_=some zt:=by
      obtain⟨v,hv⟩:=some_at (i+1)
      rw[e2] at hv
      have:=lt.a
      rw[hv] at this
      cases e:t1.at_ with
      | none=>rw[e] at this; cases this
      | some x=>exact⟨x,U⟩
     refine⟨m+1 - (i+1),by omega,i+1,{ t1 with rg:=[] },zt,N2,es',some (.ref sp),some (.ref z1.1),some (.int ((W.hist (Int.toNat 1) s1).length:Nat)),U,by omega,?_,(Has.swap2 h7).tail,hzt,⟨by rw[e2]; exact lt.s,by rw[e2]; exact lt.a⟩,⟨O7.rr,O7.s12,O7.mo,O7.eo⟩,⟨(P1.step n1).m,(P1.step n1).e⟩,U,on2,fun a b hab hb=>?_,by rw[<- ees,length_append,el]; rfl,fun k hk=>?_,fun x hx=>?_⟩
     ·rw[show enV (W.go (Int.toNat 1) s1).at_=V.ref zt.1 by rw[show W.go (Int.toNat 1) s1=t1 from g1,hzt]; rfl]
      rfl
     ·by_cases c2:b<i
      ·exact un a b hab c2
      ·have eb:b=i:=by omega
       subst eb
       intro l
       obtain⟨y,hy⟩:=ein a hab
       exact nk _ hy (i6 l)
     ·rw[<- ees]
      by_cases c2:k<i
      ·obtain⟨b,hb⟩:=ein k c2
       exact⟨b,mem_append_left _ hb⟩
      ·have ek:k=i:=by omega
       rw[ek]
       exact⟨sp,mem_append_right _ mem_cons_self⟩
     ·rw[<- ees] at hx
      rcases mem_append.mp hx with hx | hx
      ·obtain⟨k,a,b,c⟩:=ex2 x hx
       exact⟨k,by omega,b,c⟩
      ·rw[mem_singleton.mp hx]
       exact⟨i,by omega,U,nm⟩
  ·have hc:¬ (i:Int)<=m:=of_decide_eq_false hc
   have ei:i=m+1:=by omega
   subst ei
   exact⟨_,U,(show 2<=sizeLine by decide),fun p hp=>q _ p _ (.inr (.inr ⟨on,fun a b hab hb=>un a b hab (by omega),U⟩)) (Has.sub (h1.alloc hp _) (List.Sublist.cons₂ _ (List.Sublist.cons _ (List.Sublist.cons _ (List.sublist_append_right _ _)))))⟩
end
theorem Okw.go {w:Wd}:∀ (n:Nat) {s:Sd},Okw w s->Okw w (w.go n s)
 | 0,_,h=>h
 | n+1,s,h=>by
  cases hx:w.nx s with
  | none=>rw[bh w hx]; exact h
  | some s'=>
   rw[bg w hx]
   obtain⟨z,k,o,z',hz,hk,ho,hm,rfl⟩:=c8 hx
   exact Okw.go n (h.step hz hk hm)
theorem eqvR (d:PyData) (h:d.canLay0=true):PyData.eqv d d=true:=PySem.SeqAt.eqv_refl d h
noncomputable def mF (C:Addr):Sp:=fun vs H Q _=>∃ (A:YA) (y:YR) (L:Kn) (W:Wd) (s:Sd) (KS:List (Int×Kd)) (m:Int) (dp:Addr) (xs:List V),vs=[.ref A.p,.ref dp,.int m]/\Has H (yL C A y++L)/\(dp,HO.tup xs) ∈ L/\Rep W s y/\Pool W s L/\fV y/\y.kinds=jM KS/\(∀ p ∈ KS,W.kf p.1=some p.2)/\EK y.mates/\m<=1000/\s.rg.length<=100000/\s.at_≠none /\
 (∀ ys,FR W s m.toNat ys->ys=xs)/\∀ H',Has H' (yL C A y++L)->Q (.bl true) H'
section
variable {P:Program}{w:World}{K:PySem.W.Frag}{mg:Str->Option Value}{base:Heap}{t:Adr}
theorem scRg:FnScope ["_law_yard","_law_due_here","_law_most","_law_before","_law_trail","_law_found"] ["_law_yard","_law_due_here","_law_most"] (ah j9):={}
theorem nI (T:Txt K mg t):FnOk P w K mg base CX0 9 t.f_right t.d_right ["_law_yard","_law_due_here","_law_most"] (mF t.c_Yard):=by
 refine T.F_right.ok scRg (fun vs H Q E h=>?_) (fun cdv A outer s H vs Q E hr h=>?_)
 ·obtain⟨_,_,_,_,_,_,_,_,_,rfl,_⟩:=h
  rfl
 ·obtain⟨A,y,L,W,s0,KS,m,dp,xs,rfl,hH,md,R,PL,sm,ek,hK,eK,m1,rg1,at1,fr,q⟩:=h
  refine⟨_,(ab (am (i:=3) scRg.nd rfl (Or.inl rfl) (pcl (ky T) hr T.m_look T.F_look.kp (ou T) (aa (pv 0) ae)))
   (ab (am (i:=4) scRg.nd rfl (Or.inl rfl) (aS (pv 0) T.cl_Yard T.M_Jf (qA T) hr (tR T) .nil aH))
   (ab (am (i:=5) scRg.nd rfl (Or.inl rfl) (pcl (pi T) hr T.m_fate T.F_fate.kp (sg T) (aa (pv 0) (aa (pv 2) ae))))
   (ab (av (PW.pt (dM (ai (rk hr.units) (pcl (ky T) hr T.m_look T.F_look.kp (ou T) (aa (pv 0) ae)) (pv 3) (aj _)) (dM (d7 (cj (pcl (nL T) hr T.m_is T.F_is.kp (r9 T) (aa (aS (pv 0) T.cl_Yard T.M_Jf (qA T) hr (tR T) .nil aH) (aa (pv 4) ae))))) (dC (d7 (cj (aI fU (by rfl) T.z_isinstance (by rfl) (aa (pv 5) (aa (gT (v:=.ty "tuple") (by rfl) T.z_tuple (by rfl) rfl) ae)))))))))
    (af (ao kr))
    ak)
   (ab (av (PW.pt (dM (ai kt (aI aA (by rfl) T.z_len (by rfl) (aa (pv 5) ae)) (aI aA (by rfl) T.z_len (by rfl) (aa (pv 1) ae)) (aj _)) (dM (ai kt (aG bv (pv 5) ag) (aG bv (pv 1) ag) (aj _)) (dC (d7 (cj (pcl (nL T) hr T.m_is T.F_is.kp (r9 T) (aa (aG bv (pv 5) (qm lZ ag)) (aa (aG bv (pv 1) (qm lZ ag)) ae)))))))))
    (af (ao kr))
    ak)
   (ab (av (ai br (aG bv (pv 1) ag) aF (aj _))
    (af (ao (cL br (aG bv (pv 5) ag) (aG bv (pv 1) ag) (aj _))))
    ak)
   (af (ao (pe_or (cL br (aG bv (pv 1) ag) aF (aj _)) (gS (pcl (nL T) hr T.m_is T.F_is.kp (r9 T) (aa (aG bv (pv 5) ag) (aa (aG bv (pv 1) ag) ae))))))))))))),?_⟩
  rw[]
  refine⟨_,U,A,y,L,W,s0,KS,U,hH,R,PL,sm,ek,hK,fun H1 l1 N1 S1 h1=>?_⟩
  dsimp only[List.set]
  refine⟨_,U,A.p,A.dx,_,U,h1.get 1 U,(cw _ _ _).2.2.2.2.2.2.2.2,A,y,_,U,h1,?_⟩
  dsimp only[List.set]
  refine⟨_,U,_,U,A,y,N1++L,W,s0,m,U,h1,R,PL.app N1,eK,m1,rg1,at1,fun H2 fp ys f2 h2=>?_⟩
  have ey:=fr ys f2
  subst ey
  dsimp only[List.set]
  have h3:=Has.comm (X:=[_]) (Y:=yL t.c_Yard A y) (R:=N1++L) h2
  clear h1 h2
  refine⟨_,U,A,y,(fp,HO.tup ys)::(N1++L),W,s0,KS,U,h3,R,(PL.app N1).app [_],sm,ek,hK,fun H4 l4 N4 S4 h4=>?_⟩
  have S1':DV K H4 (dO W s0 KS) (.ref l1):=S1 H4 fun z hz _=>h4.at_ z (mem_append_right _ (mem_append_right _ (mem_cons_of_mem _ hz)))
  refine⟨_,U,dO W s0 KS,dO W s0 KS,S4 H4 (fun z hz _=>h4.at_ z (mem_append_right _ hz)),S1',kD _ _ _,kD _ _ _,?_⟩
  rw[eqvR _ (fH _ _ _).1]
  refine⟨_,U,bT ?_⟩
  refine⟨_,U,A.p,A.dx,_,U,h4.get 1 U,(cw _ _ _).2.2.2.2.2.2.2.2,A,y,_,U,h4,_,U,_,_,U,?_⟩
  rw[decide_eq_true rfl]
  refine⟨_,U,bT ?_⟩
  have gf:H4 fp=some (.tup ys):=h4.at_ (fp,HO.tup ys) (mem_append_right _ (mem_append_right _ mem_cons_self))
  have gd:H4 dp=some (.tup ys):=h4.at_ (dp,HO.tup ys) (mem_append_right _ (mem_append_right _ (mem_cons_of_mem _ (mem_append_right _ md))))
  have fin:Q (.bl true) H4:=q H4 (Has.sub h4 (List.Sublist.append_left (List.Sublist.trans (List.sublist_append_right N1 L) (List.Sublist.trans (List.Sublist.cons _ (List.Sublist.refl _)) (List.sublist_append_right N4 _))) _))
  refine⟨_,U,_,_,_,_,U,.tup gf,rF K,_,U,bT ?_⟩
  refine⟨_,U,fp,_,U,.inr (SqT.of gf),_,U,dp,_,U,.inr (SqT.of gd),?_⟩
  refine⟨U,_,U,ifF (by rw[decide_eq_true rfl]; rfl) ?_⟩
  rcases f2 with ⟨n,n1,n2,n3,rfl⟩ | ⟨mu,lam,C,c,rfl⟩ | ⟨o1,o2,rfl⟩
  ·refine⟨_,U,fp,_,_,_,U,U,SqT.of gf,U,_,U,dp,_,_,_,U,U,SqT.of gd,U,U,_,U,ifF (by rw[decide_eq_true rfl]; rfl) ?_⟩
   refine⟨_,U,_,U,fp,_,_,_,U,U,SqT.of gf,U,_,U,_,U,dp,_,_,_,U,U,SqT.of gd,U,_,_,U,?_⟩
   rw[decide_eq_true rfl]
   refine⟨_,U,bT ?_⟩
   refine⟨_,U,dp,_,_,_,U,U,SqT.of gd,U,U,_,U,dE ?_⟩
   refine⟨_,U,fp,_,_,_,U,U,SqT.of gf,U,_,U,dp,_,_,_,U,U,SqT.of gd,U,?_⟩
   obtain⟨x,hx⟩:∃ x,W.why (W.go n s0)=.str x:=by
    rcases d4 W (W.go n s0) (Okw.go n R.okw).eo with e | e
    ·obtain⟨s',hs⟩:=(cH (w:=W) (s:=W.go n s0) (Okw.go n R.okw).eo).mp e
     rw[n3] at hs
     cases hs
    ·exact e
   rw[hx]
   refine⟨U,?_⟩
   rw[decide_eq_true rfl]
   exact fin
  ·refine⟨_,U,fp,_,_,_,U,U,SqT.of gf,U,_,U,dp,_,_,_,U,U,SqT.of gd,U,U,_,U,ifF (by rw[decide_eq_true rfl]; rfl) ?_⟩
   refine⟨_,U,_,U,fp,_,_,_,U,U,SqT.of gf,U,_,U,_,U,dp,_,_,_,U,U,SqT.of gd,U,_,_,U,?_⟩
   rw[decide_eq_true rfl]
   refine⟨_,U,bT ?_⟩
   refine⟨_,U,dp,_,_,_,U,U,SqT.of gd,U,U,_,U,bT ?_⟩
   refine⟨_,U,dp,_,_,_,U,U,SqT.of gd,U,U,?_⟩
   refine⟨_,U,bT ?_⟩
   refine⟨_,U,fp,_,_,_,U,U,SqT.of gf,U,_,U,dp,_,_,_,U,U,SqT.of gd,U,_,_,U,?_⟩
   rw[decide_eq_true rfl]
   exact fin
  ·refine⟨_,U,fp,_,_,_,U,U,SqT.of gf,U,_,U,dp,_,_,_,U,U,SqT.of gd,U,U,_,U,ifF (by rw[decide_eq_true rfl]; rfl) ?_⟩
   refine⟨_,U,_,U,fp,_,_,_,U,U,SqT.of gf,U,_,U,_,U,dp,_,_,_,U,U,SqT.of gd,U,_,_,U,?_⟩
   rw[decide_eq_true rfl]
   refine⟨_,U,bT ?_⟩
   refine⟨_,U,dp,_,_,_,U,U,SqT.of gd,U,U,_,U,bT ?_⟩
   refine⟨_,U,dp,_,_,_,U,U,SqT.of gd,U,U,?_⟩
   exact⟨_,U,dE fin⟩
end
theorem i9 {H:Hp}{L:Kn} (h:Has H L):∀ (ps:Kn),(∀ x ∈ ps,H x.1=some x.2)->∃ N,Has H (N++L)/\∀ x ∈ ps,x ∈ N++L
 | [],_=>⟨[],h,fun x hx=>by cases hx⟩
 | p::ps,hp=>by
  obtain⟨N,h1,h2⟩:=i9 h ps fun x hx=>hp x (mem_cons_of_mem _ hx)
  have e:=hp p mem_cons_self
  by_cases hm:p.1 ∈ (N++L).map (·.1)
  ·obtain⟨x,hx,ex⟩:=mem_map.mp hm
   have e2:=h1.at_ x hx
   rw[ex,e] at e2
   have:p=x:=Prod.ext ex.symm (Option.some.inj e2)
   exact⟨N,h1,fun y hy=>by
    rcases mem_cons.mp hy with rfl | hy
    ·rw[this]; exact hx
    ·exact h2 y hy⟩
  ·refine⟨p::N,⟨?_,fun x hx=>?_⟩,fun y hy=>?_⟩
   ·show((p::(N++L)).map (·.1)).Nodup
    rw[map_cons]
    exact List.nodup_cons.mpr ⟨hm,h1.nd⟩
   ·rcases mem_cons.mp hx with rfl | hx
    ·exact e
    ·exact h1.at_ x hx
   ·rcases mem_cons.mp hy with rfl | hy
    ·exact mem_cons_self
    ·exact mem_cons_of_mem _ (h2 y hy)
theorem iD {κ:Type} [DecidableEq κ]:∀ {kvs:List (κ×V)}{k:κ},k ∈ kvs.map (·.1)->∃ v,aD kvs k=some v
 | [],k,h=>by cases h
 | p::r,k,h=>by
  by_cases e:p.1=k
  ·exact⟨p.2,bj e⟩
  ·rw[aZ e]
   rw[map_cons] at h
   rcases mem_cons.mp h with h | h
   ·exact absurd h.symm e
   ·exact iD h
noncomputable def kp (k:List Key):Int×Int:=match k with
 | [.inl a,.inl b]=>(a,b)
 | _=>(0,0)
theorem i5 (n e:Int):kp (kE n e)=(n,e):=rfl
theorem g8 {n e n' e':Int} (h:kE n e=kE n' e'):(n,e)=(n',e'):=by rw[<- i5 n e,<- i5 n' e',h]
noncomputable def jD (as:List Addr) (m:List (List Key×V)):List Pr:=(as.zip m).map fun x=>(x.1,kp x.2.1)
theorem nw:∀ (as:List Addr) (m:List (List Key×V)),as.length=m.length->prV (jD as m)=as.map V.ref
 | [],[],_=>rfl
 | a::as,x::m,h=>by
  have:=nw as m (by simpa using h)
  unfold prV jD at this ⊢
  rw[List.zip_cons_cons,map_cons,map_cons,this]
  rfl
theorem nz:∀ (as:List Addr) (m:List (List Key×V)),as.length=m.length->(jD as m).map (·.2)=m.map fun x=>kp x.1
 | [],[],_=>rfl
 | a::as,x::m,h=>by
  have:=nz as m (by simpa using h)
  unfold jD at this ⊢
  rw[List.zip_cons_cons,map_cons,map_cons,this]
  rfl
theorem nq {as:List Addr}{m:List (List Key×V)}{z:Pr} (h:z ∈ jD as m):∃ (i:Nat) (x:List Key×V),as[i]?=some z.1/\m[i]?=some x/\z.2=kp x.1:=by
 unfold jD at h
 obtain⟨y,hy,rfl⟩:=mem_map.mp h
 obtain⟨i,hi⟩:=List.getElem?_of_mem hy
 rw[List.getElem?_zip_eq_some] at hi
 exact⟨i,y.2,hi.1,hi.2,U⟩
noncomputable def pE (ks:List Kd):List (Int×Kd):=ks.zipIdx.map fun p=>((p.2:Int),p.1)
theorem lA (ks:List Kd):fJ ks=jM (pE ks):=by unfold fJ jM pE; rw[map_map]; rfl
theorem pD {ks:List Kd}{ns rs:List Int}{es:List En}{m:List (List Key×V)}:∀ p ∈ pE ks,(wOf ks ns rs es m).kf p.1=some p.2:=fun p hp=>by
 obtain⟨q,hq,rfl⟩:=mem_map.mp hp
 rw[lX]
 have:=List.mem_zipIdx_iff_getElem?.mp hq
 exact this
theorem Rep.throw {w:Wd}{s:Sd}{y:YR} (R:Rep w s y) (r:Nat) (x:Int) (hx:x=1∨x=2):Rep w { s with ss:=s.ss.set r x } { y with sides:=y.sides.set r (.int x),trail:=[] }:=by
 refine⟨R.kd,R.no,R.ro,fun n k h1 h2=>by show _/\_<((s.ss.set r x).length:Int); rw[List.length_set]; exact R.rr n k h1 h2,?_,fun u hu=>?_,R.mt,R.mo,R.en,R.eo,R.rg⟩
 ·show y.sides.set r (.int x)=(s.ss.set r x).map V.int
  rw[R.sd,List.map_set]
 ·rcases List.mem_or_eq_of_mem_set hu with hu | hu
  ·exact R.s12 u hu
  ·rw[hu]; exact hx
theorem kN {κ:Type} [DecidableEq κ] (kvs:List (κ×V)) (k:κ):(aN kvs k).length<=kvs.length:=by
 induction kvs with
 | nil=>exact Nat.le_refl _
 | cons p r ih=>
  by_cases e:p.1=k
  ·rw[de e,length_cons]; omega
  ·rw[df e,length_cons,length_cons]; omega
theorem rB {w:Wd}{s:Sd} (g:List Int):(w.nx s=none/\w.nx { s with rg:=g }=none)∨∃ s' g',w.nx s=some s'/\w.nx { s with rg:=g }=some { s' with rg:=g' }:=by
 rcases Option.eq_none_or_eq_some s.at_ with hz | ⟨z,hz⟩
 ·exact .inl ⟨(cC hz).1,(cC (s:={ s with rg:=g }) hz).1⟩
 rcases Option.eq_none_or_eq_some (w.kf z.2.1) with hk | ⟨k,hk⟩
 ·left
  constructor
  ·unfold Wd.nx; simp only[hz,hk]
  ·unfold Wd.nx; simp only[hz,hk]
 by_cases c:k.out z.2.2 (w.sv s z.2.1)=.non
 ·exact .inl ⟨(bJ hz hk c).1,(bJ (s:={ s with rg:=g }) hz hk c).1⟩
 obtain⟨o,ho⟩:=Kd.out_int (k:=k) (fun e=>c (by unfold Kd.out; rw[if_pos e])) z.2.2 (w.sv s z.2.1)
 rcases Option.eq_none_or_eq_some (w.mf z.2.1 o) with hm | ⟨z',hm⟩
 ·exact .inl ⟨(bA hz hk ho hm).1,(bA (s:={ s with rg:=g }) hz hk ho hm).1⟩
 ·exact .inr ⟨_,_,dk hz hk ho hm,dk (s:={ s with rg:=g }) hz hk ho hm⟩
theorem jP {w:Wd}:∀ (n:Nat) (s:Sd) (g:List Int),∃ g',w.go n { s with rg:=g }={ w.go n s with rg:=g' }
 | 0,s,g=>⟨g,U⟩
 | n+1,s,g=>by
  rcases rB (w:=w) (s:=s) g with ⟨a,b⟩ | ⟨s',g',a,b⟩
  ·rw[bh w a,bh w b]; exact⟨g,U⟩
  ·rw[bg w a,bg w b]; exact jP n s' g'
theorem dh {κ:Type} [DecidableEq κ] {kvs:List (κ×V)}{k j:κ}{v:V} (h:aD (aN kvs k) j=some v):aD kvs j=some v:=by
 by_cases c:j=k
 ·rw[c,ci] at h; cases h
 ·rw[cf c] at h; exact h
theorem cP {κ:Type} [DecidableEq κ]:∀ {kvs:List (κ×V)}{k x:κ},x ∈ (aN kvs k).map (·.1)->x ∈ kvs.map (·.1)
 | [],_,_,h=>h
 | p::r,k,x,h=>by
  by_cases e:p.1=k
  ·rw[de e] at h
   exact mem_cons_of_mem _ (cP h)
  ·rw[df e,map_cons] at h
   rcases mem_cons.mp h with rfl | h
   ·exact mem_cons_self
   ·exact mem_cons_of_mem _ (cP h)
theorem pA {es:List En}{m:List (List Key×V)}{n1 e1 n2 e2:Int}:cb es (aN (aN m (kE n1 e1)) (kE n2 e2))=px (cb es m) (n1,e1) (n2,e2):=by
 funext n e
 unfold px
 by_cases c2:(n,e)=(n2,e2)
 ·rw[if_pos (.inr c2)]
  injection c2 with a b
  unfold cb
  rw[a,b,ci]
 ·by_cases c1:(n,e)=(n1,e1)
  ·rw[if_pos (.inl c1)]
   unfold cb
   rw[cf (fun q=>c2 (g8 q))]
   injection c1 with a b
   rw[a,b,ci]
  ·rw[if_neg (fun q=>q.elim c1 c2)]
   unfold cb
   rw[cf (fun q=>c2 (g8 q)),cf (fun q=>c1 (g8 q))]
structure I26 (ks:List Kd) (ns rs:List Int) (es:List En) (m:List (List Key×V)) (s:Sd) (y:YR) (ts:List (Addr×Sd)) (L:Kn) (c:Nat):Prop where
 R:Rep (wOf ks ns rs es m) s y
 lw:Lw (wOf ks ns rs es m) ks ns rs m
 mi:MIn es m
 sy:Wsym (cb es m)
 mt:y.mates=m
 kd:y.kinds=fJ ks
 nl:y.notes.length<=24
 rl:y.rods.length<=24
 sl:s.ss.length<=24
 ml:m.length<=80
 mks:∀ k ∈ m.map (·.1),∃ p ∈ aU ks,k=kE p.1 p.2
 tr:y.trail=trV ts
 tl:ts.length<=c
 rg:s.rg.length<=c
 a:∃ z,s.at_=some z
 P:Pool (wOf ks ns rs es m) s L
theorem I26.small {ks:List Kd}{ns rs:List Int}{es:List En}{m:List (List Key×V)}{s:Sd}{y:YR}{ts:List (Addr×Sd)}{L:Kn}{c:Nat} (I:I26 ks ns rs es m s y ts L c) (hc:c<=1000) (hk:ks.length<=24):fV y :=
 ⟨by rw[I.kd,eC]; omega,by have:=I.nl; omega,by have:=I.rl; omega,by rw[I.R.sd,length_map]; have:=I.sl; omega,by rw[I.mt]; have:=I.ml; omega,by rw[I.R.rg,length_map]; have:=I.rg; omega,by rw[I.tr]; unfold trV; rw[length_map]; have:=I.tl; omega⟩
theorem I26.ek {ks:List Kd}{ns rs:List Int}{es:List En}{m:List (List Key×V)}{s:Sd}{y:YR}{ts:List (Addr×Sd)}{L:Kn}{c:Nat} (I:I26 ks ns rs es m s y ts L c) (hk:ks.length<=24):EK y.mates:=by
 rw[I.mt]
 intro k h
 obtain⟨p,hp,rfl⟩:=I.mks k h
 obtain⟨n,e,hn,he,ee⟩:=rS (ks:=ks) (by omega) hp
 exact⟨n,e,hn,he,ee⟩
theorem I26.mono {ks:List Kd}{ns rs:List Int}{es:List En}{m:List (List Key×V)}{s:Sd}{y:YR}{ts:List (Addr×Sd)}{L:Kn}{c c':Nat} (I:I26 ks ns rs es m s y ts L c) (h:c<=c'):I26 ks ns rs es m s y ts L c' :=
 ⟨I.R,I.lw,I.mi,I.sy,I.mt,I.kd,I.nl,I.rl,I.sl,I.ml,I.mks,I.tr,Nat.le_trans I.tl h,Nat.le_trans I.rg h,I.a,I.P⟩
theorem I26.throw {ks:List Kd}{ns rs:List Int}{es:List En}{m:List (List Key×V)}{s:Sd}{y:YR}{ts:List (Addr×Sd)}{L:Kn}{c:Nat} (I:I26 ks ns rs es m s y ts L c) (r:Nat) (x:Int) (hx:x=1∨x=2):I26 ks ns rs es m { s with ss:=s.ss.set r x } { y with sides:=y.sides.set r (.int x),trail:=[] } [] L c :=
 ⟨I.R.throw r x hx,I.lw,I.mi,I.sy,I.mt,I.kd,I.nl,I.rl,by show(s.ss.set r x).length<=24; rw[List.length_set]; exact I.sl,I.ml,I.mks,U,Nat.zero_le _,I.rg,I.a,⟨I.P.m,I.P.e⟩⟩
theorem I26.unlink {ks:List Kd}{ns rs:List Int}{es:List En}{m:List (List Key×V)}{s:Sd}{y:YR}{ts:List (Addr×Sd)}{L:Kn}{c:Nat} (I:I26 ks ns rs es m s y ts L c) (ei:∀ x ∈ es,x.2 ∈ aU ks) (mes:∀ x ∈ es,∃ j:Nat,L[j]?=some (x.1,HO.tup [.int x.2.1,.int x.2.2])) {n1 e1:Int}{z:En} (hz:cb es m n1 e1=some z) :
  I26 ks ns rs es (aN (aN m (kE n1 e1)) (kE z.2.1 z.2.2)) s { y with mates:=aN (aN y.mates (kE n1 e1)) (kE z.2.1 z.2.2),trail:=[] } [] L c:=by
 have M:MIn es (aN (aN m (kE n1 e1)) (kE z.2.1 z.2.2)):=fun k v h=>I.mi k v (dh (dh h))
 refine⟨⟨I.R.kd,I.R.no,I.R.ro,I.R.rr,I.R.sd,I.R.s12,fun n e=>?_,fun n e u hu=>gL (ei u (cY hu)),I.R.en,I.R.eo,I.R.rg⟩,⟨I.lw.kf,I.lw.nf,I.lw.rf,I.lw.nl,I.lw.rl,I.lw.rn,fun n e=>cE M n e⟩,M,?_,?_,I.kd,I.nl,I.rl,I.sl,Nat.le_trans (kN _ _) (Nat.le_trans (kN _ _) I.ml),fun k hk=>I.mks k (cP (cP hk)),U,Nat.zero_le _,I.rg,I.a,⟨fun n e u hu=>mes u (cY hu),I.P.e⟩⟩
 ·show aD (aN (aN y.mates (kE n1 e1)) (kE z.2.1 z.2.2)) (kE n e)=_
  rw[I.mt]
  exact cE M n e
 ·rw[pA]
  exact I.sy.unlink hz
 ·show aN (aN y.mates (kE n1 e1)) (kE z.2.1 z.2.2)=_
  rw[I.mt]
theorem I26.go {ks:List Kd}{ns rs:List Int}{es:List En}{m:List (List Key×V)}{s:Sd}{y y':YR}{ts ts':List (Addr×Sd)}{L:Kn}{c:Nat} (I:I26 ks ns rs es m s y ts L c) {n:Nat} (R:Rep (wOf ks ns rs es m) ((wOf ks ns rs es m).go n s) y') (t:y'.trail=trV (ts++ts')) (h:ts'.map (·.2)=(wOf ks ns rs es m).hist n s) (f2:y'.kinds=y.kinds) (f3:y'.notes=y.notes) (f4:y'.rods=y.rods) (f5:y'.mates=y.mates) :
  I26 ks ns rs es m ((wOf ks ns rs es m).go n s) y' (ts++ts') L (c+n):=by
 have l1:ts'.length<=n:=by
  have:=congrArg List.length h
  rw[length_map] at this
  rw[this]
  exact eD _ _ _
 obtain⟨z,hz⟩:=I.a
 refine⟨R,I.lw,I.mi,I.sy,f5.trans I.mt,f2.trans I.kd,by rw[f3]; exact I.nl,by rw[f4]; exact I.rl,by rw[nY]; exact I.sl,I.ml,I.mks,t,by rw[length_append]; have:=I.tl; omega,?_,?_,I.P.go' n⟩
 ·have:=cq (wOf ks ns rs es m) n s
  have:=I.rg
  omega
 ·cases e:((wOf ks ns rs es m).go n s).at_ with
  | none=>exact absurd e (bQ n s (by rw[hz]; exact fun h=>nomatch h))
  | some x=>exact⟨x,U⟩
noncomputable def msS:Setoid Kn:=⟨List.Perm,⟨List.Perm.refl,List.Perm.symm,List.Perm.trans⟩⟩
noncomputable def Ms:Type:=Quotient msS
noncomputable def Ms.mk (l:Kn):Ms:=Quotient.mk msS l
noncomputable def Ms.one (z:Addr×HO):Ms:=Ms.mk [z]
noncomputable def Ms.zero:Ms:=Ms.mk []
noncomputable def Ms.add:Ms->Ms->Ms:=Quotient.lift₂ (s₁:=msS) (s₂:=msS) (fun x y=>Ms.mk (x++y)) (fun _ _ _ _ h1 h2=>Quotient.sound (s:=msS) (List.Perm.append h1 h2))
theorem Ms.app (a b:Kn):Ms.mk (a++b)=(Ms.mk a).add (Ms.mk b):=rfl
theorem Ms.cons (z:Addr×HO) (b:Kn):Ms.mk (z::b)=(Ms.one z).add (Ms.mk b):=rfl
theorem Ms.nil:Ms.mk []=Ms.zero:=rfl
theorem Ms.zl (a:Ms):Ms.zero.add a=a:=by
 induction a using Quotient.ind with | _ x=>rfl
theorem Ms.zr (a:Ms):a.add Ms.zero=a:=by
 induction a using Quotient.ind with | _ x=>exact congrArg Ms.mk (append_nil x)
instance:Std.Associative Ms.add:=⟨fun a b c=>by
 induction a using Quotient.ind with | _ x=>induction b using Quotient.ind with | _ y=>induction c using Quotient.ind with | _ z=>exact congrArg Ms.mk (append_assoc x y z)⟩
instance:Std.Commutative Ms.add:=⟨fun a b=>by
 induction a using Quotient.ind with | _ x=>induction b using Quotient.ind with | _ y=>exact Quotient.sound (s:=msS) (List.perm_append_comm (l₁:=x) (l₂:=y))⟩
theorem Ms.perm {a b:Kn} (h:Ms.mk a=Ms.mk b):a.Perm b:=Quotient.exact h
theorem Has.ac {H:Hp}{a b:Kn} (h:Has H a) (e:Ms.mk a=Ms.mk b):Has H b:=h.perm (Ms.perm e)
noncomputable def sp_law (K:PySem.W.Frag):Sp:=fun vs H Q _=>∃ (a:Addr) (ns:List Int),vs=[.ref a]/\SqL K H a (ns.map V.int)/\ns.length<=63/\∀ H',Q (.bl true) H'
theorem law_binds {K:PySem.W.Frag}{mg:Str->Option Value}{t:Adr} (T:Txt K mg t) (s:Shared) (u:Value):BindsTo s t.d_law ⟨[u],[]⟩ [("_law_script",u)]:=by
 obtain⟨oc,od,kV,doc,pm,an,cdv,ct,osl,e,lk,hcd⟩:=T.F_law.ex
 rw[e,T.e_law]
 exact .of_eq rfl
theorem law_start {K:PySem.W.Frag}{H:Hp}{a:Addr}{ns:List Int} (hl:ns.length<=63) (hS:SqL K H a (ns.map V.int)) {E:XK}:sp_law K [.ref a] H (fun v _=>v=.bl true) E:=⟨a,ns,U,hS,hl,fun _=>rfl⟩
section
variable {P:Program}{w:World}{K:PySem.W.Frag}{mg:Str->Option Value}{base:Heap}{t:Adr}
theorem scLa:FnScope ["_law_script","_law_d","_law_yard","_law_kinds_here","_law_notes","_law_rods","_law_sides","_law_mates","_law_at","_law_most","_law_turn","_law_draw","_law_bar","_law_end"] ["_law_script"] (ah qj):={}
theorem ok_law (T:Txt K mg t):FnOk P w K mg base CX0 14 t.f_law t.d_law ["_law_script"] (sp_law K):=by
 refine T.F_law.ok scLa (fun vs H Q E h=>?_) (fun cdv A outer s H vs Q E hr h=>?_)
 ·obtain⟨_,_,rfl,_⟩:=h
  rfl
 ·obtain⟨a,ns0,rfl,hS,hns,q⟩:=h
  have hu:=cn hr
  refine⟨_,(ab (am (i:=1) scLa.nd rfl (Or.inl rfl) (pcl (nM T) hr T.m_draws T.F_draws.kp (pR T) (aa (pv 0) (aa ag ae))))
   (ab (bO (pcl (rq T) hr T.m_set T.F_set.kp (b_set T) (aa (pv 1) (aa ag ae))) (cA rfl (az (ar (i:=2) scLa.nd rfl (Or.inl rfl)) (az (ar (i:=3) scLa.nd rfl (Or.inl rfl)) (az (ar (i:=4) scLa.nd rfl (Or.inl rfl)) (az (ar (i:=5) scLa.nd rfl (Or.inl rfl)) (az (ar (i:=6) scLa.nd rfl (Or.inl rfl)) (az (ar (i:=7) scLa.nd rfl (Or.inl rfl)) (az (ar (i:=8) scLa.nd rfl (Or.inl rfl)) bX)))))))))
   (ab (am (i:=8) scLa.nd rfl (Or.inl rfl) (aG bv (pcl (gU T) hr T.m_walk T.F_walk.kp (jT T) (aa (pv 3) (aa (pv 4) (aa (pv 5) (aa (pv 6) (aa (pv 7) (aa (bI ae) (aa (pv 8) (aa (aq aW (aG aC (pv 1) ag (fun _ _=>rfl)) ag) ae))))))))) ag))
   (ab (al (pcl (cX T) hr T.m_run T.F_run.kp (eM T) (aa (pv 2) (aa (aq aW (aG aC (pv 1) ag) ag) ae))))
   (ab (am (i:=9) scLa.nd rfl (Or.inl rfl) (aq aW (aG aC (pv 1) ag) ag))
   (ab (dD (av (ai br (aq aW (aq bY (aG aC (pv 1) ag) ag) ag) ag (aj _))
    (af (am (i:=9) scLa.nd rfl (Or.inl rfl) (aq cM ag (pv 9))))
    ak))
   (ab (b9 PassesOwn.never rfl (bS (by rfl) T.z_range (aa ag ae)) (ar (i:=10) scLa.nd rfl (Or.inl rfl))
    (ab (dD (av (d7 (cj (pcl (nI T) hr T.m_right T.F_right.kp (pO T) (aa (pv 2) (aa (pcl (rA T) hr T.m_due T.F_due.kp (b_due T) (aa (pv 3) (aa (pv 4) (aa (pv 5) (aa (pv 6) (aa (pv 7) (aa (pv 8) (aa (aI (gE rfl) (by rfl) T.z_max (by rfl) (aa ag (aa (pv 9) ae))) ae)))))))) (aa (pv 9) ae))))))
      (af (ao kr))
      ak))
     (ab (am (i:=11) scLa.nd rfl (Or.inl rfl) (aG aC (pv 1) (aq bf ag (pv 10))))
     (ab (dD (av (PW.pt (cT (ai br (aq aW (pv 11) ag) ag (aj _)) (cv (ai dj (aI aA (by rfl) T.z_len (by rfl) (aa (pv 6) ae)) ag (aj _)))))
      (ab (am (i:=12) scLa.nd rfl (Or.inl rfl) (aq aW (aq bY (pv 11) ag) (aI aA (by rfl) T.z_len (by rfl) (aa (pv 6) ae))))
       (ab (bO (aq cM ag (aG aC (pv 6) (pv 12))) (fu (pv 6) (pv 12) cS))
       (af (al (aK (pv 2) T.cl_Yard T.M_Jd (qB T) hr (tS T) .nil aH (aa (pv 12) (aa (aG aC (pv 6) (pv 12)) ae)))))))
      ak))
     (ab (dD (av (PW.pt (cT (ai br (aq aW (pv 11) ag) ag (aj _)) (cv (ai dj (aI gF (by rfl) T.z_len (by rfl) (aa (pv 7) ae)) ag (aj _)))))
      (ab (am (i:=13) scLa.nd rfl (Or.inl rfl) (aG aC (aI ip (by rfl) T.z_sorted (by rfl) (aa (a9 (iq rfl) (by rfl) T.z_list (by rfl) (aa (pv 7) ae)) ae)) (aq aW (aq bY (pv 11) ag) (aI gF (by rfl) T.z_len (by rfl) (aa (pv 7) ae)))))
       (ab (al (aK (pv 2) T.cl_Yard T.M_J8 (ok_J8 T) hr (b_J8 T) .nil aH (aa (pv 13) ae)))
       (af (al (iN hu (pv 7) (iN hu (pv 7) (pv 13) ⟨U,U,U,U⟩) ⟨U,U,U,U⟩)))))
      ak))
     (af (dD (av (ai br (aq aW (pv 11) ag) ag (aj _))
      (ab (am (i:=8) scLa.nd rfl (Or.inl rfl) (aG bv (pcl (gU T) hr T.m_walk T.F_walk.kp (jT T) (aa (pv 3) (aa (pv 4) (aa (pv 5) (aa (pv 6) (aa (pv 7) (aa (bI ae) (aa (pv 8) (aa (aq bf ag (aq aW (aq bY (pv 11) ag) ag)) ae))))))))) ag))
       (af (al (pcl (cX T) hr T.m_run T.F_run.kp (eM T) (aa (pv 2) (aa (aq bf ag (aq aW (aq bY (pv 11) ag) ag)) ae))))))
      ak))))))))
   (af (ao kr))))))))),?_⟩
  rw[show L2.start ["_law_script","_law_d","_law_yard","_law_kinds_here","_law_notes","_law_rods","_law_sides","_law_mates","_law_at","_law_most","_law_turn","_law_draw","_law_bar","_law_end"] [V.ref a]=([some (V.ref a),none,none,none,none,none,none,none,none,none,none,none,none,none]:St) from rfl]
  refine⟨_,U,a,ns0,210,[],U,hS,hns,by decide,by decide,Has.nil,fun H1 d ds h1 hds hdr=>?_⟩
  clear hS hns hdr
  have hds:ds.length=210:=hds
  dsimp only[List.set]
  refine⟨_,U,d,ds,4,_,0,U,h1,U,by decide,by omega,fun H2 tp A y ks ns rs ss es m z sd mh rr nn kk S h2=>?_⟩
  refine⟨tp,_,U,SqT.of (h2.get 0 U),U,_,_,U,_,_,U,_,_,U,_,_,U,_,_,U,_,_,U,_,_,U,U,?_⟩
  replace h2:=h2.tail
  clear h1
  dsimp only[List.set]
  obtain⟨L,eL⟩:∃ L:Kn,(rr,HO.lst (rs.map V.int))::(nn,HO.lst (ns.map V.int))::(kk,HO.lst (ksV ks))::(esK es++[(d,HO.lst (ds.map V.int))])=L:=⟨_,U⟩
  have md:(d,HO.lst (ds.map V.int)) ∈ L:=by rw[<- eL]; simp
  have mrr:(rr,HO.lst (rs.map V.int)) ∈ L:=by rw[<- eL]; simp
  have mnn:(nn,HO.lst (ns.map V.int)) ∈ L:=by rw[<- eL]; simp
  have mkk:(kk,HO.lst (ksV ks)) ∈ L:=by rw[<- eL]; simp
  have mes:∀ x ∈ es,(x.1,HO.tup [.int x.2.1,.int x.2.2]) ∈ L:=fun x hx=>by
   have:(x.1,HO.tup [.int x.2.1,.int x.2.2]) ∈ esK es:=mem_map.mpr ⟨x,hx,U⟩
   rw[<- eL]; simp[this]
  rw[eL] at h2
  clear eL
  have mes':∀ x ∈ es,∃ j:Nat,L[j]?=some (x.1,HO.tup [.int x.2.1,.int x.2.2]):=fun x hx=>List.mem_iff_getElem?.mp (mes x hx)
  have ei:=S.ei
  have k24:=S.k24
  have I0:I26 ks ns rs es m ⟨ss,some z,[]⟩ y [] L 0:=⟨S.R,S.lw,S.mi,S.sy,S.mt,S.kd,S.nlen,S.rlen,S.sl,S.ml,S.mks,S.tl,Nat.le_refl 0,Nat.le_refl 0,⟨z,U⟩,⟨fun n e u h=>mes' u (cY h),fun u hu=>by cases hu; exact mes' z S.zi⟩⟩
  clear S
  have h2:Has H2 (yL t.c_Yard A y++(trK (wOf ks ns rs es m) []++((sd,HO.lst (ss.map V.int))::(mh,HO.dT m)::L))):=h2
  have gD:∀ {H':Hp}{Y:Kn},Has H' Y->(d,HO.lst (ds.map V.int)) ∈ Y->SqL K H' d (ds.map V.int):=fun h m=>SqL.of (h.at_ _ m)
  obtain⟨n0,en0⟩:∃ n0:Nat,ds.getD (0:Int).toNat 0 % 10=n0:=by
   have:=Int.emod_nonneg (ds.getD (0:Int).toNat 0) (show(10:Int)≠0 by decide)
   exact⟨(ds.getD (0:Int).toNat 0 % 10).toNat,by omega⟩
  have n10:n0<10:=by have:=Int.emod_lt_of_pos (ds.getD (0:Int).toNat 0) (show(0:Int)<10 by decide); omega
  obtain⟨s0,es0⟩:∃ s0:Sd,(⟨ss,some z,[]⟩:Sd)=s0:=⟨_,U⟩
  have eat:V.ref z.1=enV s0.at_:=by rw[<- es0]; rfl
  have ess:ss=s0.ss:=by rw[<- es0]
  rw[es0] at I0
  rw[ess] at h2
  rw[eat]
  clear es0 ess eat
  obtain⟨W,eW⟩:∃ W,wOf ks ns rs es m=W:=⟨_,U⟩
  refine⟨_,U,_,U,_,U,_,U,_,U,(show 0<=sizeLine by decide),fun gg hgg=>?_⟩
  have h3:=h2.alloc hgg (.lst [])
  generalize upd _ gg _=H3 at h3 ⊢
  have h3:Has H3 ((sd,HO.lst (s0.ss.map V.int))::(gg,HO.lst [])::((mh,HO.dT m)::(yL t.c_Yard A y++(trK W []++L)))):=Has.ac h3 (by rw[<- eW]; simp only[Ms.app,Ms.cons,Ms.nil,Ms.zl,Ms.zr]; ac_rfl)
  obtain⟨jk,hjk⟩:=List.mem_iff_getElem?.mp (show(kk,HO.lst (ksV ks)) ∈ (mh,HO.dT m)::(yL t.c_Yard A y++(trK W []++L)) by simp[mkk])
  obtain⟨jn,hjn⟩:=List.mem_iff_getElem?.mp (show(nn,HO.lst (ns.map V.int)) ∈ (mh,HO.dT m)::(yL t.c_Yard A y++(trK W []++L)) by simp[mnn])
  obtain⟨jr,hjr⟩:=List.mem_iff_getElem?.mp (show(rr,HO.lst (rs.map V.int)) ∈ (mh,HO.dT m)::(yL t.c_Yard A y++(trK W []++L)) by simp[mrr])
  have PW:Pool W s0 L:=by rw[<- eW]; exact I0.P
  have PW3:Pool W { s0 with rg:=[] } ((mh,HO.dT m)::(yL t.c_Yard A y++(trK W []++L))):=Pool.app (Pool.app (Pool.app (s:={ s0 with rg:=[] }) ⟨PW.m,PW.e⟩ (trK W [])) (yL t.c_Yard A y)) [(mh,HO.dT m)]
  refine⟨_,U,_,U,d,_,_,_,U,U,gD h3 (by simp[md]),atD (by omega) (by omega),_,_,U,U,(show(0:Int)<10 by decide),?_⟩
  dsimp only; rw[en0]
  refine⟨sd,gg,kk,nn,rr,mh,_,W,{ s0 with rg:=[] },(n0:Nat),ks,ns,rs,m,jk,jn,jr,0,U,h3,by rw[<- eW]; exact I0.lw,(by rw[<- eW]; exact⟨I0.R.rr,I0.R.s12,I0.R.mo,I0.R.eo⟩),PW3,hjk,hjn,hjr,U,(by show(0:Int)+_<=_; omega),fun H4 tq h4 O4 P4 _=>?_⟩
  refine⟨tq,_,_,_,U,U,SqT.of (h4.get 0 U),U,?_⟩
  obtain⟨g',eg⟩:=jP (w:=W) n0 s0 []
  rw[Int.toNat_natCast,eg] at h4 ⊢
  have h5:Has H4 (yL t.c_Yard A y++(trK W []++((sd,HO.lst ((W.go n0 s0).ss.map V.int))::(mh,HO.dT m)::L))):=(Has.ac (b:=(gg,HO.lst (g'.map V.int))::(yL t.c_Yard A y++(trK W []++((sd,HO.lst ((W.go n0 s0).ss.map V.int))::(mh,HO.dT m)::L)))) h4.tail (by simp only[Ms.app,Ms.cons,Ms.nil,Ms.zl,Ms.zr]; ac_rfl)).tail
  clear h3 h4 hjk hjn hjr O4 P4
  dsimp only[List.set]
  refine⟨_,U,_,U,d,_,_,_,U,U,gD h5 (by simp[md]),atD (by omega) (by omega),_,_,U,U,(show(0:Int)<10 by decide),?_⟩
  dsimp only; rw[en0]
  have t1:=I0.tl
  have t2:=I0.rg
  refine⟨A,y,_,W,s0,[],(n0:Nat),U,h5,(by rw[<- eW]; exact I0.R),PW.app [(sd,HO.lst ((W.go n0 s0).ss.map V.int)),(mh,HO.dT m)],I0.tr,by omega,(by rw[I0.R.rg,length_map]; omega),by omega,(by rw[I0.R.rg,length_map]; omega),fun H6 y6 ts6 h6 R6 t6 m6 f1 f2 f3 f4 f5 P6=>?_⟩
  rw[Int.toNat_natCast] at R6 m6
  have I6:I26 ks ns rs es m (W.go n0 s0) y6 ([]++ts6) L (0+n0):=by
   rw[<- eW] at R6 m6 ⊢
   exact I0.go R6 t6 m6 f2 f3 f4 f5
  clear h5 R6 t6 m6 f1 f2 f3 f4 f5 P6 PW t1 t2
  rw[List.nil_append] at h6
  rw[List.nil_append,Nat.zero_add] at I6
  obtain⟨s9,es9⟩:∃ s9,W.go n0 s0=s9:=⟨_,U⟩
  rw[es9] at h6 I6 ⊢
  rw[<- eW] at h6
  clear eW es9 h2 I0 en0
  have I9:I26 ks ns rs es m s9 y6 ts6 L (10+5*0):=I6.mono (by omega)
  clear I6
  refine⟨_,U,d,_,_,_,U,U,gD h6 (by simp[md]),atD (by omega) (by omega),_,_,U,U,(show(0:Int)<120 by decide),?_⟩
  dsimp only[List.set]
  obtain⟨v1,ev1⟩:∃ v1:Int,ds.getD (1:Int).toNat 0=v1:=⟨_,U⟩
  have v0:=Int.emod_nonneg v1 (show(120:Int)≠0 by decide)
  have v2:=Int.emod_lt_of_pos v1 (show(0:Int)<120 by decide)
  rw[ev1]
  refine⟨fun σ' H'=>∃ mo:Int,mo<=1000/\σ'=[some (.ref a),some (.ref d),some (.ref A.p),some (.ref kk),some (.ref nn),some (.ref rr),some (.ref sd),some (.ref mh),some (enV s9.at_),some (.int mo),none,none,none,none]/\H'=H6,?_,?_⟩
  ·refine⟨_,U,d,_,_,_,U,U,gD h6 (by simp[md]),atD (by omega) (by omega),_,_,U,U,⟨by decide,by decide⟩,_,_,U,U,(show(0:Int)<8 by decide),U,_,U,?_⟩
   rw[cQ]
   refine ifd (fun c=>?_) (fun c=>?_)
   ·exact⟨_,U,_,_,U,U,_,by omega,U,U⟩
   ·exact⟨v1 % 120,by omega,U,U⟩
  rintro σ1 H7 ⟨mo,hmo,rfl,rfl⟩
  refine⟨_,U,by decide,by decide,bU (fun i σ H'=>∃ (A1:YA) (y1:YR) (s1:Sd) (m1:List (List Key×V)) (ts1:List (Addr×Sd)) (o1 o2 o3 o4:Option V),A1.p=A.p/\σ=[some (.ref a),some (.ref d),some (.ref A.p),some (.ref kk),some (.ref nn),some (.ref rr),some (.ref sd),some (.ref mh),some (enV s1.at_),some (.int mo),o1,o2,o3,o4]/\I26 ks ns rs es m1 s1 y1 ts1 L (10+5*i) /\
   Has H' (yL t.c_Yard A1 y1++(trK (wOf ks ns rs es m1) ts1++((sd,HO.lst (s1.ss.map V.int))::(mh,HO.dT m1)::L)))) ⟨A,y6,s9,m,ts6,_,_,_,_,U,U,I9,h6⟩ ?_ ?_⟩
  ·rintro i σ H1 hi ⟨A1,y1,s1,m1,ts1,o1,o2,o3,o4,eA,rfl,I1,h1⟩
   have hi:i<3:=hi
   dsimp only[List.set]
   rw[Int.zero_add]
   obtain⟨z1,hz1⟩:=I1.a
   obtain⟨W,eW⟩:∃ W,wOf ks ns rs es m1=W:=⟨_,U⟩
   have P1:=I1.P
   have R1:=I1.R
   have lw1:=I1.lw
   rw[eW] at P1 R1 lw1 h1
   have emx:(if mo > 0 then mo else 0:Int)=(mo.toNat:Int):=by split <;> omega
   refine⟨fun σ' H'=>σ'=[some (.ref a),some (.ref d),some (.ref A.p),some (.ref kk),some (.ref nn),some (.ref rr),some (.ref sd),some (.ref mh),some (enV s1.at_),some (.int mo),some (.int (i:Int)),o2,o3,o4]/\Has H' (yL t.c_Yard A1 y1++(trK W ts1++((sd,HO.lst (s1.ss.map V.int))::(mh,HO.dT m1)::L))),?_,?_⟩
   ·refine⟨_,U,_,U,_,U,_,U,_,U,_,U,_,U,_,U,0,mo,U,?_⟩
    refine⟨sd,kk,nn,rr,mh,_,W,s1,z1,mo.toNat,ks,ns,rs,m1,(by rw[hz1,emx]; rfl),h1,lw1,R1.okw,?_,hz1,by omega,by have:=I1.sl; omega,by simp[mkk],by simp[mnn],by simp[mrr],by simp,by simp,fun H2 dp xs dr h2=>?_⟩
    ·exact Pool.app (Pool.app (Pool.app P1 [(sd,HO.lst (s1.ss.map V.int)),(mh,HO.dT m1)]) (trK W ts1)) (yL t.c_Yard A1 y1)
    have rgl:=I1.rg
    refine⟨_,U,A1,y1,_,W,s1,pE ks,mo,dp,xs,(by rw[eA]; rfl),Has.comm (X:=[_]) (Y:=yL t.c_Yard A1 y1) h2,mem_cons_self,R1,?_,I1.small (by omega) k24,I1.kd.trans (lA ks),(by rw[<- eW]; exact pD),I1.ek k24,hmo,by omega,(by rw[hz1]; exact fun h=>nomatch h),fun ys f=>DR.eq f dr,fun H3 h3=>?_⟩
    ·exact Pool.app (Pool.app P1 (trK W ts1++[(sd,HO.lst (s1.ss.map V.int)),(mh,HO.dT m1)])) [(dp,HO.tup xs)] |> fun p=>by simpa using p
    exact⟨_,U,bT ⟨U,(Has.out (x:=(dp,HO.tup xs)) h3).tail⟩⟩
   clear h1
   rintro σ1 H1 ⟨rfl,h1⟩
   refine⟨_,U,_,U,_,_,U,U,d,_,_,_,U,U,gD h1 (by simp[md]),atD (by omega) (by omega),?_⟩
   dsimp only[List.set]
   obtain⟨v,ev⟩:∃ v:Int,ds.getD (195+(i:Int)).toNat 0=v:=⟨_,U⟩
   rw[ev]
   clear ev
   refine⟨fun σ' H'=>∃ (A2:YA) (y2:YR) (s2:Sd) (ts2:List (Addr×Sd)) (o3:Option V),A2.p=A.p/\s2.at_=s1.at_/\σ'=[some (.ref a),some (.ref d),some (.ref A.p),some (.ref kk),some (.ref nn),some (.ref rr),some (.ref sd),some (.ref mh),some (enV s1.at_),some (.int mo),some (.int (i:Int)),some (.int v),o3,o4]/\I26 ks ns rs es m1 s2 y2 ts2 L (10+5*i)/\Has H' (yL t.c_Yard A2 y2++(trK W ts2++((sd,HO.lst (s2.ss.map V.int))::(mh,HO.dT m1)::L))),?_,?_⟩
   ·have stay:∃ (A2:YA) (y2:YR) (s2:Sd) (ts2:List (Addr×Sd)) (o3':Option V),A2.p=A.p/\s2.at_=s1.at_/\[some (.ref a),some (.ref d),some (.ref A.p),some (.ref kk),some (.ref nn),some (.ref rr),some (.ref sd),some (.ref mh),some (enV s1.at_),some (.int mo),some (.int (i:Int)),some (.int v),o3,o4]=[some (V.ref a),some (.ref d),some (.ref A.p),some (.ref kk),some (.ref nn),some (.ref rr),some (.ref sd),some (.ref mh),some (enV s1.at_),some (.int mo),some (.int (i:Int)),some (.int v),o3',o4]/\I26 ks ns rs es m1 s2 y2 ts2 L (10+5*i)/\Has H1 (yL t.c_Yard A2 y2++(trK W ts2++((sd,HO.lst (s2.ss.map V.int))::(mh,HO.dT m1)::L))):=⟨A1,y1,s1,ts1,_,eA,U,U,I1,h1⟩
    refine⟨_,U,_,_,U,U,(show(0:Int)<4 by decide),U,_,U,?_⟩
    rw[cQ]
    refine ifd (fun c=>?_) (fun c=>bT stay)
    have gsd:SqL K H1 sd (s1.ss.map V.int):=SqL.of (h1.at_ (sd,HO.lst (s1.ss.map V.int)) (by simp))
    refine⟨_,U,sd,_,U,.inl gsd,_,_,U,U,_,U,if2 (fun c2=>?_) (fun c2=>stay)⟩
    have sl0:0<s1.ss.length:=by have:=of_decide_eq_true c2; rw[length_map] at this; omega
    clear stay
    refine⟨_,U,_,_,U,U,⟨by decide,by decide⟩,_,U,sd,_,U,.inl gsd,_,_,U,U,(by show(0:Int)<((s1.ss.map V.int).length:Int); rw[length_map]; omega),?_⟩
    dsimp only[List.set]
    rw[length_map]
    obtain⟨b,bl,eb,_⟩:=iI (n:=s1.ss.length) (x:=v / 4) sl0
    rw[eb]
    have hb12:s1.ss.getD b 0=1∨s1.ss.getD b 0=2:=by
     rw[List.getD_eq_getElem?_getD,getElem?_eq_getElem bl]
     exact I1.R.s12 _ (List.getElem_mem bl)
    have ejx:ixN (s1.ss.map V.int).length (b:Int)=some b:=by unfold ixN; rw[length_map,if_pos (by omega),if_pos (by omega)]; congr 1
    have h2:Has H1 ((sd,HO.lst (s1.ss.map V.int))::(yL t.c_Yard A1 y1++(trK W ts1++((mh,HO.dT m1)::L)))):=Has.ac h1 (by simp only[Ms.app,Ms.cons,Ms.nil,Ms.zl,Ms.zr]; ac_rfl)
    refine⟨_,U,_,U,sd,_,_,_,U,U,gsd,aY (cr bl),_,_,U,U,_,U,_,U,sd,_,_,_,U,U,h2.get 0 U,ejx,?_⟩
    obtain⟨x,ex⟩:∃ x:Int,3 - s1.ss.getD b 0=x:=⟨_,U⟩
    have hx:x=1∨x=2:=by omega
    dsimp only
    rw[ex]
    have h3:=h2.put (.lst ((s1.ss.map V.int).set b (.int x)))
    generalize upd H1 sd _=H3 at h3 ⊢
    have ga:atI ((s1.ss.map V.int).set b (.int x)) (b:Int)=some (.int x):=aY (by rw[List.getElem?_set_self (by rw[length_map]; exact bl)])
    have h4:Has H3 (yL t.c_Yard A1 y1++(trK W ts1++((sd,HO.lst ((s1.ss.map V.int).set b (.int x)))::(mh,HO.dT m1)::L))):=Has.ac h3 (by simp only[Ms.app,Ms.cons,Ms.nil,Ms.zl,Ms.zr]; ac_rfl)
    rw[<- eA]
    refine⟨_,U,A1.p,A1.dx,_,U,h4.get 1 U,(b5 _ _ _).2.2.1,_,U,_,U,_,U,sd,_,_,_,U,U,SqL.of (h3.get 0 U),ga,A1,y1,_,(b:Int),x,U,h4,by omega,(by rw[I1.R.sd,length_map]; omega),hx,fun H5 q5 h5=>?_⟩
    rw[Int.toNat_natCast] at h5
    refine⟨{ A1 with tr:=q5 },_,{ s1 with ss:=s1.ss.set b x },[],_,U,U,U,I1.throw b x hx,?_⟩
    rw[<- List.map_set] at h5
    exact Has.sub h5 (List.Sublist.append_left (List.sublist_append_right _ _) _)
   clear h1 I1 eA
   rintro σ1 H1 ⟨A1,y1,s2,ts1,o3,eA,es2,rfl,I1,h1⟩
   refine⟨fun σ' H'=>∃ (A2:YA) (y2:YR) (m2:List (List Key×V)) (ts2:List (Addr×Sd)) (o4:Option V),A2.p=A.p/\σ'=[some (.ref a),some (.ref d),some (.ref A.p),some (.ref kk),some (.ref nn),some (.ref rr),some (.ref sd),some (.ref mh),some (enV s1.at_),some (.int mo),some (.int (i:Int)),some (.int v),o3,o4]/\I26 ks ns rs es m2 s2 y2 ts2 L (10+5*i)/\Has H' (yL t.c_Yard A2 y2++(trK (wOf ks ns rs es m2) ts2++((sd,HO.lst (s2.ss.map V.int))::(mh,HO.dT m2)::L))),?_,?_⟩
   ·rw[<- eW] at h1
    have stay:∃ (A2:YA) (y2:YR) (m2:List (List Key×V)) (ts2:List (Addr×Sd)) (o4':Option V),A2.p=A.p/\[some (.ref a),some (.ref d),some (.ref A.p),some (.ref kk),some (.ref nn),some (.ref rr),some (.ref sd),some (.ref mh),some (enV s1.at_),some (.int mo),some (.int (i:Int)),some (.int v),o3,o4]=[some (V.ref a),some (.ref d),some (.ref A.p),some (.ref kk),some (.ref nn),some (.ref rr),some (.ref sd),some (.ref mh),some (enV s1.at_),some (.int mo),some (.int (i:Int)),some (.int v),o3,o4']/\I26 ks ns rs es m2 s2 y2 ts2 L (10+5*i)/\Has H1 (yL t.c_Yard A2 y2++(trK (wOf ks ns rs es m2) ts2++((sd,HO.lst (s2.ss.map V.int))::(mh,HO.dT m2)::L))):=⟨A1,y1,m1,ts1,_,eA,U,I1,h1⟩
    rw[eW] at h1
    refine⟨_,U,_,_,U,U,(show(0:Int)<4 by decide),U,_,U,?_⟩
    rw[cQ]
    refine ifd (fun c=>?_) (fun c=>bT stay)
    have gmh:∀ {H':Hp}{X:Kn},Has H' (X++(yL t.c_Yard A1 y1++(trK W ts1++((sd,HO.lst (s2.ss.map V.int))::(mh,HO.dT m1)::L))))->H' mh=some (.dT m1):=fun h=>h.at_ (mh,HO.dT m1) (by simp)
    refine⟨_,U,mh,_,U,gmh (X:=[]) h1,_,_,U,U,_,U,if2 (fun c2=>?_) (fun c2=>stay)⟩
    have ml0:0<m1.length:=by have:=of_decide_eq_true c2; omega
    clear stay
    have M1:=I1.mi
    have mks:=I1.mks
    have ml1:=I1.ml
    refine⟨_,U,mh,m1,U,gmh (X:=[]) h1,fun l1 as hl1 las nd hks=>?_⟩
    obtain⟨ps,eps⟩:∃ ps,jD as m1=ps:=⟨_,U⟩
    have ev:as.map V.ref=prV ps:=by rw[<- eps,nw _ _ las]
    have ev2:ps.map (·.2)=m1.map fun x=>kp x.1:=by rw[<- eps,nz _ _ las]
    have pT:∀ z ∈ ps,H1 z.1=some (.tup [.int z.2.1,.int z.2.2])/\z.2 ∈ aU ks/\∃ v,aD m1 (kE z.2.1 z.2.2)=some v:=fun z hz=>by
     rw[<- eps] at hz
     obtain⟨i,x,h5,h6,h7⟩:=nq hz
     have hkm:x.1 ∈ m1.map (·.1):=mem_map_of_mem (mem_of_getElem? h6)
     obtain⟨p,hp1,hp2⟩:=mks _ hkm
     have h8:=hks i x.1 x.2 z.1 (by rw[h6]) h5
     rw[hp2,i5] at h7
     rw[h7]
     exact⟨by rw[hp2] at h8; exact h8,hp1,by rw[<- hp2]; exact iD hkm⟩
    have lps:ps.length=m1.length:=by simpa using congrArg List.length ev2
    rw[ev]
    have h5:=h1.alloc hl1 (.lst (prV ps))
    have pT5:∀ x ∈ (ps.map fun z=>(z.1,HO.tup [.int z.2.1,.int z.2.2]):Kn),upd H1 l1 (.lst (prV ps)) x.1=some x.2:=fun x hx=>by
     obtain⟨z,hz,rfl⟩:=mem_map.mp hx
     have:=(pT z hz).1
     rw[aJ (fun e=>by dsimp only at e; rw[e,hl1] at this; cases this)]
     exact this
    obtain⟨N,h6,hN⟩:=i9 h5 _ pT5
    generalize upd H1 l1 _=H5 at h6 ⊢
    clear h5 pT5
    obtain⟨Z,eZ⟩:∃ Z:Kn,N++[(l1,HO.lst (prV ps))]=Z:=⟨_,U⟩
    have h6:Has H5 (Z++(yL t.c_Yard A1 y1++(trK W ts1++((sd,HO.lst (s2.ss.map V.int))::(mh,HO.dT m1)::L)))):=by
     rw[<- eZ]
     exact gC h6 (by simp)
    have hM:∀ z ∈ ps,(z.1,HO.tup [.int z.2.1,.int z.2.2]) ∈ Z++(yL t.c_Yard A1 y1++(trK W ts1++((sd,HO.lst (s2.ss.map V.int))::(mh,HO.dT m1)::L))):=fun z hz=>by
     have h7:=hN _ (mem_map_of_mem (f:=fun z:Pr=>(z.1,HO.tup [.int z.2.1,.int z.2.2])) hz)
     rw[<- eZ]
     simpa using h7
    have mlz:(l1,HO.lst (prV ps)) ∈ Z:=by rw[<- eZ]; simp
    have hndp:(ps.map (·.2)).Nodup:=by
     rw[ev2]
     rw[show(m1.map fun x=>kp x.1)=(m1.map (·.1)).map kp by rw[map_map]; rfl]
     unfold List.Nodup at nd ⊢
     rw[List.pairwise_map]
     refine List.Pairwise.imp_of_mem ?_ nd
     intro a b ha hb hne e
     obtain⟨p,_,rfl⟩:=mks a ha
     obtain⟨p2,_,rfl⟩:=mks b hb
     rw[i5,i5] at e
     exact hne (by injection e with e1 e2; rw[e1,e2])
    have pin:∀ z ∈ ps,0<=z.2.2/\z.2.2<3:=fun z hz=>by
     obtain⟨_,k,_,_,h5,h6⟩:=b6 (n:=z.2.1) (e:=z.2.2) (pT z hz).2.1
     have:k.many<=3:=by cases k <;> decide
     exact⟨h5,by omega⟩
    refine⟨l1,ps,U,SqL.of (h6.at_ _ (mem_append_left _ mlz)),⟨fun z hz=>SqT.of (h6.at_ _ (hM z hz)),fun z hz=>⟨(pin z hz).1,by have:=(pin z hz).2; omega⟩,hndp,by omega⟩,fun l2 qs hl2 hqp _=>?_⟩
    have h7:=h6.alloc hl2 (.lst (prV qs))
    generalize upd H5 l2 _=H6 at h7 ⊢
    have lq:qs.length=m1.length:=by rw[hqp.length_eq,lps]
    have h7':Has H6 (((l2,HO.lst (prV qs))::Z)++(yL t.c_Yard A1 y1++(trK W ts1++((sd,HO.lst (s2.ss.map V.int))::(mh,HO.dT m1)::L)))):=h7
    obtain⟨b,bl,eb,_⟩:=iI (n:=m1.length) (x:=v / 4) ml0
    refine⟨_,U,_,_,U,U,⟨by decide,by decide⟩,_,U,mh,_,U,gmh h7',_,_,U,U,(by show(0:Int)<(m1.length:Int); omega),?_⟩
    dsimp only
    rw[eb]
    have bq:b<qs.length:=by omega
    have mq:qs[b] ∈ ps:=hqp.mem_iff.mp (List.getElem_mem bq)
    refine⟨l2,_,_,_,U,U,SqL.of (h7.get 0 U),aY (by unfold prV; rw[getElem?_map,getElem?_eq_getElem bq]; rfl),?_⟩
    generalize qs[b]=x at mq ⊢
    obtain⟨_,xE,v1,hv⟩:=pT x mq
    have mx:=hM x mq
    clear hM pT hqp hks nd ev ev2 eps pin hndp h6
    have mvv:=cE M1 x.2.1 x.2.2
    rw[hv] at mvv
    obtain⟨u,hm⟩:∃ u,cb es m1 x.2.1 x.2.2=some u:=by
     cases e:cb es m1 x.2.1 x.2.2 with
     | none=>rw[e] at mvv; cases mvv
     | some u=>exact⟨u,U⟩
    rw[hm] at mvv
    rw[Option.some.inj mvv] at hv
    have hv:aD m1 (kE x.2.1 x.2.2)=some (.ref u.1):=hv
    obtain⟨nu,z',hz',ez'⟩:=I1.sy _ _ _ hm
    have hv2:aD m1 (kE u.2.1 u.2.2)=some (.ref z'.1):=by rw[cE M1,hz']; rfl
    have kne:¬ kE u.2.1 u.2.2=kE x.2.1 x.2.2:=fun e=>nu (g8 e)
    have mu:=mes u (cY hm)
    obtain⟨X,eX⟩:∃ X:Kn,((l2,HO.lst (prV qs))::Z)++trK W ts1=X:=⟨_,U⟩
    have h8:Has H6 (yL t.c_Yard A1 y1++(X++((sd,HO.lst (s2.ss.map V.int))::(mh,HO.dT m1)::L))):=by
     rw[<- eX]
     exact gC (Has.comm (X:=(l2,HO.lst (prV qs))::Z) h7') (by simp)
    have mxX:(x.1,HO.tup [.int x.2.1,.int x.2.2]) ∈ X++((sd,HO.lst (s2.ss.map V.int))::(mh,HO.dT m1)::L):=by
     rw[<- eX]
     rcases mem_append.mp mx with h | h
     ·simp[h]
     ·rcases mem_append.mp h with h | h
      ·simp[yL] at h
      ·rcases mem_append.mp h with h | h
       ·simp[h]
       ·exact mem_append_right _ h
    have muX:(u.1,HO.tup [.int u.2.1,.int u.2.2]) ∈ X++((sd,HO.lst (s2.ss.map V.int))::(mh,HO.dT m1)::L):=by simp[mu]
    obtain⟨j1,hj1⟩:=List.mem_iff_getElem?.mp mxX
    obtain⟨j2,hj2⟩:=List.mem_iff_getElem?.mp muX
    obtain⟨k,hk,e0,e1⟩:=gL (ks:=ks) (ns:=ns) (rs:=rs) (es:=es) (m:=m1) (z:=x) xE
    clear h7 h7' mx mq eZ mlz h1
    have emt:=I1.mt
    rw[<- eA]
    refine⟨_,U,A1.p,A1.dx,_,U,h8.get 1 U,(dv _ _ _).2.2.2,_,U,A1,y1,_,x.1,u.1,x.2.1,x.2.2,u.2.1,u.2.2,j1,j2,.ref z'.1,U,h8,hj1,hj2,⟨k,I1.R.kd _ _ hk,e0,e1⟩,kne,by rw[emt]; exact hv,by rw[emt]; exact hv2,fun H9 q9 h9=>?_⟩
    have h10:Has H9 ((mh,HO.dT m1)::(yL t.c_Yard { A1 with tr:=q9 } { y1 with mates:=aN (aN y1.mates (kE x.2.1 x.2.2)) (kE u.2.1 u.2.2),trail:=[] }++(X++((sd,HO.lst (s2.ss.map V.int))::L)))):=Has.ac h9 (by simp only[Ms.app,Ms.cons,Ms.nil,Ms.zl,Ms.zr]; ac_rfl)
    have h11:=h10.put (.dT (aN m1 (kE x.2.1 x.2.2)))
    have h12:=h11.put (.dT (aN (aN m1 (kE x.2.1 x.2.2)) (kE u.2.1 u.2.2)))
    have nmx:mh≠x.1:=iV (h10.get 0 U) (h9.at_ _ (mem_append_right _ mxX)) (fun e=>nomatch e)
    have nmu:mh≠u.1:=iV (h10.get 0 U) (h9.at_ _ (mem_append_right _ muX)) (fun e=>nomatch e)
    refine⟨_,U,mh,U,.inr ⟨_,.inl (h10.get 0 U)⟩,_,U,mh,U,.inr ⟨_,.inl (h10.get 0 U)⟩,_,U,x.1,m1,kE x.2.1 x.2.2,.ref u.1,U,h10.get 0 U,h9.at_ (x.1,HO.tup [.int x.2.1,.int x.2.2]) (mem_append_right _ mxX),hv,u.1,_,kE u.2.1 u.2.2,.ref z'.1,U,h11.get 0 U,?_,(by rw[cf kne]; exact hv2),?_⟩
    ·rw[aJ (Ne.symm nmu)]
     exact h9.at_ (u.1,HO.tup [.int u.2.1,.int u.2.2]) (mem_append_right _ muX)
    refine⟨{ A1 with tr:=q9 },_,_,[],some (.ref x.1),U,U,I1.unlink ei mes' hm,?_⟩
    rw[emt] at h12
    refine(Has.ac (b:=X++(yL t.c_Yard { A1 with tr:=q9 } { y1 with mates:=aN (aN y1.mates (kE x.2.1 x.2.2)) (kE u.2.1 u.2.2),trail:=[] }++((sd,HO.lst (s2.ss.map V.int))::(mh,HO.dT (aN (aN m1 (kE x.2.1 x.2.2)) (kE u.2.1 u.2.2)))::L))) h12 ?_).right
    rw[emt]
    simp only[Ms.app,Ms.cons,Ms.nil,Ms.zl,Ms.zr]
    ac_rfl
   clear h1 I1 eA P1 R1 lw1 eW
   rintro σ1 H1 ⟨A1,y1,m2,ts1,o4,eA,rfl,I1,h1⟩
   rw[<- es2,<- eA]
   obtain⟨W,eW⟩:∃ W,wOf ks ns rs es m2=W:=⟨_,U⟩
   rw[eW] at h1
   refine⟨fun σ' H'=>∃ (A2:YA) (y2:YR) (s3:Sd) (m3:List (List Key×V)) (ts2:List (Addr×Sd)) (o1 o2 o3 o4:Option V),A2.p=A1.p/\σ'=[some (.ref a),some (.ref d),some (.ref A1.p),some (.ref kk),some (.ref nn),some (.ref rr),some (.ref sd),some (.ref mh),some (enV s3.at_),some (.int mo),o1,o2,o3,o4]/\I26 ks ns rs es m3 s3 y2 ts2 L (10+5*(i+1))/\Has H' (yL t.c_Yard A2 y2++(trK (wOf ks ns rs es m3) ts2++((sd,HO.lst (s3.ss.map V.int))::(mh,HO.dT m3)::L))),?_,fun _ _ h=>h⟩
   refine⟨_,U,_,_,U,U,(show(0:Int)<4 by decide),U,_,U,?_⟩
   rw[cQ]
   refine ifd (fun c=>?_) (fun c=>?_)
   ·obtain⟨n1,en1⟩:∃ n1:Nat,1+v / 4 % 5=n1:=by
     have:=Int.emod_nonneg (v / 4) (show(5:Int)≠0 by decide)
     exact⟨(1+v / 4 % 5).toNat,by omega⟩
    have n15:n1<=5:=by have:=Int.emod_lt_of_pos (v / 4) (show(0:Int)<5 by decide); omega
    refine⟨_,U,_,U,_,U,_,U,_,U,(show 0<=sizeLine by decide),fun gg hgg=>?_⟩
    have h3:=h1.alloc hgg (.lst [])
    generalize upd _ gg _=H3 at h3 ⊢
    have h3:Has H3 ((sd,HO.lst (s2.ss.map V.int))::(gg,HO.lst [])::((mh,HO.dT m2)::(yL t.c_Yard A1 y1++(trK W ts1++L)))):=Has.ac h3 (by rw[<- eW]; simp only[Ms.app,Ms.cons,Ms.nil,Ms.zl,Ms.zr]; ac_rfl)
    obtain⟨jk,hjk⟩:=List.mem_iff_getElem?.mp (show(kk,HO.lst (ksV ks)) ∈ (mh,HO.dT m2)::(yL t.c_Yard A1 y1++(trK W ts1++L)) by simp[mkk])
    obtain⟨jn,hjn⟩:=List.mem_iff_getElem?.mp (show(nn,HO.lst (ns.map V.int)) ∈ (mh,HO.dT m2)::(yL t.c_Yard A1 y1++(trK W ts1++L)) by simp[mnn])
    obtain⟨jr,hjr⟩:=List.mem_iff_getElem?.mp (show(rr,HO.lst (rs.map V.int)) ∈ (mh,HO.dT m2)::(yL t.c_Yard A1 y1++(trK W ts1++L)) by simp[mrr])
    have PW:Pool W s2 L:=by rw[<- eW]; exact I1.P
    have PW3:Pool W { s2 with rg:=[] } ((mh,HO.dT m2)::(yL t.c_Yard A1 y1++(trK W ts1++L))):=Pool.app (Pool.app (Pool.app (s:={ s2 with rg:=[] }) ⟨PW.m,PW.e⟩ (trK W ts1)) (yL t.c_Yard A1 y1)) [(mh,HO.dT m2)]
    refine⟨_,U,_,U,_,_,U,U,⟨by decide,by decide⟩,_,_,U,U,(show(0:Int)<5 by decide),_,_,U,U,?_⟩
    dsimp only; rw[en1]
    refine⟨sd,gg,kk,nn,rr,mh,_,W,{ s2 with rg:=[] },(n1:Nat),ks,ns,rs,m2,jk,jn,jr,0,U,h3,by rw[<- eW]; exact I1.lw,(by rw[<- eW]; exact⟨I1.R.rr,I1.R.s12,I1.R.mo,I1.R.eo⟩),PW3,hjk,hjn,hjr,U,(by show(0:Int)+_<=_; omega),fun H4 tq h4 O4 P4 _=>?_⟩
    refine⟨tq,_,_,_,U,U,SqT.of (h4.get 0 U),U,?_⟩
    obtain⟨g',eg⟩:=jP (w:=W) n1 s2 []
    rw[Int.toNat_natCast,eg] at h4 ⊢
    have h5:Has H4 (yL t.c_Yard A1 y1++(trK W ts1++((sd,HO.lst ((W.go n1 s2).ss.map V.int))::(mh,HO.dT m2)::L))):=(Has.ac (b:=(gg,HO.lst (g'.map V.int))::(yL t.c_Yard A1 y1++(trK W ts1++((sd,HO.lst ((W.go n1 s2).ss.map V.int))::(mh,HO.dT m2)::L)))) h4.tail (by simp only[Ms.app,Ms.cons,Ms.nil,Ms.zl,Ms.zr]; ac_rfl)).tail
    clear h3 h4 hjk hjn hjr O4 P4
    dsimp only[List.set]
    refine⟨_,U,_,U,_,_,U,U,⟨by decide,by decide⟩,_,_,U,U,(show(0:Int)<5 by decide),_,_,U,U,?_⟩
    dsimp only; rw[en1]
    have t1:=I1.tl
    have t2:=I1.rg
    refine⟨A1,y1,_,W,s2,ts1,(n1:Nat),U,h5,(by rw[<- eW]; exact I1.R),PW.app [(sd,HO.lst ((W.go n1 s2).ss.map V.int)),(mh,HO.dT m2)],I1.tr,by omega,(by rw[I1.R.rg,length_map]; omega),by omega,(by rw[I1.R.rg,length_map]; omega),fun H6 y6 ts6 h6 R6 t6 m6 f1 f2 f3 f4 f5 P6=>?_⟩
    rw[Int.toNat_natCast] at R6 m6
    have I6:I26 ks ns rs es m2 (W.go n1 s2) y6 (ts1++ts6) L ((10+5*i)+n1):=by
     rw[<- eW] at R6 m6 ⊢
     exact I1.go R6 t6 m6 f2 f3 f4 f5
    clear h5 R6 t6 m6 f1 f2 f3 f4 f5 P6 PW t1 t2
    rw[<- eW] at h6 I6 ⊢
    exact⟨A1,y6,_,m2,_,_,_,_,_,U,U,I6.mono (by omega),h6⟩
   ·rw[<- eW] at h1
    exact⟨A1,y1,s2,m2,ts1,_,_,_,_,U,U,I1.mono (by omega),h1⟩
  ·rintro σ H' ⟨_,_,_,_,_,_,_,_,_,_,rfl,_,_⟩
   exact q _
end
noncomputable abbrev ad {A0 A3 A5 A7 A9 Ab Ad Af Ah Aj Al An Ap Ar At Av Ax Az A11 A13 A15 A17 A19 A1b A1d A1f A1h A1j A1l A1n A1p A1r A1t A1v A1x A1z A21 A23 A25 A27 A29 A2b A2d A2g A2j A2l A2n A2p A2r A2t A2v A2x A2z A31 A33 A35 A37 A39:Addr}{D1 D4 D6 D8 Da Dc De Dg Di Dk Dm Do Dq Ds Du Dw Dy D10 D12 D14 D16 D18 D1a D1c D1e D1g D1i D1k D1m D1o D1q D1s D1u D1w D1y D20 D22 D24 D26 D28 D2a D2c D2e D2h D2k D2m D2o D2q D2s D2u D2w D2y D30 D32 D34 D36 D38:FuncData}{V2 V2f V2i V3a V3b V3c V3d:Value}:Adr:=⟨A0,D1,V2,A3,D4,A5,D6,A7,D8,A9,Da,Ab,Dc,Ad,De,Af,Dg,Ah,Di,Aj,Dk,Al,Dm,An,Do,Ap,Dq,Ar,Ds,At,Du,Av,Dw,Ax,Dy,Az,D10,A11,D12,A13,D14,A15,D16,A17,D18,A19,D1a,A1b,D1c,A1d,D1e,A1f,D1g,A1h,D1i,A1j,D1k,A1l,D1m,A1n,D1o,A1p,D1q,A1r,D1s,A1t,D1u,A1v,D1w,A1x,D1y,A1z,D20,A21,D22,A23,D24,A25,D26,A27,D28,A29,D2a,A2b,D2c,A2d,D2e,V2f,A2g,D2h,V2i,A2j,D2k,A2l,D2m,A2n,D2o,A2p,D2q,A2r,D2s,A2t,D2u,A2v,D2w,A2x,D2y,A2z,D30,A31,D32,A33,D34,A35,D36,A37,D38,A39,V3a,V3b,V3c,V3d⟩
theorem dm_Js {K:PySem.W.Frag}{v:Value}{T:Addr}{od:Option Addr}{n:Nat}{sl:Array (Option Value)}{tk0:Tok} (e:v=.ref T) (l:K.lookup T=some ⟨.type "tuple",od,.seq #[.int 0 tk0,.none] n,sl⟩):∃ (T:Addr) (od:Option Addr) (n:Nat) (sl:Array (Option Value)) (tk0:Tok),v=.ref T/\K.lookup T=some ⟨.type "tuple",od,.seq #[.int 0 tk0,.none] n,sl⟩:=⟨T,od,n,sl,tk0,e,l⟩
theorem dm_J7 {K:PySem.W.Frag}{v:Value}{T:Addr}{od:Option Addr}{n:Nat}{sl:Array (Option Value)}{tk0:Tok} (e:v=.ref T) (l:K.lookup T=some ⟨.type "tuple",od,.seq #[.int 1 tk0] n,sl⟩):∃ (T:Addr) (od:Option Addr) (n:Nat) (sl:Array (Option Value)) (tk0:Tok),v=.ref T/\K.lookup T=some ⟨.type "tuple",od,.seq #[.int 1 tk0] n,sl⟩:=⟨T,od,n,sl,tk0,e,l⟩
theorem tpm {K:PySem.W.Frag}{u:Value}{a:Addr}{od:Option Addr}{its:Array Value}{n:Nat}{sl:Array (Option Value)}{vs:List V} (y:u=.ref a) (l:K.lookup a=some ⟨.type "tuple",od,.seq its n,sl⟩) (s:its.size<=sizeLine) (v:Vals vs its.toList):∃ (a:Addr) (o:Obj) (its:Array Value) (n:Nat),u=.ref a/\K.lookup a=some o/\o.cls=.type "tuple" /\ o.data=.seq its n/\its.size<=sizeLine/\Vals vs its.toList:=⟨a,_,its,n,y,l,U,U,s,v⟩
end P
namespace PySem.W.Fast
noncomputable def tw6450881205594198309:=()
noncomputable def tw16567963282438540699:=()
noncomputable def tw11159310691153740874:=()
noncomputable def tw10176734582393348323:=()
noncomputable def tw3313718456976195645:=()
noncomputable def tw1706302611692093327:=()
noncomputable def tw7083684640356778422:=()
noncomputable def tw7259872178442784831:=()
noncomputable def tw6328926572388462517:=()
noncomputable def tw13938921621338282455:=()
noncomputable def tw17058746247342630412:=()
noncomputable def tw8792413460663195606:=()
noncomputable def tw15533151801742049718:=()
noncomputable def tw593381844010121279:=()
noncomputable def tw14756688728139155838:=()
noncomputable def tw14175849921318027483:=()
noncomputable def tw16455251801755193687:=()
noncomputable def tw7765383103446724145:=()
noncomputable def tw10385878148351781615:=()
noncomputable def tw351096837831955477:=()
noncomputable def tw5028899217410007309:=()
noncomputable def tw1516347983739293442:=()
noncomputable def tw13659033260921634004:=()
noncomputable def tw3755608017764193272:=()
noncomputable def tw14797378055324837702:=()
noncomputable def tw12524908380780666054:=()
noncomputable def tw1824633573282827435:=()
noncomputable def tw5936024670205382948:=()
noncomputable def tw14372142559119091639:=()
noncomputable def tw1535433982170450627:=()
noncomputable def tw11101823231494791609:=()
noncomputable def tw11759163165121539346:=()
noncomputable def tw17074826567225001940:=()
noncomputable def tw10425660925908768154:=()
noncomputable def tw17008747215416951753:=()
noncomputable def tw3816767212623244718:=()
noncomputable def tw12865089038439227624:=()
noncomputable def tw2931356504309368731:=()
noncomputable def tw4845916645001778254:=()
noncomputable def tw14796688560833633:=()
noncomputable def tw8183137342844555263:=()
noncomputable def tw12126389751553425239:=()
noncomputable def tw9254059712933923802:=()
noncomputable def tw15697677827806289707:=()
noncomputable def tw7986930745595283760:=()
noncomputable def tw9422483712205191100:=()
noncomputable def tw8240044986175055121:=()
noncomputable def tw18234073260826116769:=()
noncomputable def tw1516099536832800129:=()
noncomputable def tw17208347196382365815:=()
noncomputable def tw12137019010190043749:=()
noncomputable def tw7186986850839487981:=()
noncomputable def tw1734239104992059270:=()
noncomputable def tw10743666933210138553:=()
noncomputable def tw2750653675435282561:=()
noncomputable def tw12787412087873141699:=()
noncomputable def tw10124241915709349924:=()
noncomputable def tw10302656688595922663:=()
noncomputable def tw12987912008615292011:=()
noncomputable def tw11193467597396818012:=()
noncomputable def tw11172330208683221574:=()
noncomputable def tw11195737592098651822:=()
noncomputable def tw1580916861622351636:=()
noncomputable def tw5988715509253848378:=()
noncomputable def tw4909200891170725844:=()
noncomputable def tw3907550844068389384:=()
noncomputable def tw14007237543328327174:=()
noncomputable def tw7350081432546370485:=()
noncomputable def tw12503738685023166053:=()
noncomputable def tw5871436368564902963:=()
noncomputable def tw16208541281993474077:=()
noncomputable def tw6828155476011802797:=()
noncomputable def tw12543555591230674102:=()
noncomputable def tw6027352467347338579:=()
noncomputable def tw4381981864991881181:=()
noncomputable def tw8540477037101285001:=()
noncomputable def tw10706839909881813479:=()
noncomputable def tw15595076858554741044:=()
noncomputable def tw3438094052084077762:=()
noncomputable def tw10018307176234775577:=()
noncomputable def tw3824867817364399461:=()
noncomputable def tw11278213716216740063:=()
noncomputable def tw15353993978986583922:=()
noncomputable def tw17674142789607517751:=()
noncomputable def tw720863906380427859:=()
noncomputable def tw4974734950747043424:=()
noncomputable def tw3626775664810106708:=()
noncomputable def tw17418188232244139384:=()
noncomputable def tw13537745526182406196:=()
noncomputable def tw6692196421396666855:=()
noncomputable def tw14742778070964758017:=()
noncomputable def tw1242480718830460632:=()
noncomputable def tw5618510703296643590:=()
noncomputable def tw13526163832500338271:=()
noncomputable def tw13340653756909793873:=()
noncomputable def tw9839964374007855565:=()
noncomputable def tw15911104542670839588:=()
noncomputable def tw17392851397137611868:=()
noncomputable def tw14828060361191785452:=()
noncomputable def tw5133962682384138986:=()
noncomputable def tw6070468330182511995:=()
noncomputable def tw9119472925024820485:=()
noncomputable def tw10633872778131277877:=()
noncomputable def tw6553112933315231083:=()
noncomputable def tw6847064886086232991:=()
noncomputable def tw708264042520227227:=()
noncomputable def tw11509563151928501342:=()
noncomputable def tw5053184873000905773:=()
noncomputable def tw2686291722972646347:=()
noncomputable def tw12470741985696508605:=()
noncomputable def tw6163987843625674540:=()
noncomputable def tw9089337811283426054:=()
noncomputable def tw2868659147965703815:=()
noncomputable def tw3189794288376973285:=()
noncomputable def tw17453757003484068219:=()
noncomputable def tw2517876965307585613:=()
noncomputable def tw12195581522608953470:=()
noncomputable def tw17227589656058217125:=()
noncomputable def tw1188899662766138630:=()
noncomputable def tw6162817940114927779:=()
noncomputable def tw15740371951172362625:=()
noncomputable def tw270364743512785530:=()
noncomputable def tw5579522454283834566:=()
noncomputable def tw12481520768430825817:=()
noncomputable def tw6901798852689980236:=()
noncomputable def tw3618312644826437227:=()
noncomputable def tw17428141749416568553:=()
noncomputable def tw5795901497243702979:=()
noncomputable def tw18320693075233993949:=()
noncomputable def tw15171417713059388439:=()
noncomputable def tw14044714149856623713:=()
noncomputable def tw12344887696421151559:=()
noncomputable def tw947169432461433231:=()
noncomputable def tw10727797872784709001:=()
noncomputable def tw6108412804756982904:=()
noncomputable def tw1021304967351743781:=()
noncomputable def tw15527245901171937996:=()
noncomputable def tw193923486897290865:=()
noncomputable def tw10822036005691040055:=()
noncomputable def tw9938872135754407335:=()
noncomputable def tw10185566719462589911:=()
noncomputable def tw12195644711996680038:=()
noncomputable def tw7360627288752539038:=()
noncomputable def tw6924856485897758479:=()
noncomputable def tw40653632511322536:=()
noncomputable def tw1575255743714899738:=()
noncomputable def tw6214392956899289454:=()
noncomputable def tw9121197691593783079:=()
noncomputable def tw10470132564061236630:=()
noncomputable def tw5034841081486834604:=()
noncomputable def tw12470794967507560986:=()
noncomputable def tw8226343331701132390:=()
noncomputable def tw9461045311243431252:=()
noncomputable def tw13815067068761058272:=()
noncomputable def tw7544532656646781916:=()
noncomputable def tw4142884114289568368:=()
noncomputable def tw15104265970584381298:=()
noncomputable def tw11612845803211500381:=()
noncomputable def tw2980266054928404014:=()
noncomputable def tw3283946440192918638:=()
noncomputable def tw5847711968611735631:=()
noncomputable def tw2975084614388142953:=()
noncomputable def tw10171521206819919009:=()
noncomputable def tw12540687012643341818:=()
noncomputable def tw18163042364777915966:=()
noncomputable def tw3717271822601743919:=()
noncomputable def tw11226847659845321170:=()
noncomputable def tw13415550451930990829:=()
noncomputable def tw10496260177756467787:=()
noncomputable def tw6412145052338311352:=()
noncomputable def tw13485740310314195545:=()
noncomputable def tw18138919039869491945:=()
noncomputable def tw4732774750433696006:=()
noncomputable def tw6496971350459039428:=()
noncomputable def tw757270042381164996:=()
noncomputable def tw4674053101315351937:=()
noncomputable def tw4411038949261818400:=()
noncomputable def tw9206577398736520219:=()
noncomputable def tw7926632872970785720:=()
noncomputable def tw226013774119290436:=()
end PySem.W.Fast
end
open PySem PySem.W PyProof.Rows
set_option maxRecDepth 100000 in
set_option maxHeartbeats 0 in
theorem PySem.Challenge.cw_lazyrails_k26_whole_fate_holds : PySem.Challenge.rw_lazyrails_k26_whole_fate.Holds := by
 w_on; o_law; k_head; (case hw => w_witness2)
 k_fill
 refine L2.walk_ofK (l:=PySem.Challenge.rw_lazyrails_k26_whole_fate) (n:=63) (k:=14) (x := "_law_script") (CX:=L2.CX0) (sp:=P.sp_law) rfl (by decide) rfl ⟨rfl,by decide,by decide,rfl⟩ (fun w h Y => PySem.W.kIn_of Y) ?F ?S ?C
 case F =>
  intro w mg fa h KX G hmg
  have T:∃ t,P.Txt (L2.KOf KX) mg t:=by
   dsimp only [L2.KOf]
   refine' ⟨P.ad,P.Txt.mk ?z0 ?z1 ?z2 ?z3 ?z4 ?z5 ?z6 ?z7 ?z8 ?z9 ?za ?zb ?zc ?zd ?ze ?zf ?zg ?zh ?zi ?zj ?zk ?zl ?zm ?zn ?zo ?zp ?zq ?zr ?zs ?zt ?zu ?zv ?zw ?zx ?zy ?zz ?z10 ?z11 ?z12 ?z13 ?z14 ?z15 ?z16 ?z17 ?z18 ?z19 ?z1a ?z1b ?z1c ?z1d ?z1e ?z1f ?z1g ?z1h ?z1i ?z1j ?z1k ?z1l ?z1m ?z1n ?z1o ?z1p ?z1q ?z1r ?z1s ?z1t ?z1u ?z1v ?z1w ?z1x ?z1y ?z1z ?z20 ?z21 ?z22 ?z23 ?z24 ?z25 ?z26 ?z27 ?z28 ?z29 ?z2a ?z2b ?z2c ?z2d ?z2e ?z2f ?z2g ?z2h ?z2i ?z2j ?z2k ?z2l ?z2m ?z2n ?z2o ?z2p ?z2q ?z2r ?z2s ?z2t ?z2u ?z2v ?z2w ?z2x ?z2y ?z2z ?z30 ?z31 ?z32 ?z33 ?z34 ?z35 ?z36 ?z37 ?z38 ?z39 ?z3a ?z3b ?z3c ?z3d ?z3e ?z3f ?z3g ?z3h ?z3i ?z3j ?z3k ?z3l ?z3m ?z3n ?z3o ?z3p ?z3q ?z3r ?z3s ?z3t ?z3u ?z3v ?z3w ?z3x ?z3y ?z3z ?z40 ?z41 ?z42 ?z43⟩
   (case z39 => dsimp only [P.ad]; refine PySem.W.mg_of KX G ?_; k_is)
   (case z3a => dsimp only [P.ad]; apply L2.Mk.mk; k_is; k_is; k_is; k_is)
   (case z1l|z1n|z1o|z1p|z1q|z1r|z1s|z1t|z1u|z1v|z1w|z1x|z1y|z1z|z20|z21|z22|z23|z24|z25|z26|z27|z28|z29|z2a|z2b|z2c|z2d|z2e|z2f|z2g|z2h|z2i|z2j => dsimp only [P.ad]; refine PySem.W.mg_of KX G ?_; k_is)
   (case z2k|z2l|z2m|z2n|z2o|z2p|z2q|z2r|z2t|z2v|z2w|z2x|z2y|z2z|z30|z31|z32|z33|z34|z35|z36|z37 => dsimp only [P.ad]; apply L2.Meth.mk; k_is; k_is; k_is)
   (case z0|z1|z2|z3|z4|z5|z6|z7|z8|z9|za|zb|zc|zd|ze|zf|zg|zh|zi|zj|zk|zl|zm|zn|zo|zp|zq|zr|zs|zt|zu|zv|zw|zx|zy|zz|z10|z11|z12|z13|z14|z15|z16|z17|z18|z19|z1a|z1b|z1c|z1d|z1e|z1f|z1g|z1h|z1i|z1j|z1k => dsimp only [P.ad]; apply L2.funG_mk; k_is; k_is; k_is)
   (case z3b|z3c|z3d|z3e|z3f|z3g|z3h|z3i|z3j => dsimp only [L2.NoAttr,P.ad]; k_is)
   (case z2s => dsimp only [P.ad]; apply P.dm_Js rfl; k_is)
   (case z2u => dsimp only [P.ad]; apply P.dm_J7 rfl; k_is)
   (case z3w|z3y|z40|z42 => dsimp only [P.ad]; apply PySem.W.mg_of KX G; k_is)
   (case z38 => dsimp only [P.ad]; refine ⟨?_,?_,?_,?_⟩; k_is; k_is; k_is; k_is)
   (case z1m => exact rfl)
   (case z3k|z3l|z3m|z3n|z3o|z3p|z3q|z3r|z3s|z3t|z3u|z3v => refine PySem.W.mg_none_of KX G ?_; k_is)
   (case z41 => dsimp only [P.ad]; apply P.tpm rfl; k_is; exact (show 3 <= PySem.sizeLine by decide); exact .cons ⟨_,rfl⟩ (.cons ⟨_,rfl⟩ (.cons ⟨_,rfl⟩ (.nil))))
   (case z3x => dsimp only [P.ad]; exact ⟨_,rfl,by kernel_rfl⟩)
   (case z3z|z43 => dsimp only [P.ad]; exact ⟨_,rfl⟩)
  obtain ⟨t,T⟩:=T
  have e0:=hmg.symm.trans T.m_law
  cases e0
  exact ⟨_,fun s u => P.law_binds T s u,fun base kb nb => P.ok_law T⟩
 case S => exact fun K H a ns hl hO hS => P.law_start hl hS
 case C => exact fun H s e s' z => z
